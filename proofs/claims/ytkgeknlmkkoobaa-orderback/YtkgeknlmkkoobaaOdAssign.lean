/-
  Assignment: the program's.
-/
import Derived.Test.YtkgeknlmkkoobaaOdGW
namespace Go.Proofs.Ytkgeknlmkkoobaa
open Go.RowKit

def AsgOut (vs : List Md.Vr) (cs : List Md.Cn) (l : List Int) (w : World) (e : Ending) (w' : World) : Prop :=
  (∃ S N g, e = .returned (.tuple #[.slice (some ⟨S, 0, none⟩) N N, .bool true]) ∧ (N : Int) = Od.aK vs cs cs.length ∧ BoolsIs w' S N g ∧ Od.GV vs cs l g vs.length ∧ Od.GK vs cs l g cs.length) ∧ Below w.heap.size w w'
theorem und46' : Try.prog.underlying 46 = some (.slice 4) := by kernel_rfl
theorem mk46 (n : Nat) (h : n ≤ 1000000000) (w : World) : (Instr.makeSlice 46 (.int .i64 (n : Int)) (.int .i64 (n : Int))).run Try.prog w = .ok (.slice (some ⟨w.heap.size, 0, none⟩) n n) (w.alloc (.cells (madeCells #[.bool false] n) 4)) := by
  have := make_any (P := Try.prog) 46 4 _ 1 1 und46' info4' n (by omega) (by omega) w
  simpa [Value.cells] using this
def A7 (N lb li : Nat) (a0 a1 a2 v : Int) (w' : World) : Prop := w'.cell? ⟨N, 0, none⟩ = some (.int .i64 a0) ∧ w'.cell? ⟨N, 1, none⟩ = some (.int .i64 a1) ∧ w'.cell? ⟨N, 2, none⟩ = some (.int .i64 a2) ∧ w'.cell? ⟨lb, li, none⟩ = some (.int .i64 v) ∧ True
def A8 (N lb li : Nat) (a0 a1 a2 v : Int) (w' : World) : Prop := w'.cell? ⟨N, 3, none⟩ = some (.int .i64 a0) ∧ w'.cell? ⟨N, 4, none⟩ = some (.int .i64 a1) ∧ w'.cell? ⟨N, 5, none⟩ = some (.int .i64 a2) ∧ w'.cell? ⟨lb, li, none⟩ = some (.int .i64 v) ∧ True

set_option maxRecDepth 10000 in
set_option maxHeartbeats 4000000 in
theorem assignment_any {vs : List Md.Vr} {cs : List Md.Cn} {s : Sh} {V M Kq : Nat → Value} {B2 : Nat} {w : World} (h : Mk vs cs s V M Kq B2 w) (vl : Value) (l : List Int) (hI : IntsAt w vl l) (hl : l.length = vs.length) (hin : ∀ x (h : x < vs.length) (h2 : x < l.length), vs[x].lo ≤ l[x] ∧ l[x] ≤ vs[x].hi) :
    Calls Try.prog 14 #[.pointer (some ⟨s.P, 0, none⟩), vl] w (AsgOut vs cs l w) := by
  have hvl : vs.length ≤ 32 := h.g.n1
  have hcl : cs.length ≤ 64 := h.gc.n1
  have Hn : Hid (s.n = vs.length) := h.hn
  have Hq : Hid (s.nc = cs.length) := h.hq
  have HG : Hid (Od.Good vs) := h.g
  have HGC : Hid (Od.GoodC vs.length cs) := h.gc
  obtain ⟨la, lc, rfl, _⟩ := hI.form
  have HWi : Hid (Calls Try.prog 30 #[.pointer (some ⟨s.P, 0, none⟩), .slice la l.length lc] w fun e w' => e = .returned (.bool true) ∧ Below w.heap.size w w') := within_any h _ l hI hl hin
  have HM : Hid (∀ w', Below w.heap.size w w' → Mk vs cs s V M Kq B2 w') := fun w' hb => h.next hb
  have HI : Hid (∀ w', Below w.heap.size w w' → IntsAt w' (.slice la l.length lc) l) := fun w' hb => hI.below hb
  have Hl : Hid (l.length = vs.length) := hl
  obtain ⟨N, hN⟩ : ∃ N : Nat, (N : Int) = Od.aK vs cs cs.length := ⟨(Od.aK vs cs cs.length).toNat, by
    have := Od.aK_bd h.g h.gc cs.length (Nat.le_refl _)
    have := Od.aP_bd h.g cs vs.length (Nat.le_refl _)
    have := Od.aS_bd h.g vs.length (Nat.le_refl _)
    omega⟩
  have HN : Hid ((N : Int) = Od.aK vs cs cs.length) := hN
  have hNb : N ≤ 100000000 := by have := Od.aK_bd h.g h.gc cs.length (Nat.le_refl _); omega
  have hmk := mk46 N (by omega)
  clear h hI hl hin
  go_enter Try.func14, Try.ntmps14
  go_wp2_with fail
  refine calls_at HWi.out (by with_reducible rfl) (by with_reducible rfl) ?_
  rintro e w1 ⟨rfl, hb1⟩
  obtain ⟨W, hW⟩ : ∃ W, w1.alloc (.cells (madeCells #[.bool false] N) 4) = W := ⟨_, rfl⟩
  have hbW : Below w1.heap.size w1 W := by rw [← hW]; exact (Below.refl _ _).alloc (Nat.le_refl _) _
  have HR0 : Hid (BoolsIs W w1.heap.size N (fun _ => false)) := by
    show World.rowIs _ _ _ _ _
    rw [← hW]
    exact World.rowIs_made w1 (.bool false) N 4
  have HB1 : Hid (Below w.heap.size w w1) := hb1
  have HBW : Hid (Below w.heap.size w W) := hb1.trans (hbW.mono hb1.size)
  have Hle : Hid (w.heap.size ≤ w1.heap.size) := hb1.size
  obtain ⟨⟨c0, c1, c2, c3⟩, _⟩ := (HM.out w1 hb1).o.cells
  rw [← hN] at c0
  obtain ⟨⟨e0, e1, e2, e3⟩, _⟩ := (HM.out W HBW.out).o.cells
  have HSW : Hid (w1.heap.size < W.heap.size) := HR0.out.lt
  obtain ⟨S, hS⟩ : ∃ S, w1.heap.size = S := ⟨_, rfl⟩
  clear hb1 hbW HWi hN
  go_wp2_with fail
  rw [hS] at HR0 Hle HSW
  clear c0 c1 c2 c3 e0 e1 e2 e3 hmk hW hS HB1
  go_loopw [25] (fun iv wr => ∃ (k : Nat) (g : Nat → Bool), iv = .int .i64 (k : Int) ∧ k ≤ vs.length ∧ Hid (BoolsIs wr S N g) ∧ Hid (Od.GV vs cs l g k) ∧ Hid (Sp S w.heap.size W wr)) (fun iv _ => vs.length - (intOf iv).toNat)
  case atStart => exact ⟨0, _, rfl, Nat.zero_le _, HR0, (fun x _ h => absurd h (Nat.not_lt_zero _)), Sp.refl _ _ _⟩
  case round =>
    obtain ⟨k, g, rfl, hk, hR, hV, hT⟩ := hrel
    clear HR0
    have HBr : Hid (Below w.heap.size w wr) := HBW.out.trans hT.out.below
    by_cases hlt : k < vs.length
    · have hkI : (k : Int) < (s.n : Int) := by have := Hn.out; omega
      have hkl : k < l.length := by have := Hl.out; omega
      have hklI : (k : Int) < (l.length : Int) := by omega
      obtain ⟨v0, v1, v2, v3, v4, v5⟩ := (HM.out wr HBr.out).var k hlt
      obtain ⟨lb, lo', rfl, hlb, hlc⟩ := ints_all (HI.out w (Below.refl _ _)) (by omega)
      have HLc : Hid (∀ w', Below w.heap.size w w' → w'.cell? ⟨lb, lo' + k, none⟩ = some (.int .i64 l[k])) := fun w' hb => (hb.cell (p := ⟨lb, lo' + k, none⟩) hlb).trans (hlc k hkl)
      have hgd : l.getD k 0 = l[k] := by rw [List.getD_eq_getElem?_getD, List.getElem?_eq_getElem hkl]; rfl
      have HNx := hV.out.next HG.out hlt
      rw [hgd] at HNx
      have q1 := Od.aS_mono HG.out (x := k + 1) (y := vs.length) (by omega) (Nat.le_refl _)
      have q2 := Od.aP_bd HG.out cs vs.length (Nat.le_refl _)
      have q3 := Od.aK_bd HG.out HGC.out cs.length (Nat.le_refl _)
      have q4 := Od.aP_mono HG.out cs (x := k + 1) (y := vs.length) (by omega) (Nat.le_refl _)
      have q5 := HN.out
      rw [Od.aS_next hlt] at q1
      rw [Od.aP_next hlt] at q4
      have HA1 : Hid (∀ (w' : World) (g' : Nat → Bool), BoolsIs w' S N g' → Calls Try.prog 31 #[runVal (Od.stR vs k vs[k]), .slice (some ⟨S, 0, none⟩) N N, .int .i64 l[k]] w' fun e w'' => e = .returned (.tuple #[]) ∧ BoolsIs w'' S N (Od.asgB g' (Od.stR vs k vs[k]).a.toNat (Od.stR vs k vs[k]).size.toNat (pred31 (Od.stR vs k vs[k]).f l[k])) ∧ Sp S w.heap.size w' w'') := fun w' g' hr => assign31_any (Od.stR vs k vs[k]) S N N g' l[k] w' w.heap.size (Od.stR_fit HG.out k hlt) hr (by show Od.aS vs k + (vs[k].hi - (vs[k].lo + 1) + 1) ≤ (N : Int); omega) (Nat.le_refl _) (by omega) Hle.out
      have HA2 : Hid (∀ (w' : World) (g' : Nat → Bool), BoolsIs w' S N g' → Calls Try.prog 32 #[runVal (Od.ptR vs cs k vs[k]), .slice (some ⟨S, 0, none⟩) N N, .int .i64 l[k]] w' fun e w'' => e = .returned (.tuple #[]) ∧ BoolsIs w'' S N (Od.asgB g' (Od.ptR vs cs k vs[k]).a.toNat (Od.ptR vs cs k vs[k]).size.toNat (pred32 (Od.ptR vs cs k vs[k]).f l[k])) ∧ Sp S w.heap.size w' w'') := fun w' g' hr => assign32_any (Od.ptR vs cs k vs[k]) S N N g' l[k] w' w.heap.size (Od.ptR_fit HG.out cs k hlt) hr (by show Od.aP vs cs k + (Od.pTo cs vs[k] k - vs[k].lo + 1) ≤ (N : Int); omega) (Nat.le_refl _) (by omega) Hle.out
      have HGn : Hid (Od.GV vs cs l (Od.asgB (Od.asgB g (Od.stR vs k vs[k]).a.toNat (Od.stR vs k vs[k]).size.toNat (pred31 (Od.stR vs k vs[k]).f l[k])) (Od.ptR vs cs k vs[k]).a.toNat (Od.ptR vs cs k vs[k]).size.toNat (pred32 (Od.ptR vs cs k vs[k]).f l[k])) (k + 1)) := HNx
      clear q1 q2 q3 q4 q5 HNx hgd hlc
      have l0 := HLc.out wr HBr.out
      unfold runVal at HA1 HA2
      generalize hsr : Od.stR vs k vs[k] = sr at *
      generalize hpr : Od.ptR vs cs k vs[k] = pr at *
      have f1 : sr.a = Od.aS vs k ∧ sr.f = vs[k].lo + 1 ∧ sr.t = vs[k].hi := by rw [← hsr]; exact ⟨rfl, rfl, rfl⟩
      have f2 : pr.a = Od.aP vs cs k ∧ pr.f = vs[k].lo ∧ pr.t = Od.pTo cs vs[k] k := by rw [← hpr]; exact ⟨rfl, rfl, rfl⟩
      rw [← f1.1] at v0
      rw [← f1.2.1] at v1
      rw [← f1.2.2] at v2
      rw [← f2.1] at v3
      rw [← f2.2.1] at v4
      rw [← f2.2.2] at v5
      clear hsr hpr f1 f2
      generalize l[k] = lv at *
      obtain ⟨sa, sf, stt⟩ := sr
      obtain ⟨pa, pf, pt⟩ := pr
      simp only at v0 v1 v2 v3 v4 v5 HA1 HA2 HGn
      generalize Od.Run.size ⟨sa, sf, stt⟩ = sz at *
      generalize Od.Run.size ⟨pa, pf, pt⟩ = pz at *
      obtain ⟨X, hX⟩ : ∃ X, wr.alloc (.cells #[.int .i64 sa, .int .i64 sf, .int .i64 stt, .int .i64 pa, .int .i64 pf, .int .i64 pt] 77) = X := ⟨_, rfl⟩
      have hbX : Below wr.heap.size wr X := by rw [← hX]; exact (Below.refl _ _).alloc (Nat.le_refl _) _
      have hNX : X.heap[wr.heap.size]? = some (.cells #[.int .i64 sa, .int .i64 sf, .int .i64 stt, .int .i64 pa, .int .i64 pf, .int .i64 pt] 77) := by rw [← hX]; exact heap_alloc_new wr _
      have HSr : Hid (S < wr.heap.size) := hR.out.lt
      have HNX : Hid (∀ w', Off (fun b => b = S) X w' → w'.heap[wr.heap.size]? = some (.cells #[.int .i64 sa, .int .i64 sf, .int .i64 stt, .int .i64 pa, .int .i64 pf, .int .i64 pt] 77)) := fun w' hb => (hb.block _ (Array.getElem?_eq_some_iff.1 hNX).1 (fun e => by have := HSr.out; omega)).trans hNX
      have HTX : Hid (Sp S w.heap.size W X) := hT.out.trans (Sp.of_below hbX HBr.out.size)
      have HBX : Hid (∀ w', Sp S w.heap.size X w' → Below w.heap.size w w') := fun w' hb => (HBW.out.trans HTX.out.below).trans hb.below
      have HRX : Hid (BoolsIs X S N g) := hR.out.next hbX
      have HszX : Hid (w.heap.size ≤ X.heap.size) := (HBX.out X (Sp.refl _ _ _)).size
      have HC7 : Hid (∀ w', Sp S w.heap.size X w' → A7 wr.heap.size lb (lo' + k) sa sf stt lv w') := fun w' hb => ⟨(box6' (HNX.out w' hb.off)).1, (box6' (HNX.out w' hb.off)).2.1, (box6' (HNX.out w' hb.off)).2.2.1, HLc.out w' (HBX.out w' hb), trivial⟩
      have HC8 : Hid (∀ w', Sp S w.heap.size X w' → A8 wr.heap.size lb (lo' + k) pa pf pt lv w') := fun w' hb => ⟨(box6' (HNX.out w' hb.off)).2.2.2.1, (box6' (HNX.out w' hb.off)).2.2.2.2.1, (box6' (HNX.out w' hb.off)).2.2.2.2.2, HLc.out w' (HBX.out w' hb), trivial⟩
      clear hbX hNX
      go_wp2_with fail
      clear v0 v1 v2 v3 v4 v5 l0 hX
      refine wp_region_T (fun _ => True) (A7 wr.heap.size lb (lo' + k) sa sf stt lv) [7] (by kernel_rfl) ⟨trivial, HC7.out X.drew (Sp.of_below (Below.refl _ _).drew HszX.out)⟩ (fun hHeld => ?_)
      unfold A7 at hHeld ⊢
      refine wpAnyT_takeB (i := 0) (oi := ⟨some 30, .fieldAddr 77 (.tmp 8) 0, _, _, _, _⟩) (v := ?vR7c1x0) rfl (by kernel_rfl) (by kernel_rfl) (by kernel_rfl) (by kernel_rfl) (fun _ _ _ h => h) (Or.inl ⟨by rfl, ?hyR7c1x0⟩) (by assumption) ?restR7c1x0
      case hyR7c1x0 => (intro w hSw; (try dsimp only at hSw); go_simp; try (with_reducible rfl))
      try simp only [Act.put, List.setIfInBounds_toArray, List.set_cons_zero, List.set_cons_succ]
      refine wpAnyT_take (i := 1) (oi := ⟨some 31, .load 74 (.tmp 30), _, _, _, _⟩) (v := ?vR7c1x1) rfl (by kernel_rfl) (by kernel_rfl) (by kernel_rfl) (by kernel_rfl) (by kernel_rfl) (fun _ _ _ h => h) (Or.inl ⟨by rfl, ?hyR7c1x1⟩) (by assumption) ?restR7c1x1
      case hyR7c1x1 => (intro w hSw; (try dsimp only at hSw); go_simp; try (with_reducible rfl))
      try simp only [Act.put, List.setIfInBounds_toArray, List.set_cons_zero, List.set_cons_succ]
      refine wpAnyT_takeB (i := 2) (oi := ⟨some 32, .move (.tmp 6), _, _, _, _⟩) (v := ?vR7c1x2) rfl (by kernel_rfl) (by kernel_rfl) (by kernel_rfl) (by kernel_rfl) (fun _ _ _ h => h) (Or.inl ⟨by rfl, ?hyR7c1x2⟩) (by assumption) ?restR7c1x2
      case hyR7c1x2 => (intro w hSw; (try dsimp only at hSw); go_simp; try (with_reducible rfl))
      try simp only [Act.put, List.setIfInBounds_toArray, List.set_cons_zero, List.set_cons_succ]
      refine wpAnyT_takeB (i := 3) (oi := ⟨some 33, .move (.tmp 1), _, _, _, _⟩) (v := ?vR7c1x3) rfl (by kernel_rfl) (by kernel_rfl) (by kernel_rfl) (by kernel_rfl) (fun _ _ _ h => h) (Or.inl ⟨by rfl, ?hyR7c1x3⟩) (by assumption) ?restR7c1x3
      case hyR7c1x3 => (intro w hSw; (try dsimp only at hSw); go_simp; try (with_reducible rfl))
      try simp only [Act.put, List.setIfInBounds_toArray, List.set_cons_zero, List.set_cons_succ]
      refine wpAnyT_takeB (i := 4) (oi := ⟨some 34, .move (.tmp 7), _, _, _, _⟩) (v := ?vR7c1x4) rfl (by kernel_rfl) (by kernel_rfl) (by kernel_rfl) (by kernel_rfl) (fun _ _ _ h => h) (Or.inl ⟨by rfl, ?hyR7c1x4⟩) (by assumption) ?restR7c1x4
      case hyR7c1x4 => (intro w hSw; (try dsimp only at hSw); go_simp; try (with_reducible rfl))
      try simp only [Act.put, List.setIfInBounds_toArray, List.set_cons_zero, List.set_cons_succ]
      refine wpAnyT_takeB (i := 5) (oi := ⟨some 35, .indexAddr 27 (.tmp 33) (.tmp 34), _, _, _, _⟩) (v := ?vR7c1x5) rfl (by kernel_rfl) (by kernel_rfl) (by kernel_rfl) (by kernel_rfl) (fun _ _ _ h => h) (Or.inl ⟨by rfl, ?hyR7c1x5⟩) (by assumption) ?restR7c1x5
      case hyR7c1x5 => (intro w hSw; (try dsimp only at hSw); go_simp; try (with_reducible rfl))
      try simp only [Act.put, List.setIfInBounds_toArray, List.set_cons_zero, List.set_cons_succ]
      refine wpAnyT_take (i := 6) (oi := ⟨some 36, .load 3 (.tmp 35), _, _, _, _⟩) (v := ?vR7c1x6) rfl (by kernel_rfl) (by kernel_rfl) (by kernel_rfl) (by kernel_rfl) (by kernel_rfl) (fun _ _ _ h => h) (Or.inl ⟨by rfl, ?hyR7c1x6⟩) (by assumption) ?restR7c1x6
      case hyR7c1x6 => (intro w hSw; (try dsimp only at hSw); go_simp; try (with_reducible rfl))
      try simp only [Act.put, List.setIfInBounds_toArray, List.set_cons_zero, List.set_cons_succ]
      refine wpAnyT_late (i := 7) (o := ⟨some 37, .call { callee := .value (.func 31), args := #[(.tmp 31), (.tmp 32), (.tmp 36)], argTypes := #[74, 46, 3] }, _, _, _, _⟩) (by kernel_rfl) rfl (by kernel_rfl) (fun K hK => ?_)
      go_simp
      refine calls_at (HA1.out _ g (HRX.out.next (Below.refl _ _).drew)) (by with_reducible rfl) (by with_reducible rfl) ?_
      rintro e w2 ⟨rfl, hr2, hs2⟩
      go_wp2_with fail
      have HR2 : Hid (BoolsIs w2 S N (Od.asgB g sa.toNat sz.toNat (pred31 sf lv))) := hr2
      have HS2 : Hid (Sp S w.heap.size X w2) := (Sp.of_below (Below.refl _ _).drew HszX.out).trans hs2
      refine hK.out _ _ ?sh71 ?rest71
      case sh71 => ((try dsimp only); all_goals trivial)
      clear hK K hr2 hs2
      refine wpAnyT_done (by kernel_rfl) ?_ _
      have Hsz2 : Hid (w.heap.size ≤ w2.heap.size) := Nat.le_trans HszX.out HS2.out.size
      clear hHeld
      go_wp2_with fail
      refine wp_region_T (fun _ => True) (A8 wr.heap.size lb (lo' + k) pa pf pt lv) [7] (by kernel_rfl) ⟨trivial, HC8.out w2.drew (HS2.out.trans (Sp.of_below (Below.refl _ _).drew Hsz2.out))⟩ (fun hHeld => ?_)
      unfold A8 at hHeld ⊢
      refine wpAnyT_takeB (i := 0) (oi := ⟨some 38, .fieldAddr 77 (.tmp 8) 1, _, _, _, _⟩) (v := ?vR8c2x0) rfl (by kernel_rfl) (by kernel_rfl) (by kernel_rfl) (by kernel_rfl) (fun _ _ _ h => h) (Or.inl ⟨by rfl, ?hyR8c2x0⟩) (by assumption) ?restR8c2x0
      case hyR8c2x0 => (intro w hSw; (try dsimp only at hSw); go_simp; try (with_reducible rfl))
      try simp only [Act.put, List.setIfInBounds_toArray, List.set_cons_zero, List.set_cons_succ]
      refine wpAnyT_take (i := 1) (oi := ⟨some 39, .load 75 (.tmp 38), _, _, _, _⟩) (v := ?vR8c2x1) rfl (by kernel_rfl) (by kernel_rfl) (by kernel_rfl) (by kernel_rfl) (by kernel_rfl) (fun _ _ _ h => h) (Or.inl ⟨by rfl, ?hyR8c2x1⟩) (by assumption) ?restR8c2x1
      case hyR8c2x1 => (intro w hSw; (try dsimp only at hSw); go_simp; try (with_reducible rfl))
      try simp only [Act.put, List.setIfInBounds_toArray, List.set_cons_zero, List.set_cons_succ]
      refine wpAnyT_takeB (i := 2) (oi := ⟨some 40, .move (.tmp 6), _, _, _, _⟩) (v := ?vR8c2x2) rfl (by kernel_rfl) (by kernel_rfl) (by kernel_rfl) (by kernel_rfl) (fun _ _ _ h => h) (Or.inl ⟨by rfl, ?hyR8c2x2⟩) (by assumption) ?restR8c2x2
      case hyR8c2x2 => (intro w hSw; (try dsimp only at hSw); go_simp; try (with_reducible rfl))
      try simp only [Act.put, List.setIfInBounds_toArray, List.set_cons_zero, List.set_cons_succ]
      refine wpAnyT_takeB (i := 3) (oi := ⟨some 41, .move (.tmp 1), _, _, _, _⟩) (v := ?vR8c2x3) rfl (by kernel_rfl) (by kernel_rfl) (by kernel_rfl) (by kernel_rfl) (fun _ _ _ h => h) (Or.inl ⟨by rfl, ?hyR8c2x3⟩) (by assumption) ?restR8c2x3
      case hyR8c2x3 => (intro w hSw; (try dsimp only at hSw); go_simp; try (with_reducible rfl))
      try simp only [Act.put, List.setIfInBounds_toArray, List.set_cons_zero, List.set_cons_succ]
      refine wpAnyT_takeB (i := 4) (oi := ⟨some 42, .move (.tmp 7), _, _, _, _⟩) (v := ?vR8c2x4) rfl (by kernel_rfl) (by kernel_rfl) (by kernel_rfl) (by kernel_rfl) (fun _ _ _ h => h) (Or.inl ⟨by rfl, ?hyR8c2x4⟩) (by assumption) ?restR8c2x4
      case hyR8c2x4 => (intro w hSw; (try dsimp only at hSw); go_simp; try (with_reducible rfl))
      try simp only [Act.put, List.setIfInBounds_toArray, List.set_cons_zero, List.set_cons_succ]
      refine wpAnyT_takeB (i := 5) (oi := ⟨some 43, .indexAddr 27 (.tmp 41) (.tmp 42), _, _, _, _⟩) (v := ?vR8c2x5) rfl (by kernel_rfl) (by kernel_rfl) (by kernel_rfl) (by kernel_rfl) (fun _ _ _ h => h) (Or.inl ⟨by rfl, ?hyR8c2x5⟩) (by assumption) ?restR8c2x5
      case hyR8c2x5 => (intro w hSw; (try dsimp only at hSw); go_simp; try (with_reducible rfl))
      try simp only [Act.put, List.setIfInBounds_toArray, List.set_cons_zero, List.set_cons_succ]
      refine wpAnyT_take (i := 6) (oi := ⟨some 44, .load 3 (.tmp 43), _, _, _, _⟩) (v := ?vR8c2x6) rfl (by kernel_rfl) (by kernel_rfl) (by kernel_rfl) (by kernel_rfl) (by kernel_rfl) (fun _ _ _ h => h) (Or.inl ⟨by rfl, ?hyR8c2x6⟩) (by assumption) ?restR8c2x6
      case hyR8c2x6 => (intro w hSw; (try dsimp only at hSw); go_simp; try (with_reducible rfl))
      try simp only [Act.put, List.setIfInBounds_toArray, List.set_cons_zero, List.set_cons_succ]
      refine wpAnyT_late (i := 7) (o := ⟨some 45, .call { callee := .value (.func 32), args := #[(.tmp 39), (.tmp 40), (.tmp 44)], argTypes := #[75, 46, 3] }, _, _, _, _⟩) (by kernel_rfl) rfl (by kernel_rfl) (fun K hK => ?_)
      go_simp
      refine calls_at (HA2.out _ _ (HR2.out.next (Below.refl _ _).drew)) (by with_reducible rfl) (by with_reducible rfl) ?_
      rintro e w3 ⟨rfl, hr3, hs3⟩
      go_wp2_with fail
      have HR3 : Hid (BoolsIs w3 S N (Od.asgB (Od.asgB g sa.toNat sz.toNat (pred31 sf lv)) pa.toNat pz.toNat (pred32 pf lv))) := hr3
      have HS3 : Hid (Sp S w.heap.size W w3) := HTX.out.trans (HS2.out.trans ((Sp.of_below (Below.refl _ _).drew Hsz2.out).trans hs3))
      refine hK.out _ _ ?sh72 ?rest72
      case sh72 => ((try dsimp only); all_goals trivial)
      clear hK K hr3 hs3
      refine wpAnyT_done (by kernel_rfl) ?_ _
      clear hHeld
      go_wp2_with fail
      go_roundw
      case rel => exact ⟨k + 1, _, by go_num, by omega, HR3, HGn, HS3⟩
      case measure => simp [intOf]; omega
    · have hkI : ¬ (k : Int) < (s.n : Int) := by have := Hn.out; omega
      obtain rfl : k = vs.length := by omega
      rename World => wk
      obtain ⟨⟨c0, c1, c2, c3⟩, _⟩ := (HM.out wk HBr.out).o.cells
      go_wp2_with fail
      clear c0 c1 c2 c3
      go_loopw [52] (fun iv wr => ∃ (k : Nat) (g : Nat → Bool), iv = .int .i64 (k : Int) ∧ k ≤ cs.length ∧ Hid (BoolsIs wr S N g) ∧ Hid (Od.GV vs cs l g vs.length) ∧ Hid (Od.GK vs cs l g k) ∧ Hid (Sp S w.heap.size W wr)) (fun iv _ => cs.length - (intOf iv).toNat)
      case atStart => exact ⟨0, _, rfl, Nat.zero_le _, hR, hV, (fun c _ h => absurd h (Nat.not_lt_zero _)), hT⟩
      case round =>
        obtain ⟨j, g2, rfl, hj, hRj, hVj, hKj, hTj⟩ := hrel
        rename World => wq
        have HBq : Hid (Below w.heap.size w wq) := HBW.out.trans hTj.out.below
        by_cases hjl : j < cs.length
        · have hjI : (j : Int) < (s.nc : Int) := by have := Hq.out; omega
          obtain ⟨vx, vr, ⟨v0, v1, v2, v3, v4⟩, e1, e2, hP⟩ := (HM.out wq HBq.out).con j hjl
          obtain ⟨vx0, vr0, hcc0, e10, e20, hP0⟩ := (HM.out w (Below.refl _ _)).con j hjl
          rw [← e1] at e10
          rw [← e2] at e20
          rw [e10, e20] at hP0
          clear e1 e2 hcc0 e10 e20 vx0 vr0
          obtain ⟨hGn, hKn⟩ := Od.GK.next HG.out HGC.out hVj.out hKj.out hjl
          have q3 := Od.aK_mono (vs := vs) (cs := cs) (x := j + 1) (y := cs.length) (by omega) (Nat.le_refl _)
          have q5 := HN.out
          rw [Od.aK_next hjl] at q3
          have hx1 := HGC.out.x j hjl
          have hx2 := HGC.out.t j hjl
          have HA : Hid (∀ (w' : World), Below w.heap.size w w' → BoolsIs w' S N g2 → Calls Try.prog 33 #[.agg #[.int .i64 (Od.aK vs cs j), .int .i64 0, .int .i64 ((Od.rN cs[j] : Int) - 1), vx, vr], .slice (some ⟨S, 0, none⟩) N N, .slice la l.length lc] w' fun e w'' => e = .returned (.tuple #[]) ∧ BoolsIs w'' S N (Od.asgB g2 (Od.pkR vs cs j cs[j]).a.toNat (Od.pkR vs cs j cs[j]).size.toNat (Od.pickP (Od.rowsOf cs[j]) (Od.xsOf cs[j]) l)) ∧ Sp S w.heap.size w' w'') := fun w' hb hr => by
            refine assign33_any (Od.pkR vs cs j cs[j]) cs[j] vx vr S N N B2 g2 _ l w' w.heap.size (Od.pkR_fit HG.out HGC.out j hjl) (hP0.off (S := fun _ => False) (fun _ h => h.elim) (Off.of_below hb)) ?_ ?_ ?_ (HI.out w' hb) hr ?_ (Nat.le_refl _) (by omega) Hle.out ?_
            · rw [← Od.rN_len]; simp only [Od.pkR, Od.Run.size]; omega
            · unfold Od.xsOf; split
              · rename_i h8; exact (hx2 h8).1
              · exact Nat.zero_le _
            · unfold Od.xsOf; split
              · intro y hy; have := hx1 y hy; have := Hl.out; omega
              · intro y hy; simp at hy
            · show Od.aK vs cs j + ((Od.rN cs[j] : Int) - 1 - 0 + 1) ≤ (N : Int); omega
            · intro E hE
              rcases hP0.r with ⟨_, h2⟩ | ⟨E', h2, _, h4⟩
              · rw [h2] at hE; cases hE
              · rw [h2] at hE
                injection hE with hE1
                injection hE1 with hE2
                injection hE2 with hE3
                have := h4.lt
                have := Hle.out
                omega
          have HGn : Hid (Od.GV vs cs l (Od.asgB g2 (Od.pkR vs cs j cs[j]).a.toNat (Od.pkR vs cs j cs[j]).size.toNat (Od.pickP (Od.rowsOf cs[j]) (Od.xsOf cs[j]) l)) vs.length) := hGn
          have HKn : Hid (Od.GK vs cs l (Od.asgB g2 (Od.pkR vs cs j cs[j]).a.toNat (Od.pkR vs cs j cs[j]).size.toNat (Od.pickP (Od.rowsOf cs[j]) (Od.xsOf cs[j]) l)) (j + 1)) := hKn
          generalize Od.asgB g2 (Od.pkR vs cs j cs[j]).a.toNat (Od.pkR vs cs j cs[j]).size.toNat (Od.pickP (Od.rowsOf cs[j]) (Od.xsOf cs[j]) l) = g3 at *
          obtain ⟨⟨xa, xn, xc, rfl⟩, ⟨ra, rn, rc, rfl⟩⟩ := hP.forms
          clear q3 q5 hx1 hx2 hP hP0 hGn hKn
          generalize Od.aK vs cs j = ak at *
          generalize (Od.rN cs[j] : Int) - 1 = rn1 at *
          obtain ⟨X, hX⟩ : ∃ X, wq.alloc (.cells #[.int .i64 ak, .int .i64 0, .int .i64 rn1, .slice xa xn xc, .slice ra rn rc] 86) = X := ⟨_, rfl⟩
          have hbX : Below wq.heap.size wq X := by rw [← hX]; exact (Below.refl _ _).alloc (Nat.le_refl _) _
          have hNX : X.heap[wq.heap.size]? = some (.cells #[.int .i64 ak, .int .i64 0, .int .i64 rn1, .slice xa xn xc, .slice ra rn rc] 86) := by rw [← hX]; exact heap_alloc_new wq _
          have HTX : Hid (Sp S w.heap.size W X) := hTj.out.trans (Sp.of_below hbX HBq.out.size)
          have HRX : Hid (BoolsIs X S N g2) := hRj.out.next hbX
          obtain ⟨⟨p0, p1, p2, p3, p4⟩, _⟩ := box5 hNX
          clear hbX hNX
          go_wp2_with fail
          refine calls_at (HA.out _ (HBW.out.trans HTX.out.below) HRX.out) (by with_reducible rfl) (by with_reducible rfl) ?_
          rintro e w2 ⟨rfl, hr2, hs2⟩
          have HR2 : Hid (BoolsIs w2 S N g3) := hr2
          have HS2 : Hid (Sp S w.heap.size W w2) := HTX.out.trans hs2
          clear hr2 hs2 p0 p1 p2 p3 p4 v0 v1 v2 v3 v4 hX
          go_wp2_with fail
          go_roundw
          case rel => exact ⟨j + 1, _, by go_num, by omega, HR2, HGn, HKn, HS2⟩
          case measure => simp [intOf]; omega
        · have hjI : ¬ (j : Int) < (s.nc : Int) := by have := Hq.out; omega
          obtain rfl : j = cs.length := by omega
          go_wp2_with fail
          go_ret2
          exact ⟨⟨S, N, g2, rfl, HN.out, hRj.out, hVj.out, hKj.out⟩, HBq.out⟩
end Go.Proofs.Ytkgeknlmkkoobaa
