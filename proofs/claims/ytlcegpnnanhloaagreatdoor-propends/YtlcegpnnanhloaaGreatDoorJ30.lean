/-
  Put together: DmCopy, DmNew, DmOpen, DmDoes, DmBackM, PpLeft.
-/
import Derived.Test.YtlcegpnnanhloaaGreatDoorDmBack
import Derived.Lib.SliceRun
import Derived.Test.YtlcegpnnanhloaaGreatDoorJ15
import Derived.Test.YtlcegpnnanhloaaGreatDoorJ26
import Derived.Shelf.Abstract
namespace Go.Proofs.YtlcegpnnanhloaaGreatDoor
open Go.RowKit

theorem bl_alloc {W a : World} (h : Below W.heap.size W a) (o : Obj) : Below W.heap.size W (a.alloc o) := h.alloc h.size o
/-- What Clone leaves. -/
def ClOut (L : List Dm) (w : World) (e : Ending) (w' : World) : Prop := ∃ v, e = .returned v ∧ w'.ownsRow w.heap.size 86 3 v L.length (dms L) ∧ Below w.heap.size w w'
set_option maxRecDepth 10000 in
set_option maxHeartbeats 1000000 in
theorem clone_any (B : Nat) (v : Value) (L : List Dm) (w : World) (h : w.ownsRow B 86 3 v L.length (dms L)) (hl : L.length ≤ 400000) : Calls Tryz.prog 39 #[v] w (ClOut L w) := by
  have q57 : ∀ (w : World) (a : Option Addr) (n c n' c' : Nat), (binOp .eql 77 (.slice a n c) (.slice none n' c')).run Tryz.prog w = .ok (.bool a.isNone) w := fun w a n c n' c' => Lib.run_eql_slice_nil w _ _ a n c n' c' und57
  have hs := row_src h
  obtain ⟨a, cap, rfl⟩ := own_slice h
  cases a with
  | none =>
    have h0 : L = [] := by
      rcases h.2 with ⟨_, h2⟩ | ⟨g, cp, cur, e1, _⟩
      · exact List.length_eq_zero_iff.1 h2
      · injection e1 with e1
        cases e1
    subst h0
    clear h hs hl
    go_enter Tryz.func39, Tryz.ntmps39
    go_wp2_with fail
    go_ret
    exact ⟨_, rfl, World.ownsRow_nil _ _ _ _, Below.refl _ _⟩
  | some ad =>
    obtain ⟨W, hW⟩ : ∃ W, w.alloc (.cells #[] 86) = W := ⟨_, rfl⟩
    have hbW : Below w.heap.size w W := by rw [← hW]; exact (Below.refl _ _).alloc (Nat.le_refl _) _
    have HBW : Hid (Below w.heap.size w W) := hbW
    have HO : Hid (W.ownsRow w.heap.size 86 3 (.slice (some ⟨w.heap.size, 0, none⟩) 0 0) 0 []) := by
      refine ⟨rfl, .inr ⟨w.heap.size, 0, #[], rfl, Nat.le_refl _, ?_, Nat.le_refl _, Nat.zero_le _, rfl, rfl⟩⟩
      rw [← hW]; exact heap_alloc_new w _
    have HS : Hid (SrcAt W (.slice (some ad) L.length cap) L.length 3 (dms L)) := row_src (own_below h hbW)
    clear hs h hbW
    go_enter Tryz.func39, Tryz.ntmps39
    go_wp2_with (first
      | (at_builtin; refine append_src W rfl (.tmp 5) (.tmp 6) 77 86 (.agg #[.int .i64 0, .int .u32 0, .int .u32 0]) 3 16 rfl und57 info67b rfl (by decide) w.heap.size _ _ 0 L.length [] _ (by rfl) (by rfl) HO.out HS.out (by unfold maxLen; omega) (by omega) HBW.out.size ?_; intro v1 w1 ho1 hg1 hn1))
    have HO1 : Hid (w1.ownsRow w.heap.size 86 3 v1 L.length (dms L)) := by
      show World.ownsRow _ _ _ _ _ _ _
      rw [Nat.zero_add, List.nil_append] at ho1
      exact ho1
    have HB1 : Hid (Below w.heap.size w w1) := HBW.out.grown hg1 HBW.out.size (fun g hg => by simp [Value.ownBlock] at hg; omega)
    clear ho1 hg1 hn1
    go_wp2_with fail
    go_ret
    exact ⟨_, rfl, HO1.out, HB1.out⟩

/-- What Copy leaves: a store of its own. -/
def CopyOut (s : St) (w : World) (e : Ending) (w' : World) : Prop := ∃ p nv mv, e = .returned (.pointer (some ⟨p, 0, none⟩)) ∧ StAt w.heap.size w' p nv mv s ∧ Below w.heap.size w w'
set_option maxRecDepth 10000 in
set_option maxHeartbeats 1000000 in
theorem copy_any (B p : Nat) (nv mv : Value) (s : St) (w : World) (h : StAt B w p nv mv s) : Calls Tryz.prog 16 #[.pointer (some ⟨p, 0, none⟩)] w (CopyOut s w) := by
  have hlt := h.lt
  have hlen : s.noted.length ≤ 400000 := by
    have h1 := h.len
    have h2 := h.n32
    have h3 := h.mks
    have := Nat.mul_le_mul h3 h2
    omega
  have HA : Hid (StAt B w p nv mv s) := h
  have HS : Hid (∀ w', Below w.heap.size w w' → w'.cell? ⟨p, 0, none⟩ = some nv ∧ w'.cell? ⟨p, 1, none⟩ = some mv ∧ w'.cell? ⟨p, 2, none⟩ = some (.int .i64 (s.marks : Int)) ∧ Below w.heap.size w w') := fun w' hb =>
    ⟨cell_of (h.below hb).o 0, cell_of (h.below hb).o 1, cell_of (h.below hb).o 2, hb⟩
  have HC1 : Hid (∀ w', Below w.heap.size w w' → Calls Tryz.prog 39 #[nv] w' (ClOut s.now w')) := fun w' hb => clone_any B nv s.now w' (h.below hb).n (by have := h.n32; omega)
  have HC2 : Hid (∀ w', Below w.heap.size w w' → Calls Tryz.prog 39 #[mv] w' (ClOut s.noted w')) := fun w' hb => clone_any B mv s.noted w' (h.below hb).m hlen
  clear h hlen
  go_enter Tryz.func16, Tryz.ntmps16
  go_wp2_with fail
  go_region_held3 (fun w' => w'.cell? ⟨p, 0, none⟩ = some nv ∧ w'.cell? ⟨p, 1, none⟩ = some mv ∧ w'.cell? ⟨p, 2, none⟩ = some (.int .i64 (s.marks : Int)) ∧ Below w.heap.size w w')
    (first | exact HS.out _ (Below.refl _ _).drew | exact HS.out _ (bl_next (And.right (And.right (And.right (by assumption)))) (by assumption)) | exact HS.out _ (bl_alloc (And.right (And.right (And.right (by assumption)))) _) | exact HS.out _ (bl_alloc (bl_next (And.right (And.right (And.right (by assumption)))) (by assumption)) _) | assumption)
    (first
      | (go_at_call 39; refine calls_at (HC1.out w.drew (Below.refl _ _).drew) (by with_reducible rfl) (by with_reducible rfl) ?_; rintro e w1 ⟨v1, rfl, ho1, hb1⟩; (have HO1 : Hid (w1.ownsRow w.heap.size 86 3 v1 s.now.length (dms s.now)) := ho1); obtain ⟨a1, k1, rfl⟩ := own_slice ho1; clear ho1)
      | (go_at_call 39; refine calls_at (HC2.out w1 (And.right (And.right (And.right (by assumption))))) (by with_reducible rfl) (by with_reducible rfl) ?_; rintro e w2 ⟨v2, rfl, ho2, hb2⟩; (have HO2 : Hid (w2.ownsRow w1.heap.size 86 3 v2 s.noted.length (dms s.noted)) := ho2); (have HB2 : Hid (Below w1.heap.size w1 w2) := hb2); (have HB1 : Hid (Below w.heap.size w w1) := And.right (And.right (And.right (by assumption)))); obtain ⟨a2, k2, rfl⟩ := own_slice ho2; clear ho2))
  go_wp2_with fail
  go_ret
  have hB : Below w.heap.size w w2 := bl_next HB1.out HB2.out
  have hX : Below w2.heap.size w2 (w2.alloc (.cells #[.slice a1 s.now.length k1, .slice a2 s.noted.length k2, .int .i64 (s.marks : Int)] 79)) := (Below.refl _ _).alloc (Nat.le_refl _) _
  refine ⟨w2.heap.size, .slice a1 s.now.length k1, .slice a2 s.noted.length k2, rfl, ?_, bl_next hB hX⟩
  have hn2 := own_below HO1.out HB2.out
  exact {
    o := heap_alloc_new w2 _
    n := own_below hn2 hX
    m := own_less (own_below HO2.out hX) HB1.out.size
    b1 := Nat.lt_of_le_of_lt (Nat.zero_le _) hlt
    p1 := hB.size
    ne1 := fun e => Nat.lt_irrefl _ (row_lt hn2 e).2
    ne2 := fun e => Nat.lt_irrefl _ (row_lt HO2.out e).2
    ne3 := fun k hk e => by
      have h1 := (row_lt HO1.out hk).2
      have h2 := (row_lt HO2.out e).1
      omega
    good := HA.out.good
    goodm := HA.out.goodm
    len := HA.out.len
    n32 := HA.out.n32
    mks := HA.out.mks }

end Go.Proofs.YtlcegpnnanhloaaGreatDoor

namespace Go.Proofs.YtlcegpnnanhloaaGreatDoor
open Go.RowKit

/-- All values of a variable. -/
def wholeD (v : Md.Vr) : Dm := ⟨v.lo, wWd v.lo v.hi 0, wWd v.lo v.hi 1⟩
/-- The store that New makes. -/
def newS (m : Md.Mo) : St := if (Md.check m).2 = 0 then ⟨m.vars.map wholeD, [], 0⟩ else ⟨[], [], 0⟩
theorem wholeD_ok {v : Md.Vr} (h : Md.boundsB v.lo v.hi = true) : (wholeD v).Ok := by
  have hb := Md.bounds_of h
  exact ⟨hb.1.1, hb.1.2, isW_bits .andNot _ _, isW_bits .andNot _ _⟩
/-- One variable more. -/
theorem new_at {B p k : Nat} {na na2 : Option Addr} {nc nc2 : Nat} {L M : List Dm} {d : Dm} {X w2 : World} (h : StAt B X p (.slice na k nc) (.slice none 0 0) ⟨L, [], 0⟩) (hl : L.length = k) (hM : M = L ++ [d]) (hd : d.Ok) (hk : k + 1 ≤ 32)
    (g1 : w2.ownsRow B 86 3 (.slice na2 (k + 1) nc2) (k + 1) (dms L ++ dms [d])) (g2 : X.grownBy w2 (Value.slice na k nc).ownBlock) (g3 : (Value.slice na2 (k + 1) nc2).ownBlock = (Value.slice na k nc).ownBlock ∨ (Value.slice na2 (k + 1) nc2).ownBlock = some X.heap.size) :
    StAt B (w2.setCell ⟨p, 0, none⟩ (.slice na2 (k + 1) nc2)) p (.slice na2 (k + 1) nc2) (.slice none 0 0) ⟨M, [], 0⟩ ∧ Below B X (w2.setCell ⟨p, 0, none⟩ (.slice na2 (k + 1) nc2)) := by
  subst hM
  have hlt := h.lt
  have hne : (Value.slice na2 (k + 1) nc2).ownBlock ≠ some p := fun e => by
    rcases g3 with g3 | g3
    · exact h.ne1 (g3.symm.trans e)
    · rw [g3] at e
      injection e with e
      omega
  have gp := (g2.block p hlt (fun e => h.ne1 e.symm)).trans h.o
  have hE := heap_setCell_same w2 p 0 _ 79 (.slice na2 (k + 1) nc2) gp
  have hoth : ∀ j, j ≠ p → (w2.setCell ⟨p, 0, none⟩ (.slice na2 (k + 1) nc2)).heap[j]? = w2.heap[j]? := fun j hj => heap_setCell_other _ _ _ _ hj
  refine ⟨{
    o := by simpa only [List.setIfInBounds_toArray, List.set_cons_zero] using hE
    n := by
      show World.ownsRow _ _ _ _ _ (L ++ [d]).length (dms (L ++ [d]))
      rw [List.length_append, dms_append, hl]
      exact row_kept g1 (fun g hg => hoth g (fun e => hne (by rw [← e]; exact hg)))
    m := World.ownsRow_nil _ _ _ _
    b1 := h.b1
    p1 := h.p1
    ne1 := hne
    ne2 := fun e => by cases e
    ne3 := fun j _ e => by cases e
    good := fun x hx => by
      rcases List.mem_append.1 hx with hx | hx
      · exact h.good x hx
      · rw [List.mem_singleton.1 hx]; exact hd
    goodm := fun x hx => by cases hx
    len := by show 0 = 0 * _; rw [Nat.zero_mul]
    n32 := by show (L ++ [d]).length ≤ 32; rw [List.length_append, hl]; exact hk
    mks := by show 0 ≤ 10000; omega }, ?_⟩
  exact ((Below.refl _ _).grown g2 h.size (fun g hg => (row_lt h.n hg).1)).setCell h.p1 _

/-- What New leaves. -/
def NewOut (m : Md.Mo) (w : World) (e : Ending) (w' : World) : Prop := ∃ p nv mv, e = .returned (.pointer (some ⟨p, 0, none⟩)) ∧ StAt w.heap.size w' p nv mv (newS m) ∧ Below w.heap.size w w'
set_option maxRecDepth 10000 in
set_option maxHeartbeats 1000000 in
theorem new_any (m : Md.Mo) (vv vc vg : Value) (w : World) (h : MoAt w m vv vc vg) (hs : 0 < w.heap.size) : Calls Tryz.prog 13 #[moVal m vv vc vg] w (NewOut m w) := by
  obtain ⟨W, hW⟩ : ∃ W, (w.alloc (.cells #[vv, vc, .bool m.has, vg] 26)).alloc (.cells #[.slice none 0 0, .slice none 0 0, .int .i64 0] 79) = W := ⟨_, rfl⟩
  have hb0 : Below w.heap.size w W := by rw [← hW]; exact ((Below.refl _ _).alloc (Nat.le_refl _) _).alloc (by simp) _
  have HB : Hid (Below w.heap.size w W) := hb0
  have g0 : W.heap[w.heap.size]? = some (.cells #[vv, vc, .bool m.has, vg] 26 (0, 0)) := by rw [← hW, heap_alloc_old (w.alloc _) _ (by simp)]; exact heap_alloc_new w _
  have g1 : W.heap[w.heap.size + 1]? = some (.cells #[.slice none 0 0, .slice none 0 0, .int .i64 0] 79 (0, 0)) := by rw [← hW]; exact heap_alloc2_new w _ _
  have hlt := (Array.getElem?_eq_some_iff.1 g0).1
  have HG0 : Hid (∀ w', Below W.heap.size W w' → w'.heap[w.heap.size]? = some (.cells #[vv, vc, .bool m.has, vg] 26 (0, 0))) := fun w' hb => (hb.block _ hlt).trans g0
  have HM : Hid (MoAt w m vv vc vg) := h
  have HCh : Hid (Calls Tryz.prog 35 #[.agg #[vv, vc, .bool m.has, vg]] W fun e w' => e = .returned (.tuple #[.int .i64 (Md.check m).1, .int .i64 (Md.check m).2]) ∧ Below W.heap.size W w') := check_any m vv vc vg W (h.below hb0)
  have HE0 : Hid (∀ w', Below W.heap.size W w' → StAt w.heap.size w' (w.heap.size + 1) (.slice none 0 0) (.slice none 0 0) ⟨[], [], 0⟩) := fun w' hb => {
    o := (hb.block _ (Array.getElem?_eq_some_iff.1 g1).1).trans g1
    n := World.ownsRow_nil _ _ _ _
    m := World.ownsRow_nil _ _ _ _
    b1 := hs
    p1 := Nat.le_succ _
    ne1 := fun e => by cases e
    ne2 := fun e => by cases e
    ne3 := fun j _ e => by cases e
    good := fun x hx => by cases hx
    goodm := fun x hx => by cases hx
    len := rfl
    n32 := Nat.zero_le _
    mks := Nat.zero_le _ }
  have c0 : W.cell? ⟨w.heap.size, 0, none⟩ = some vv := cell_of g0 0
  have c1 : W.cell? ⟨w.heap.size, 1, none⟩ = some vc := cell_of g0 1
  have c2 : W.cell? ⟨w.heap.size, 2, none⟩ = some (.bool m.has) := cell_of g0 2
  have c3 : W.cell? ⟨w.heap.size, 3, none⟩ = some vg := cell_of g0 3
  clear hb0 g0 g1 hlt h
  unfold moVal
  go_enter Tryz.func13, Tryz.ntmps13
  go_wp2_with fail
  refine calls_at HCh.out (by with_reducible rfl) (by with_reducible rfl) ?_
  rintro e w1 ⟨rfl, hb1⟩
  have HB1 : Hid (Below W.heap.size W w1) := hb1
  clear hb1 c0 c1 c2 c3 hW
  by_cases hok : (Md.check m).2 = 0
  · have hR := Md.right_of hok
    have HNs : Hid (newS m = ⟨m.vars.map wholeD, [], 0⟩) := by show _ = _; unfold newS; rw [if_pos hok]
    have hn := hR.nv
    have HOk : Hid (∀ v ∈ m.vars, Md.boundsB v.lo v.hi = true) := fun v hv => (hR.var v hv).2
    clear hR
    have d0 : w1.cell? ⟨w.heap.size, 0, none⟩ = some vv := cell_of (HG0.out w1 HB1.out) 0
    obtain ⟨va, vp, rfl, hvm, _, hvo⟩ := id HM.out.v
    have HVC : Hid (∀ w', Below w.heap.size w w' → ∀ j (hj : j < m.vars.length), ∃ b off, va = some ⟨b, off, none⟩ ∧ w'.cell? ⟨b, off + j * 3, none⟩ = some (.string m.vars[j].name) ∧ w'.cell? ⟨b, off + j * 3 + 1, none⟩ = some (.int .i64 m.vars[j].lo) ∧ w'.cell? ⟨b, off + j * 3 + 2, none⟩ = some (.int .i64 m.vars[j].hi)) := fun w' hb j hj => by
      obtain ⟨b, off, e1, e2, e3⟩ := hvo (by omega)
      obtain ⟨f1, f2, f3⟩ := e3 j hj
      exact ⟨b, off, e1, (hb.cell (p := ⟨b, off + j * 3, none⟩) e2).trans f1, (hb.cell (p := ⟨b, off + j * 3 + 1, none⟩) e2).trans f2, (hb.cell (p := ⟨b, off + j * 3 + 2, none⟩) e2).trans f3⟩
    clear hvo
    go_wp2_with fail
    go_loopw [21] (fun iv wr => ∃ (k : Nat) (na : Option Addr) (nc : Nat), iv = .int .i64 (k : Int) ∧ k ≤ m.vars.length ∧ Hid (StAt w.heap.size wr (w.heap.size + 1) (.slice na k nc) (.slice none 0 0) ⟨(m.vars.take k).map wholeD, [], 0⟩) ∧ Hid (Below w.heap.size w wr)) (fun iv _ => m.vars.length - (intOf iv).toNat)
    case atStart => exact ⟨0, none, 0, rfl, Nat.zero_le _, HE0.out w1 HB1.out, HB.out.trans (HB1.out.mono HB.out.size)⟩
    case round =>
      obtain ⟨k, na, nc, rfl, hk, HAr, HBr⟩ := hrel
      by_cases hkn : k < m.vars.length
      · have hkI : (k : Int) < (m.vars.length : Int) := by omega
        obtain ⟨b, off, rfl, x0, x1, x2⟩ := HVC.out wr HBr.out k hkn
        have HKl : Hid (((m.vars.take k).map wholeD).length = k) := by show _ = _; rw [List.length_map, List.length_take]; omega
        have HTk : Hid ((m.vars.take (k + 1)).map wholeD = (m.vars.take k).map wholeD ++ [wholeD m.vars[k]]) := by show _ = _; rw [List.take_succ_eq_append_getElem hkn, List.map_append]; rfl
        have hbd := HOk.out m.vars[k] (List.getElem_mem hkn)
        have HOkv : Hid ((wholeD m.vars[k]).Ok) := wholeD_ok hbd
        obtain ⟨v, hv⟩ : ∃ v, m.vars[k] = v := ⟨_, rfl⟩
        rw [hv] at x0 x1 x2 HTk hbd HOkv
        have hbb := Md.bounds_of hbd
        have HWh : Hid (∀ w', Calls Tryz.prog 36 #[.agg #[.string v.name, .int .i64 v.lo, .int .i64 v.hi]] w' fun e w2 => e = .returned (.agg #[.int .i64 v.lo, .int .u32 (wWd v.lo v.hi 0), .int .u32 (wWd v.lo v.hi 1)]) ∧ Below w'.heap.size w' w2) := fun w' => whole_any v.name v.lo v.hi w' (by omega) (by omega)
        clear hbd hv hbb
        go_wp2_with fail
        obtain ⟨Y, hY⟩ : ∃ Y, wr.alloc (.cells #[.string v.name, .int .i64 v.lo, .int .i64 v.hi] 60) = Y := ⟨_, rfl⟩
        have hbY : Below wr.heap.size wr Y := by rw [← hY]; exact (Below.refl _ _).alloc (Nat.le_refl _) _
        have HAY : Hid (StAt w.heap.size Y.drew (w.heap.size + 1) (.slice na k nc) (.slice none 0 0) ⟨(m.vars.take k).map wholeD, [], 0⟩) := (HAr.out.below hbY).below (Below.refl _ _).drew
        have HBY : Hid (Below w.heap.size w Y.drew) := (HBr.out.trans (hbY.mono HBr.out.size)).drew
        have hgY : Y.drew.heap[wr.heap.size]? = some (.cells #[.string v.name, .int .i64 v.lo, .int .i64 v.hi] 60 (0, 0)) := by rw [← hY]; exact heap_alloc_new wr _
        have HC0 : Hid (Y.drew.cell? ⟨w.heap.size + 1, 0, none⟩ = some (.slice na k nc)) := cell_of HAY.out.o 0
        have HYg : Hid (Y.drew.heap[wr.heap.size]? = some (.cells #[.string v.name, .int .i64 v.lo, .int .i64 v.hi] 60 (0, 0))) := hgY
        have HYlt : Hid (wr.heap.size < Y.drew.heap.size) := (Array.getElem?_eq_some_iff.1 hgY).1
        have HCC : Hid (∀ w' : World, StAt w.heap.size w' (w.heap.size + 1) (.slice na k nc) (.slice none 0 0) ⟨(m.vars.take k).map wholeD, [], 0⟩ → w'.heap[wr.heap.size]? = some (.cells #[.string v.name, .int .i64 v.lo, .int .i64 v.hi] 60 (0, 0)) → w'.cell? ⟨w.heap.size + 1, 0, none⟩ = some (.slice na k nc) ∧ w'.cell? ⟨wr.heap.size, 0, none⟩ = some (.string v.name) ∧ w'.cell? ⟨wr.heap.size, 1, none⟩ = some (.int .i64 v.lo) ∧ w'.cell? ⟨wr.heap.size, 2, none⟩ = some (.int .i64 v.hi)) := fun w' h1 h2 => ⟨cell_of h1.o 0, cell_of h2 0, cell_of h2 1, cell_of h2 2⟩
        rw [hY]
        refine wp_region_T (fun _ => True) (fun w' => w'.cell? ⟨w.heap.size + 1, 0, none⟩ = some (.slice na k nc) ∧ w'.cell? ⟨wr.heap.size, 0, none⟩ = some (.string v.name) ∧ w'.cell? ⟨wr.heap.size, 1, none⟩ = some (.int .i64 v.lo) ∧ w'.cell? ⟨wr.heap.size, 2, none⟩ = some (.int .i64 v.hi)) [11] (by kernel_rfl) ⟨trivial, HCC.out _ HAY.out hgY⟩ (fun hHeld => ?_)
        clear hgY HC0 hbY hY x0 x1 x2
        have HAU := HAY
        have HBU := HBY
        generalize Y.drew = U at HAU HBU HYg HYlt hHeld ⊢
        refine wpAnyT_takeB (i := 0) (oi := ⟨some 25, .move (.tmp 3), _, _, _, _⟩) (v := ?vR8x0) rfl (by kernel_rfl) (by kernel_rfl) (by kernel_rfl) (by kernel_rfl) (fun _ _ _ h => h) (Or.inl ⟨by rfl, ?hyR8x0⟩) (by assumption) ?restR8x0
        case hyR8x0 => (intro w hSw; (try dsimp only at hSw); go_simp; try (with_reducible rfl))
        try simp only [Act.put, List.setIfInBounds_toArray, List.set_cons_zero, List.set_cons_succ]
        refine wpAnyT_takeB (i := 1) (oi := ⟨some 26, .move (.tmp 3), _, _, _, _⟩) (v := ?vR8x1) rfl (by kernel_rfl) (by kernel_rfl) (by kernel_rfl) (by kernel_rfl) (fun _ _ _ h => h) (Or.inl ⟨by rfl, ?hyR8x1⟩) (by assumption) ?restR8x1
        case hyR8x1 => (intro w hSw; (try dsimp only at hSw); go_simp; try (with_reducible rfl))
        try simp only [Act.put, List.setIfInBounds_toArray, List.set_cons_zero, List.set_cons_succ]
        refine wpAnyT_takeB (i := 2) (oi := ⟨some 27, .nilCheck (.tmp 26), _, _, _, _⟩) (v := ?vR8x2) rfl (by kernel_rfl) (by kernel_rfl) (by kernel_rfl) (by kernel_rfl) (fun _ _ _ h => h) (Or.inl ⟨by rfl, ?hyR8x2⟩) (by assumption) ?restR8x2
        case hyR8x2 => (intro w hSw; (try dsimp only at hSw); go_simp; try (with_reducible rfl))
        try simp only [Act.put, List.setIfInBounds_toArray, List.set_cons_zero, List.set_cons_succ]
        refine wpAnyT_takeB (i := 3) (oi := ⟨some 28, .fieldAddr 79 (.tmp 27) 0, _, _, _, _⟩) (v := ?vR8x3) rfl (by kernel_rfl) (by kernel_rfl) (by kernel_rfl) (by kernel_rfl) (fun _ _ _ h => h) (Or.inl ⟨by rfl, ?hyR8x3⟩) (by assumption) ?restR8x3
        case hyR8x3 => (intro w hSw; (try dsimp only at hSw); go_simp; try (with_reducible rfl))
        try simp only [Act.put, List.setIfInBounds_toArray, List.set_cons_zero, List.set_cons_succ]
        refine wpAnyT_take (i := 4) (oi := ⟨some 29, .load 77 (.tmp 28), _, _, _, _⟩) (v := ?vR8x4) rfl (by kernel_rfl) (by kernel_rfl) (by kernel_rfl) (by kernel_rfl) (by kernel_rfl) (fun _ _ _ h => h) (Or.inl ⟨by rfl, ?hyR8x4⟩) (by assumption) ?restR8x4
        case hyR8x4 => (intro w hSw; (try dsimp only at hSw); go_simp; try (with_reducible rfl))
        try simp only [Act.put, List.setIfInBounds_toArray, List.set_cons_zero, List.set_cons_succ]
        refine wpAnyT_take (i := 5) (oi := ⟨some 30, .load 60 (.tmp 7), _, _, _, _⟩) (v := ?vR8x5) rfl (by kernel_rfl) (by kernel_rfl) (by kernel_rfl) (by kernel_rfl) (by kernel_rfl) (fun _ _ _ h => h) (Or.inl ⟨by rfl, ?hyR8x5⟩) (by assumption) ?restR8x5
        case hyR8x5 => (intro w hSw; (try dsimp only at hSw); go_simp; try (with_reducible rfl))
        try simp only [Act.put, List.setIfInBounds_toArray, List.set_cons_zero, List.set_cons_succ]
        refine wpAnyT_one (i := 6) (o := ⟨some 31, .call { callee := .value (.func 36), args := #[(.tmp 30)], argTypes := #[60] }, _, _, _, _⟩) (by kernel_rfl) rfl (fun K hK => ?_)
        go_simp
        refine calls_at (HWh.out _) (by with_reducible rfl) (by with_reducible rfl) ?_
        rintro e w1 ⟨rfl, hb1⟩
        have HA1 : Hid (StAt w.heap.size w1 (w.heap.size + 1) (.slice na k nc) (.slice none 0 0) ⟨(m.vars.take k).map wholeD, [], 0⟩) := HAU.out.below hb1
        have HB1 : Hid (Below U.heap.size U w1) := hb1
        have p0 := HCC.out w1 HA1.out ((HB1.out.block _ HYlt.out).trans HYg.out)
        go_wp2_with fail
        refine hK.out _ _ ⟨trivial, fun _ => p0⟩ ?_
        have hHeld := (⟨trivial, p0⟩ : True ∧ _)
        clear hK K hb1
        try simp only [Act.put, List.setIfInBounds_toArray, List.set_cons_zero, List.set_cons_succ]
        refine wpAnyT_one (i := 7) (o := ⟨some 32, .buildSlice 77 1 #[(0, (.tmp 31))], _, _, _, _⟩) (by kernel_rfl) rfl (fun K hK => ?_)
        go_simp
        obtain ⟨X, hX⟩ : ∃ X, w1.alloc (.cells #[.int .i64 v.lo, .int .u32 (wWd v.lo v.hi 0), .int .u32 (wWd v.lo v.hi 1)] 86) = X := ⟨_, rfl⟩
        have hbX : Below w1.heap.size w1 X := by rw [← hX]; exact (Below.refl _ _).alloc (Nat.le_refl _) _
        have HAX : Hid (StAt w.heap.size X (w.heap.size + 1) (.slice na k nc) (.slice none 0 0) ⟨(m.vars.take k).map wholeD, [], 0⟩) := HA1.out.below hbX
        have HBX : Hid (Below U.heap.size U X) := bl_next HB1.out hbX
        have HSX : Hid (SrcAt X (.slice (some ⟨w1.heap.size, 0, none⟩) 1 1) 1 3 (dms [wholeD v])) := by
          have hg : X.heap[w1.heap.size]? = some (.cells #[.int .i64 v.lo, .int .u32 (wWd v.lo v.hi 0), .int .u32 (wWd v.lo v.hi 1)] 86 (0, 0)) := by rw [← hX]; exact heap_alloc_new w1 _
          exact row_src (B := 0) (e := 86) (L := [wholeD v]) ⟨rfl, .inr ⟨w1.heap.size, 1, _, rfl, Nat.zero_le _, hg, Nat.le_refl _, by unfold maxLen; decide, rfl, rfl⟩⟩
        have px := HCC.out X HAX.out ((HBX.out.block _ HYlt.out).trans HYg.out)
        have HXg : Hid (X.heap[wr.heap.size]? = some (.cells #[.string v.name, .int .i64 v.lo, .int .i64 v.hi] 60 (0, 0)) ∧ wr.heap.size < X.heap.size) := ⟨(HBX.out.block _ HYlt.out).trans HYg.out, Nat.lt_of_lt_of_le HYlt.out HBX.out.size⟩
        rw [hX]
        refine hK.out _ _ ⟨trivial, fun _ => px⟩ ?_
        have hHeld := (⟨trivial, px⟩ : True ∧ _)
        clear hK K hbX hX p0
        try simp only [Act.put, List.setIfInBounds_toArray, List.set_cons_zero, List.set_cons_succ]
        refine wpAnyT_one (i := 8) (o := ⟨some 33, .call { callee := .builtin .append, args := #[(.tmp 29), (.tmp 32)], argTypes := #[77, 77] }, _, _, _, _⟩) (by kernel_rfl) rfl (fun K hK => ?_)
        refine op_append_src X (.tmp 29) (.tmp 32) 77 86 (.agg #[.int .i64 0, .int .u32 0, .int .u32 0]) 3 16 rfl und57 info67b rfl (by decide) w.heap.size _ _ k 1 (dms ((m.vars.take k).map wholeD)) (dms [wholeD v]) (by rfl) (by rfl) (by have hq := HAX.out.n; rw [HKl.out] at hq; exact hq) HSX.out (by unfold maxLen; omega) (by omega) HAX.out.size (by rfl) ?_
        intro nv2 w2 g1 g2 g3
        obtain ⟨na2, nc2, rfl⟩ := own_slice g1
        have HF2 : Hid (StAt w.heap.size (w2.setCell ⟨w.heap.size + 1, 0, none⟩ (.slice na2 (k + 1) nc2)) (w.heap.size + 1) (.slice na2 (k + 1) nc2) (.slice none 0 0) ⟨(m.vars.take (k + 1)).map wholeD, [], 0⟩ ∧ Below w.heap.size X (w2.setCell ⟨w.heap.size + 1, 0, none⟩ (.slice na2 (k + 1) nc2))) := new_at HAX.out HKl.out HTk.out HOkv.out (by omega) g1 g2 g3
        have HG2 : Hid (w2.heap[w.heap.size + 1]? = some (.cells #[.slice na k nc, .slice none 0 0, .int .i64 0] 79 (0, 0))) := (g2.block _ HAX.out.lt (fun e => HAX.out.ne1 e.symm)).trans HAX.out.o
        have hwv := (g2.block _ HXg.out.2 (fun e => Nat.lt_irrefl _ (row_lt HAr.out.n e.symm).2)).trans HXg.out.1
        have pw := (⟨cell_of HG2.out 0, cell_of hwv 0, cell_of hwv 1, cell_of hwv 2⟩ : w2.cell? ⟨w.heap.size + 1, 0, none⟩ = some (.slice na k nc) ∧ w2.cell? ⟨wr.heap.size, 0, none⟩ = some (.string v.name) ∧ w2.cell? ⟨wr.heap.size, 1, none⟩ = some (.int .i64 v.lo) ∧ w2.cell? ⟨wr.heap.size, 2, none⟩ = some (.int .i64 v.hi))
        clear hwv
        have pz : ∀ i, w2.frozen? ⟨w.heap.size + 1, i, none⟩ = false := frozen_of HG2.out
        clear g1 g2 g3 px hHeld
        refine hK.out _ _ ⟨trivial, fun _ => pw⟩ ?_
        have hHeld := (⟨trivial, pw⟩ : True ∧ _)
        clear hK K
        try simp only [Act.put, List.setIfInBounds_toArray, List.set_cons_zero, List.set_cons_succ]
        refine wpAnyT_takeB (i := 9) (oi := ⟨some 34, .nilCheck (.tmp 25), _, _, _, _⟩) (v := ?vR8x9) rfl (by kernel_rfl) (by kernel_rfl) (by kernel_rfl) (by kernel_rfl) (fun _ _ _ h => h) (Or.inl ⟨by rfl, ?hyR8x9⟩) (by assumption) ?restR8x9
        case hyR8x9 => (intro w hSw; (try dsimp only at hSw); go_simp; try (with_reducible rfl))
        try simp only [Act.put, List.setIfInBounds_toArray, List.set_cons_zero, List.set_cons_succ]
        refine wpAnyT_takeB (i := 10) (oi := ⟨some 35, .fieldAddr 79 (.tmp 34) 0, _, _, _, _⟩) (v := ?vR8x10) rfl (by kernel_rfl) (by kernel_rfl) (by kernel_rfl) (by kernel_rfl) (fun _ _ _ h => h) (Or.inl ⟨by rfl, ?hyR8x10⟩) (by assumption) ?restR8x10
        case hyR8x10 => (intro w hSw; (try dsimp only at hSw); go_simp; try (with_reducible rfl))
        try simp only [Act.put, List.setIfInBounds_toArray, List.set_cons_zero, List.set_cons_succ]
        refine wpAnyT_late (i := 11) (o := ⟨none, .store 77 (.tmp 35) (.tmp 33), _, _, _, _⟩) (by kernel_rfl) rfl (by kernel_rfl) (fun K hK => ?_)
        go_simp
        refine hK.out _ _ ?shR8x11 ?restR8x11
        case shR8x11 => trivial
        clear hK K
        try simp only [Act.put, List.setIfInBounds_toArray, List.set_cons_zero, List.set_cons_succ]
        refine wpAnyT_done (by kernel_rfl) ?_ _
        clear hHeld pw pz
        go_wp2_with fail
        go_roundw
        case rel => exact ⟨k + 1, na2, nc2, by go_num, hkn, HF2.out.1, HBU.out.trans ((HBX.out.mono (Nat.le_trans (Nat.le_refl _) HBU.out.size)).trans HF2.out.2)⟩
        case measure => simp [intOf]; omega
      · have hke : k = m.vars.length := by omega
        subst hke
        rw [List.take_length, ← HNs.out] at HAr
        go_wp2_with fail
        go_ret
        exact ⟨_, _, _, rfl, HAr.out, HBr.out⟩
  · have HNs : Hid (newS m = ⟨[], [], 0⟩) := by show _ = _; unfold newS; rw [if_neg hok]
    have hne : ((Md.check m).2 == 0) = false := by simp [hok]
    go_wp2_with fail
    go_ret
    exact ⟨_, _, _, rfl, by rw [HNs.out]; exact HE0.out w1 HB1.out, HB.out.trans (HB1.out.mono HB.out.size)⟩
end Go.Proofs.YtlcegpnnanhloaaGreatDoor

namespace Go.Proofs.YtlcegpnnanhloaaGreatDoor
open Go.RowKit

/-- The variables that have more than one value. -/
def openL (L : List Dm) (k : Nat) : List Int := ((List.range k).filter fun j => match L[j]? with | some d => decide (1 < bSize d.a d.b) | none => false).map fun j : Nat => (j : Int)
theorem openL_succ (L : List Dm) (k : Nat) (hk : k < L.length) : openL L (k + 1) = openL L k ++ (if 1 < bSize L[k].a L[k].b then [(k : Int)] else []) := by
  unfold openL
  rw [List.range_succ, List.filter_append, List.map_append]
  refine congrArg (HAppend.hAppend _) ?_
  have e : L[k]? = some L[k] := List.getElem?_eq_getElem hk
  generalize L[k] = d at e
  by_cases h : 1 < bSize d.a d.b
  · rw [if_pos h, List.filter_cons_of_pos (by rw [e]; simpa using h)]; rfl
  · rw [if_neg h, List.filter_cons_of_neg (by rw [e]; simpa using h)]; rfl
theorem openL_len (L : List Dm) (k : Nat) : (openL L k).length ≤ k := by
  have := List.length_filter_le (fun j => match L[j]? with | some d => decide (1 < bSize d.a d.b) | none => false) (List.range k)
  simpa [openL] using this

end Go.Proofs.YtlcegpnnanhloaaGreatDoor

namespace Go.Proofs.YtlcegpnnanhloaaGreatDoor
open Go.RowKit

/-- A call of a script. -/
structure Cl where
  kind : Int
  ck : Int
  cx : Int
  cv : Int
  n : Int
def clVal (o : Cl) : Value := .agg #[.int .i64 o.kind, .int .i64 o.ck, .int .i64 o.cx, .int .i64 o.cv, .int .i64 o.n]
/-- What a call leaves of a store. -/
def St.does (s : St) (o : Cl) (least : Int) : St := if o.kind = 1 then s.cut o.ck o.cx o.cv else if o.kind = 2 then s.mark else if o.kind = 3 then (if least ≤ o.n then s.back o.n else s) else s
/-- What a call leaves. -/
def DoOut (B p : Nat) (nv mv : Value) (t : St) (w : World) (e : Ending) (w' : World) : Prop := ∃ mv', e = .returned (.tuple #[]) ∧ StAt B w' p nv mv' t ∧ Stp B p nv mv w w' ∧ ∀ k, mv'.ownBlock = some k → mv.ownBlock = some k ∨ w.heap.size ≤ k
theorem Stp.trans {B p : Nat} {nv mv mv2 : Value} {a b c : World} (h : Stp B p nv mv a b) (k : Stp B p nv mv2 b c) (hm : ∀ g, mv2.ownBlock = some g → mv.ownBlock = some g ∨ a.heap.size ≤ g) : Stp B p nv mv a c :=
  ⟨h.below.trans k.below, Nat.le_trans h.off.size k.off.size, fun g hg ho => (k.off.block g (Nat.lt_of_lt_of_le hg h.off.size) (fun e => by
    rcases e with e | e | e
    · exact ho (.inl e)
    · exact ho (.inr (.inl e))
    · rcases hm g e with e | e
      · exact ho (.inr (.inr e))
      · omega)).trans (h.off.block g hg ho)⟩

end Go.Proofs.YtlcegpnnanhloaaGreatDoor

namespace Go.Proofs.YtlcegpnnanhloaaGreatDoor
open Go.RowKit

/-- Behind a mark: what was noted up to it stands. -/
structure Since (a s : St) : Prop where
  n : s.now.length = a.now.length
  m : a.marks + 1 ≤ s.marks
  t : s.noted.take (a.noted.length + a.now.length) = a.noted ++ a.now
  l : s.noted.length = s.marks * s.now.length
theorem cut_len (s : St) (k x v : Int) : (s.cut k x v).now.length = s.now.length ∧ (s.cut k x v).noted = s.noted ∧ (s.cut k x v).marks = s.marks := by
  unfold St.cut
  split
  · exact ⟨rfl, rfl, rfl⟩
  · split
    · exact ⟨List.length_set, rfl, rfl⟩
    · exact ⟨rfl, rfl, rfl⟩
theorem since_does {a s : St} (hl : a.noted.length = a.marks * a.now.length) (h : Since a s) (o : Cl) : Since a (s.does o ((a.marks : Int) + 1)) := by
  unfold St.does
  split
  · obtain ⟨e1, e2, e3⟩ := cut_len s o.ck o.cx o.cv
    exact ⟨e1.trans h.n, by rw [e3]; exact h.m, by rw [e2]; exact h.t, by rw [e2, e3, e1]; exact h.l⟩
  · split
    · have hle : a.noted.length + a.now.length ≤ s.noted.length := by
        have h1 := congrArg List.length h.t
        rw [List.length_take, List.length_append] at h1
        omega
      refine ⟨h.n, Nat.le_succ_of_le h.m, ?_, ?_⟩
      · show (s.noted ++ s.now).take _ = _
        rw [List.take_append_of_le_length hle]
        exact h.t
      · show (s.noted ++ s.now).length = (s.marks + 1) * s.now.length
        rw [List.length_append, h.l, Nat.add_mul, Nat.one_mul]
    · split
      · split
        · rename_i hn
          unfold St.back
          split
          · rename_i hb
            have hb' : 0 ≤ o.n ∧ o.n < (s.marks : Int) := by simpa [St.backB] using hb
            obtain ⟨q, hq⟩ : ∃ q : Nat, o.n = (q : Int) := ⟨o.n.toNat, by omega⟩
            have hq1 : a.marks + 1 ≤ q := by omega
            have hq2 : q < s.marks := by omega
            rw [hq, Int.toNat_natCast]
            have hmul : a.noted.length + a.now.length ≤ q * s.now.length := by
              rw [hl, h.n]
              have := Nat.mul_le_mul_right a.now.length hq1
              rw [Nat.add_mul, Nat.one_mul] at this
              exact this
            have hlen : q * s.now.length + s.now.length ≤ s.noted.length := by
              rw [h.l]
              have := Nat.mul_le_mul_right s.now.length hq2
              rw [Nat.succ_mul] at this
              exact this
            have hn1 : ((s.noted.drop (q * s.now.length)).take s.now.length).length = s.now.length := by rw [List.length_take, List.length_drop]; omega
            refine ⟨hn1.trans h.n, hq1, ?_, ?_⟩
            · show (s.noted.take (q * s.now.length)).take _ = _
              rw [List.take_take, Nat.min_eq_left hmul]
              exact h.t
            · show (s.noted.take (q * s.now.length)).length = q * ((s.noted.drop (q * s.now.length)).take s.now.length).length
              rw [hn1, List.length_take]
              omega
          · exact h
        · exact h
      · exact h
theorem since_mark {a : St} (hl : a.noted.length = a.marks * a.now.length) : Since a a.mark :=
  ⟨rfl, Nat.le_refl _, by show (a.noted ++ a.now).take _ = _; rw [← List.length_append, List.take_length], by show (a.noted ++ a.now).length = (a.marks + 1) * a.now.length; rw [List.length_append, hl, Nat.add_mul, Nat.one_mul]⟩
/-- Back to the mark: all is as it was; and the mark stands no more. -/
theorem since_back {a s : St} (hl : a.noted.length = a.marks * a.now.length) (h : Since a s) : s.backB (a.marks : Int) = true ∧ (s.back (a.marks : Int)).now = a.now ∧ (s.back (a.marks : Int)).backB (a.marks : Int) = false := by
  have h1 : s.backB (a.marks : Int) = true := by
    have := h.m
    simp [St.backB]
    omega
  have hlen := congrArg List.length h.t
  rw [List.length_take, List.length_append] at hlen
  refine ⟨h1, ?_, ?_⟩
  · unfold St.back
    rw [h1, if_pos rfl, Int.toNat_natCast]
    show (s.noted.drop (a.marks * s.now.length)).take s.now.length = a.now
    rw [h.n, ← hl]
    have e : (s.noted.take (a.noted.length + a.now.length)).drop a.noted.length = a.now := by rw [h.t, List.drop_left]
    rw [List.drop_take] at e
    rw [show a.noted.length + a.now.length - a.noted.length = a.now.length by omega] at e
    exact e
  · unfold St.back
    rw [h1, if_pos rfl, Int.toNat_natCast]
    simp [St.backB]
/-- A call makes at most one mark. -/
theorem does_marks (s : St) (o : Cl) (l : Int) : (s.does o l).marks ≤ s.marks + 1 := by
  unfold St.does
  split
  · rw [(cut_len s o.ck o.cx o.cv).2.2]; omega
  · split
    · exact Nat.le_refl _
    · split
      · split
        · unfold St.back
          split
          · rename_i hb
            have hb' : 0 ≤ o.n ∧ o.n < (s.marks : Int) := by simpa [St.backB] using hb
            show o.n.toNat ≤ _
            omega
          · omega
        · omega
      · omega
end Go.Proofs.YtlcegpnnanhloaaGreatDoor

namespace Go.Proofs.YtlcegpnnanhloaaGreatDoor
open Go.RowKit

/-- Rows of what stays, and of tests: these alone are written. -/
def Soft (o : Obj) : Prop := ∃ cs f, o = .cells cs 105 f ∨ o = .cells cs 58 f
/-- All below B is as it was, and so is every block that isn't soft. -/
structure Kq (B : Nat) (w w' : World) : Prop where
  below : Below B w w'
  keep : ∀ (k : Nat) (o : Obj), w.heap[k]? = some o → ¬ Soft o → w'.heap[k]? = some o
theorem Kq.refl (B : Nat) (w : World) : Kq B w w := ⟨Below.refl _ _, fun _ _ h _ => h⟩
theorem Kq.trans {B : Nat} {a b c : World} (h : Kq B a b) (k : Kq B b c) : Kq B a c := ⟨h.below.trans k.below, fun i o hi hs => k.keep i o (h.keep i o hi hs) hs⟩
theorem Kq.of_below {B : Nat} {w w' : World} (h : Below w.heap.size w w') (hB : B ≤ w.heap.size) : Kq B w w' :=
  ⟨h.mono hB, fun k _ hk _ => (h.block k (Array.getElem?_eq_some_iff.1 hk).1).trans hk⟩
theorem Kq.next {B : Nat} {a b c : World} (h : Kq B a b) (k : Below b.heap.size b c) (hB : B ≤ b.heap.size) : Kq B a c := h.trans (Kq.of_below k hB)
theorem soft105 (cs : Array Value) (f : Nat × Nat) : Soft (.cells cs 105 f) := ⟨cs, f, .inl rfl⟩
theorem soft58 (cs : Array Value) (f : Nat × Nat) : Soft (.cells cs 58 f) := ⟨cs, f, .inr rfl⟩
theorem not_soft {cs : Array Value} {t : TypeId} {f : Nat × Nat} (h1 : t ≠ 105) (h2 : t ≠ 58) : ¬ Soft (.cells cs t f) := by
  rintro ⟨c, g, h | h⟩
  · injection h with _ e _
    exact h1 e
  · injection h with _ e _
    exact h2 e
theorem Kq.set {B : Nat} {w : World} {g i : Nat} {cs : Array Value} {f : Nat × Nat} (v : Value) (hB : B ≤ g) (h : w.heap[g]? = some (.cells cs 105 f)) : Kq B w (w.setCell ⟨g, i, none⟩ v) :=
  ⟨(Below.refl _ _).setCell hB v, fun k o hk hs => by
    by_cases e : k = g
    · subst e
      rw [h] at hk
      exact absurd (by rw [← Option.some.inj hk]; exact soft105 _ _) hs
    · rw [heap_setCell_other _ _ _ _ e]; exact hk⟩
theorem Kq.grown {B : Nat} {w w' : World} {v : Value} {n : Nat} {xs : List Value} (ho : w.ownsRow B 58 1 v n xs) (hg : w.grownBy w' v.ownBlock) (hB : B ≤ w.heap.size) : Kq B w w' := by
  refine ⟨(Below.refl _ _).grown hg hB (fun k hk => (ho.lt k hk).1), fun k o hk hs => ?_⟩
  rw [hg.block k (Array.getElem?_eq_some_iff.1 hk).1 (fun e => ?_)]
  · exact hk
  · rcases ho.2 with ⟨rfl, _⟩ | ⟨g, cap, cur, rfl, _, hc, _⟩
    · cases e
    · injection e with e
      subst e
      rw [hc] at hk
      exact hs (by rw [← Option.some.inj hk]; exact soft58 _ _)
theorem Kq.block {B : Nat} {w w' : World} (h : Kq B w w') {k : Nat} {cs : Array Value} {t : TypeId} {f : Nat × Nat} (hk : w.heap[k]? = some (.cells cs t f)) (h1 : t ≠ 105) (h2 : t ≠ 58) : w'.heap[k]? = some (.cells cs t f) := h.keep k _ hk (not_soft h1 h2)

/-- A test, as a value: it answers the same wherever it is asked. -/
def TestIs (B : Nat) (w : World) (f : Value) (t : Int → Bool) : Prop :=
  ∃ (fn : Nat) (caps : Array Value), f = .func (.func fn) #[] caps ∧ Enters Tryz.prog fn ∧ ∀ w', Kq B w w' → ∀ v : Int, -2000000000 ≤ v → v ≤ 2000000000 → Calls Tryz.prog fn (#[.int .i64 v] ++ caps) w' fun e w2 => e = .returned (.bool (t v)) ∧ Below w'.heap.size w' w2
theorem TestIs.kq {B : Nat} {w w' : World} {f : Value} {t : Int → Bool} (h : TestIs B w f t) (hk : Kq B w w') : TestIs B w' f t := by
  obtain ⟨fn, caps, h1, h2, h3⟩ := h
  exact ⟨fn, caps, h1, h2, fun w2 h4 => h3 w2 (hk.trans h4)⟩
def TestsAt (B : Nat) (w : World) (fs : List Value) (ts : List (Int → Bool)) : Prop := fs.length = ts.length ∧ ∀ i (h : i < fs.length) (h2 : i < ts.length), TestIs B w fs[i] ts[i]
theorem TestsAt.kq {B : Nat} {w w' : World} {fs : List Value} {ts : List (Int → Bool)} (h : TestsAt B w fs ts) (hk : Kq B w w') : TestsAt B w' fs ts := ⟨h.1, fun i h1 h2 => (h.2 i h1 h2).kq hk⟩
theorem TestsAt.snoc {B : Nat} {w : World} {fs : List Value} {ts : List (Int → Bool)} {f : Value} {t : Int → Bool} (h : TestsAt B w fs ts) (hf : TestIs B w f t) : TestsAt B w (fs ++ [f]) (ts ++ [t]) := by
  refine ⟨by simp [h.1], fun i h1 h2 => ?_⟩
  by_cases hi : i < fs.length
  · have hi2 : i < ts.length := by rw [← h.1]; exact hi
    rw [List.getElem_append_left hi, List.getElem_append_left hi2]
    exact h.2 i hi hi2
  · have e : i = fs.length := by simp at h1; omega
    subst e
    have e2 : fs.length = ts.length := h.1
    simp [e2]
    exact hf

/-- What stays of a variable: two bounds, and tests (and where they lie). -/
structure Sv where
  lo : Int
  hi : Int
  tv : Value
  ts : List (Int → Bool)
def Sv.has (s : Sv) (v : Int) : Bool := s.ts.all (fun t => t v) && inB s.lo s.hi v
def Sv.cells (s : Sv) : List Value := [.int .i64 s.lo, .int .i64 s.hi, s.tv]
def svs (S : List Sv) : List Value := S.flatMap Sv.cells
theorem svs_cons (s : Sv) (S : List Sv) : svs (s :: S) = .int .i64 s.lo :: .int .i64 s.hi :: s.tv :: svs S := by simp [svs, Sv.cells]
theorem svs_len (S : List Sv) : (svs S).length = S.length * 3 := by
  induction S with
  | nil => rfl
  | cons d L ih => rw [svs_cons]; simp [ih]; omega
theorem svs_get (S : List Sv) (j : Nat) (hj : j < S.length) : (svs S)[j * 3]? = some (.int .i64 S[j].lo) ∧ (svs S)[j * 3 + 1]? = some (.int .i64 S[j].hi) ∧ (svs S)[j * 3 + 2]? = some S[j].tv := by
  induction S generalizing j with
  | nil => exact absurd hj (by simp)
  | cons d L ih =>
    rw [svs_cons]
    cases j with
    | zero => exact ⟨rfl, rfl, rfl⟩
    | succ j =>
      have h := ih j (by simpa using hj)
      have e0 : (j + 1) * 3 = j * 3 + 1 + 1 + 1 := by omega
      have e1 : (j + 1) * 3 + 1 = (j * 3 + 1) + 1 + 1 + 1 := by omega
      have e2 : (j + 1) * 3 + 2 = (j * 3 + 2) + 1 + 1 + 1 := by omega
      rw [e1, e2, e0]
      simp only [List.getElem?_cons_succ, List.getElem_cons_succ]
      exact h
theorem svs_set (S : List Sv) (q : Nat) (a b : Int) (hq : q < S.length) : ((svs S).set (q * 3) (.int .i64 a)).set (q * 3 + 1) (.int .i64 b) = svs (S.set q ⟨a, b, S[q].tv, S[q].ts⟩) := by
  induction S generalizing q with
  | nil => exact absurd hq (by simp)
  | cons d L ih =>
    cases q with
    | zero => rw [svs_cons]; simp [svs_cons]
    | succ q =>
      have h := ih q (by simpa using hq)
      rw [List.set_cons_succ, svs_cons, svs_cons]
      have e1 : (q + 1) * 3 = (q * 3) + 1 + 1 + 1 := by omega
      have e2 : (q + 1) * 3 + 1 = (q * 3 + 1) + 1 + 1 + 1 := by omega
      rw [e2, e1]
      simp only [List.set_cons_succ, List.getElem_cons_succ]
      rw [h]
theorem svs_setT (S : List Sv) (q : Nat) (v : Value) (ts : List (Int → Bool)) (hq : q < S.length) : (svs S).set (q * 3 + 2) v = svs (S.set q ⟨S[q].lo, S[q].hi, v, ts⟩) := by
  induction S generalizing q with
  | nil => exact absurd hq (by simp)
  | cons d L ih =>
    cases q with
    | zero => rw [svs_cons]; simp [svs_cons]
    | succ q =>
      have h := ih q (by simpa using hq)
      rw [List.set_cons_succ, svs_cons, svs_cons]
      have e2 : (q + 1) * 3 + 2 = (q * 3 + 2) + 1 + 1 + 1 := by omega
      rw [e2]
      simp only [List.set_cons_succ, List.getElem_cons_succ]
      rw [h]

/-- What is left of a store's variables, in memory; B: all that was there when the call began lies below. -/
structure LfAt (B lp g p : Nat) (nv mv : Value) (s : St) (S : List Sv) (w : World) : Prop where
  box : w.heap[lp]? = some (.cells #[.pointer (some ⟨p, 0, none⟩), .slice (some ⟨g, 0, none⟩) S.length S.length] 99 (0, 0))
  row : w.heap[g]? = some (.cells (svs S).toArray 105 (0, 0))
  tests : ∀ x (h : x < S.length), ∃ fs, w.ownsRow B 58 1 S[x].tv S[x].ts.length fs ∧ TestsAt B w fs S[x].ts
  apart : ∀ x y (h : x < S.length) (h2 : y < S.length), x ≠ y → ∀ k, S[x].tv.ownBlock = some k → S[y].tv.ownBlock ≠ some k
  b0 : 0 < B
  lp1 : B ≤ lp
  g1 : B ≤ g
  st : ∃ Bs, StAt Bs w p nv mv s
  own : ∀ k, Own p nv mv k → k < B
  len : S.length = s.now.length
  tz : Tz w
section
variable {B lp g p : Nat} {nv mv : Value} {s : St} {S : List Sv} {w w' : World}
theorem LfAt.size (h : LfAt B lp g p nv mv s S w) : B ≤ w.heap.size := Nat.le_of_lt (Nat.lt_of_le_of_lt h.lp1 (Array.getElem?_eq_some_iff.1 h.box).1)
theorem LfAt.store (h : LfAt B lp g p nv mv s S w) (hb : Below B w w') : ∃ Bs, StAt Bs w' p nv mv s := by
  obtain ⟨Bs, h1⟩ := h.st
  exact ⟨Bs, h1.keep fun k _ ho => hb.block k (h.own k ho)⟩
theorem LfAt.below (h : LfAt B lp g p nv mv s S w) (hb : Below w.heap.size w w') : LfAt B lp g p nv mv s S w' :=
  { box := (hb.block lp (Array.getElem?_eq_some_iff.1 h.box).1).trans h.box
    row := (hb.block g (Array.getElem?_eq_some_iff.1 h.row).1).trans h.row
    tests := fun x hx => by
      obtain ⟨fs, h1, h2⟩ := h.tests x hx
      exact ⟨fs, own_below h1 hb, h2.kq (Kq.of_below hb h.size)⟩
    apart := h.apart
    b0 := h.b0
    lp1 := h.lp1
    g1 := h.g1
    st := h.store (hb.mono h.size)
    own := h.own
    len := h.len
    tz := h.tz.below (hb.mono h.size) h.b0 }
theorem LfAt.cell (h : LfAt B lp g p nv mv s S w) (x : Nat) (hx : x < S.length) : w.cell? ⟨g, x * 3, none⟩ = some (.int .i64 S[x].lo) ∧ w.cell? ⟨g, x * 3 + 1, none⟩ = some (.int .i64 S[x].hi) ∧ w.cell? ⟨g, x * 3 + 2, none⟩ = some S[x].tv := by
  obtain ⟨h0, h1, h2⟩ := svs_get S x hx
  refine ⟨?_, ?_, ?_⟩
  · rw [cell_of h.row]; simpa using h0
  · rw [cell_of h.row]; simpa using h1
  · rw [cell_of h.row]; simpa using h2
theorem LfAt.lr (h : LfAt B lp g p nv mv s S w) : lp ≠ g := fun e => by
  have h1 := h.box
  rw [e, h.row] at h1
  injection h1 with h1
  injection h1 with _ h2 _
  exact absurd h2 (by decide)
theorem own_type {w : World} {B : Nat} {e t : TypeId} {v : Value} {n : Nat} {xs : List Value} {k : Nat} {cs : Array Value} {f : Nat × Nat} (h : w.ownsRow B e 1 v n xs) (hk : w.heap[k]? = some (.cells cs t f)) (hne : t ≠ e) : v.ownBlock ≠ some k := fun ho => by
  rcases h.2 with ⟨rfl, _⟩ | ⟨q, cap, cur, rfl, _, hc, _⟩
  · cases ho
  · injection ho with ho
    subst ho
    rw [hk] at hc
    injection hc with hc
    injection hc with _ e2 _
    exact hne e2
/-- Two bounds are written. -/
theorem LfAt.put (h : LfAt B lp g p nv mv s S w) (x : Nat) (hx : x < S.length) (a b : Int) :
    LfAt B lp g p nv mv s (S.set x ⟨a, b, S[x].tv, S[x].ts⟩) ((w.setCell ⟨g, x * 3, none⟩ (.int .i64 a)).setCell ⟨g, x * 3 + 1, none⟩ (.int .i64 b)) ∧ Kq B w ((w.setCell ⟨g, x * 3, none⟩ (.int .i64 a)).setCell ⟨g, x * 3 + 1, none⟩ (.int .i64 b)) := by
  have r1 := heap_setCell_same w g (x * 3) _ 105 (.int .i64 a) h.row
  have r2 := heap_setCell_same _ g (x * 3 + 1) _ 105 (.int .i64 b) r1
  have k1 : Kq B w ((w.setCell ⟨g, x * 3, none⟩ (.int .i64 a)).setCell ⟨g, x * 3 + 1, none⟩ (.int .i64 b)) := (Kq.set _ h.g1 h.row).trans (Kq.set _ h.g1 r1)
  have hne : ∀ k, k ≠ g → ((w.setCell ⟨g, x * 3, none⟩ (.int .i64 a)).setCell ⟨g, x * 3 + 1, none⟩ (.int .i64 b)).heap[k]? = w.heap[k]? := fun k hk => by
    rw [heap_setCell_other _ _ _ _ hk, heap_setCell_other _ _ _ _ hk]
  have hget : ∀ y (hy : y < (S.set x ⟨a, b, S[x].tv, S[x].ts⟩).length), ∃ hy2 : y < S.length, (S.set x ⟨a, b, S[x].tv, S[x].ts⟩)[y].tv = S[y].tv ∧ (S.set x ⟨a, b, S[x].tv, S[x].ts⟩)[y].ts = S[y].ts := fun y hy => by
    have hy2 : y < S.length := by rw [List.length_set] at hy; exact hy
    refine ⟨hy2, ?_⟩
    rw [List.getElem_set]
    split
    · rename_i e; subst e; exact ⟨rfl, rfl⟩
    · exact ⟨rfl, rfl⟩
  refine ⟨{
    box := by rw [List.length_set, hne _ h.lr]; exact h.box
    row := by
      rw [r2]
      congr 2
      have := svs_set S x a b hx
      rw [← this]
      simp
    tests := fun y hy => by
      obtain ⟨hy2, e1, e2⟩ := hget y hy
      obtain ⟨fs, h1, h2⟩ := h.tests y hy2
      rw [e1, e2]
      refine ⟨fs, ?_, h2.kq k1⟩
      exact own_off (S := fun k => k = g) h1 (fun k hk e => own_type h1 h.row (by decide) (by rw [hk, e])) ⟨k1.below.size, fun k _ hk => hne k hk⟩
    apart := fun y z hy hz hyz k hk => by
      obtain ⟨hy2, e1, _⟩ := hget y hy
      obtain ⟨hz2, e2, _⟩ := hget z hz
      rw [e1] at hk
      rw [e2]
      exact h.apart y z hy2 hz2 hyz k hk
    b0 := h.b0
    lp1 := h.lp1
    g1 := h.g1
    st := h.store k1.below
    own := h.own
    len := by rw [List.length_set]; exact h.len
    tz := h.tz.below k1.below h.b0 }, k1⟩
end
end Go.Proofs.YtlcegpnnanhloaaGreatDoor
