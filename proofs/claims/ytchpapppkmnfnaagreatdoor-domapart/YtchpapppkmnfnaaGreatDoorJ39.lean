/-
  Put together: DtSame, DtSames.
-/
import Derived.Test.YtchpapppkmnfnaaGreatDoorJ35
import Derived.Test.YtchpapppkmnfnaaGreatDoorJ36
import Derived.Deep.RegionWith
namespace Go.Proofs.YtchpapppkmnfnaaGreatDoor
open Go.RowKit

set_option maxRecDepth 10000 in
set_option maxHeartbeats 1000000 in
theorem same_two (d e : Dm) (w : World) (hd : d.Ok) (he : e.Ok) (hT : Tz w) (hs : 0 < w.heap.size) : Calls Tryz.prog 69 #[dmVal d.f d.a d.b, dmVal e.f e.a e.b] w fun r w' => r = .returned (.bool (d.same e)) ∧ Below w.heap.size w w' := by
  obtain ⟨W, hW⟩ : ∃ W, (w.alloc (.cells #[.int .i64 d.f, .int .u32 d.a, .int .u32 d.b] 89)).alloc (.cells #[.int .i64 e.f, .int .u32 e.a, .int .u32 e.b] 89) = W := ⟨_, rfl⟩
  have hb0 : Below w.heap.size w W := by rw [← hW]; exact ((Below.refl _ _).alloc (Nat.le_refl _) _).alloc (by simp) _
  have HB : Hid (Below w.heap.size w W) := hb0
  have g0 : W.heap[w.heap.size]? = some (.cells #[.int .i64 d.f, .int .u32 d.a, .int .u32 d.b] 89 (0, 0)) := by rw [← hW, heap_alloc_old (w.alloc _) _ (by simp)]; exact heap_alloc_new w _
  have g1 : W.heap[w.heap.size + 1]? = some (.cells #[.int .i64 e.f, .int .u32 e.a, .int .u32 e.b] 89 (0, 0)) := by rw [← hW]; exact heap_alloc2_new w _ _
  have hlt := (Array.getElem?_eq_some_iff.1 g0).1
  have hlt1 := (Array.getElem?_eq_some_iff.1 g1).1
  have HS : Hid (∀ w', Below W.heap.size W w' → w'.cell? ⟨w.heap.size, 0, none⟩ = some (.int .i64 d.f) ∧ w'.cell? ⟨w.heap.size, 1, none⟩ = some (.int .u32 d.a) ∧ w'.cell? ⟨w.heap.size, 2, none⟩ = some (.int .u32 d.b) ∧ w'.cell? ⟨w.heap.size + 1, 0, none⟩ = some (.int .i64 e.f) ∧ w'.cell? ⟨w.heap.size + 1, 1, none⟩ = some (.int .u32 e.a) ∧ w'.cell? ⟨w.heap.size + 1, 2, none⟩ = some (.int .u32 e.b) ∧ Below W.heap.size W w') := fun w' hb =>
    ⟨(hb.cell (p := ⟨w.heap.size, 0, none⟩) hlt).trans (cell_of g0 0), (hb.cell (p := ⟨w.heap.size, 1, none⟩) hlt).trans (cell_of g0 1), (hb.cell (p := ⟨w.heap.size, 2, none⟩) hlt).trans (cell_of g0 2),
     (hb.cell (p := ⟨w.heap.size + 1, 0, none⟩) hlt1).trans (cell_of g1 0), (hb.cell (p := ⟨w.heap.size + 1, 1, none⟩) hlt1).trans (cell_of g1 1), (hb.cell (p := ⟨w.heap.size + 1, 2, none⟩) hlt1).trans (cell_of g1 2), hb⟩
  have hsW : 0 < W.heap.size := Nat.lt_of_lt_of_le hs hb0.size
  have hTW := hT.below hb0 hs
  have HLd : Hid (∀ w', Below W.heap.size W w' → Calls Tryz.prog 65 #[dmVal d.f d.a d.b] w' fun r w2 => r = .returned (.int .i64 d.lo) ∧ Below w'.heap.size w' w2) := fun w' hq => lo_any d.f d.a d.b w' hd.f1 hd.f2 hd.a hd.b (hTW.below hq hsW) (Nat.lt_of_lt_of_le hsW hq.size)
  have HLe : Hid (∀ w', Below W.heap.size W w' → Calls Tryz.prog 65 #[dmVal e.f e.a e.b] w' fun r w2 => r = .returned (.int .i64 e.lo) ∧ Below w'.heap.size w' w2) := fun w' hq => lo_any e.f e.a e.b w' he.f1 he.f2 he.a he.b (hTW.below hq hsW) (Nat.lt_of_lt_of_le hsW hq.size)
  have HPd : Hid (∀ w', Below W.heap.size W w' → Calls Tryz.prog 105 #[dmVal d.f d.a d.b] w' fun r w2 => r = .returned (btVal (dPack d.f d.a d.b).1 (dPack d.f d.a d.b).2) ∧ Below w'.heap.size w' w2) := fun w' hq => packed_any d.f d.a d.b w' hd.f1 hd.f2 hd.a hd.b (hTW.below hq hsW) (Nat.lt_of_lt_of_le hsW hq.size)
  have HPe : Hid (∀ w', Below W.heap.size W w' → Calls Tryz.prog 105 #[dmVal e.f e.a e.b] w' fun r w2 => r = .returned (btVal (dPack e.f e.a e.b).1 (dPack e.f e.a e.b).2) ∧ Below w'.heap.size w' w2) := fun w' hq => packed_any e.f e.a e.b w' he.f1 he.f2 he.a he.b (hTW.below hq hsW) (Nat.lt_of_lt_of_le hsW hq.size)
  have eq := eq65 (dPack d.f d.a d.b).1 (dPack d.f d.a d.b).2 (dPack e.f e.a e.b).1 (dPack e.f e.a e.b).2
  clear hb0 g0 g1 hlt hlt1 hT hTW hd he
  by_cases hl : d.lo = e.lo
  · have HR : Hid (d.same e = ((dPack d.f d.a d.b).1 == (dPack e.f e.a e.b).1 && (dPack d.f d.a d.b).2 == (dPack e.f e.a e.b).2)) := by
      show _ = _
      unfold Dm.same
      rw [hl]
      simp [Bool.beq_eq_decide_eq]
    rw [hl] at HLd
    obtain ⟨l, hll⟩ : ∃ l, e.lo = l := ⟨_, rfl⟩
    rw [hll] at HLd HLe
    have hle : (l == l) = true := by simp
    clear hl hll
    unfold dmVal btVal at *
    go_enter Tryz.func69, Tryz.ntmps69
    go_wp2_with fail
    go_region_held3 (fun w' => w'.cell? ⟨w.heap.size, 0, none⟩ = some (.int .i64 d.f) ∧ w'.cell? ⟨w.heap.size, 1, none⟩ = some (.int .u32 d.a) ∧ w'.cell? ⟨w.heap.size, 2, none⟩ = some (.int .u32 d.b) ∧ w'.cell? ⟨w.heap.size + 1, 0, none⟩ = some (.int .i64 e.f) ∧ w'.cell? ⟨w.heap.size + 1, 1, none⟩ = some (.int .u32 e.a) ∧ w'.cell? ⟨w.heap.size + 1, 2, none⟩ = some (.int .u32 e.b) ∧ Below W.heap.size W w')
      (first | exact HS.out _ (Below.refl _ _).drew | exact HS.out _ (bl_next (And.right (And.right (And.right (And.right (And.right (And.right (by assumption))))))) (by assumption)) | assumption)
      (first
        | (go_at_call 65; refine calls_at (HLd.out _ (And.right (And.right (And.right (And.right (And.right (And.right (by assumption)))))))) (by with_reducible rfl) (by with_reducible rfl) ?_; rintro r w1 ⟨rfl, hb1⟩)
        | (go_at_call 65; refine calls_at (HLe.out _ (And.right (And.right (And.right (And.right (And.right (And.right (by assumption)))))))) (by with_reducible rfl) (by with_reducible rfl) ?_; rintro r w1 ⟨rfl, hb1⟩)
        | (go_at_call 105; refine calls_at (HPd.out _ (And.right (And.right (And.right (And.right (And.right (And.right (by assumption)))))))) (by with_reducible rfl) (by with_reducible rfl) ?_; rintro r w2 ⟨rfl, hb2⟩)
        | (go_at_call 105; refine calls_at (HPe.out _ (And.right (And.right (And.right (And.right (And.right (And.right (by assumption)))))))) (by with_reducible rfl) (by with_reducible rfl) ?_; rintro r w2 ⟨rfl, hb2⟩))
    have HB1 : Hid (Below W.heap.size W w2) := And.right (And.right (And.right (And.right (And.right (And.right (by assumption))))))
    go_wp2_with fail
    go_ret
    exact ⟨ret_bool HR.out.symm, HB.out.trans (HB1.out.mono HB.out.size)⟩
  · have HR : Hid (d.same e = false) := by
      show _ = _
      unfold Dm.same
      simp [hl]
    have hle : (d.lo == e.lo) = false := by simpa using hl
    obtain ⟨l, hll⟩ : ∃ l, e.lo = l := ⟨_, rfl⟩
    obtain ⟨k, hkk⟩ : ∃ k, d.lo = k := ⟨_, rfl⟩
    rw [hll] at HLe hle
    rw [hkk] at HLd hle
    clear hl hll hkk eq HPd HPe
    obtain ⟨c0, c1, c2, c3, c4, c5, _⟩ := HS.out W (Below.refl _ _)
    unfold dmVal at *
    go_enter Tryz.func69, Tryz.ntmps69
    go_wp2_with fail
    go_cut [4] from 5 to 16 (fun s4 wx => s4 = .bool false ∧ Hid (Below W.heap.size W wx))
    case first =>
      go_region_with (first
        | (go_at_call 65; refine calls_at (HLd.out w1 HB1.out) (by with_reducible rfl) (by with_reducible rfl) ?_; rintro r w2 ⟨rfl, hb2⟩; (have HB2 : Hid (Below W.heap.size W w2) := bl_next HB1.out hb2); clear hb2)
        | (go_at_call 65; refine calls_at (HLe.out w1 HB1.out) (by with_reducible rfl) (by with_reducible rfl) ?_; rintro r w2 ⟨rfl, hb2⟩; (have HB2 : Hid (Below W.heap.size W w2) := bl_next HB1.out hb2); clear hb2)
        | (go_at_call 65; refine calls_at (HLd.out _ (Below.refl _ _).drew) (by with_reducible rfl) (by with_reducible rfl) ?_; rintro r w1 ⟨rfl, hb1⟩; (have HB1 : Hid (Below W.heap.size W w1) := bl_next (Below.refl _ _).drew hb1); (obtain ⟨x0, x1, x2, x3, x4, x5, _⟩ := HS.out w1 HB1.out); clear hb1)
        | (go_at_call 65; refine calls_at (HLe.out _ (Below.refl _ _).drew) (by with_reducible rfl) (by with_reducible rfl) ?_; rintro r w1 ⟨rfl, hb1⟩; (have HB1 : Hid (Below W.heap.size W w1) := bl_next (Below.refl _ _).drew hb1); (obtain ⟨x0, x1, x2, x3, x4, x5, _⟩ := HS.out w1 HB1.out); clear hb1))
      all_goals
        go_wp2_with fail
        go_meet
        exact ⟨rfl, HB2⟩
    case rest =>
      obtain ⟨rfl, HBx⟩ := hcut
      go_wp2_with fail
      go_ret
      exact ⟨ret_bool HR.out.symm, HB.out.trans (HBx.out.mono HB.out.size)⟩
end Go.Proofs.YtchpapppkmnfnaaGreatDoor

namespace Go.Proofs.YtchpapppkmnfnaaGreatDoor
open Go.RowKit

set_option maxRecDepth 10000 in
set_option maxHeartbeats 1000000 in
theorem equal_two (B B' : Nat) (nv nv' : Value) (L M : List Dm) (w : World) (h : w.ownsRow B 89 3 nv L.length (dms L)) (h' : w.ownsRow B' 89 3 nv' M.length (dms M)) (hg : ∀ d ∈ L, d.Ok ∧ d.Any) (hg' : ∀ d ∈ M, d.Ok ∧ d.Any) (hT : Tz w) (hs : 0 < w.heap.size) (hl : L.length ≤ 32) : Calls Tryz.prog 68 #[nv, nv', .func (.func 69) #[] #[]] w fun e w' => e = .returned (.bool (decide (L.map Dm.all = M.map Dm.all))) ∧ Below w.heap.size w w' := by
  obtain ⟨a, cap, rfl, hc⟩ := dm_form h
  obtain ⟨a', cap', rfl, hc'⟩ := dm_form h'
  have HC : Hid (∀ w', Below w.heap.size w w' → ∀ j (hj : j < L.length), ∃ g, a = some ⟨g, 0, none⟩ ∧ w'.cell? ⟨g, j * 3, none⟩ = some (.int .i64 L[j].f) ∧ w'.cell? ⟨g, j * 3 + 1, none⟩ = some (.int .u32 L[j].a) ∧ w'.cell? ⟨g, j * 3 + 2, none⟩ = some (.int .u32 L[j].b)) := fun w' hb j hj => by
    obtain ⟨g, e1, _, e2, e3, e4, e5, _⟩ := hc j hj
    exact ⟨g, e1, (hb.cell (p := ⟨g, j * 3, none⟩) e2).trans e3, (hb.cell (p := ⟨g, j * 3 + 1, none⟩) e2).trans e4, (hb.cell (p := ⟨g, j * 3 + 2, none⟩) e2).trans e5⟩
  have HC' : Hid (∀ w', Below w.heap.size w w' → ∀ j (hj : j < M.length), ∃ g, a' = some ⟨g, 0, none⟩ ∧ w'.cell? ⟨g, j * 3, none⟩ = some (.int .i64 M[j].f) ∧ w'.cell? ⟨g, j * 3 + 1, none⟩ = some (.int .u32 M[j].a) ∧ w'.cell? ⟨g, j * 3 + 2, none⟩ = some (.int .u32 M[j].b)) := fun w' hb j hj => by
    obtain ⟨g, e1, _, e2, e3, e4, e5, _⟩ := hc' j hj
    exact ⟨g, e1, (hb.cell (p := ⟨g, j * 3, none⟩) e2).trans e3, (hb.cell (p := ⟨g, j * 3 + 1, none⟩) e2).trans e4, (hb.cell (p := ⟨g, j * 3 + 2, none⟩) e2).trans e5⟩
  have HSm : Hid (∀ d ∈ L, ∀ e ∈ M, ∀ w', Below w.heap.size w w' → Calls Tryz.prog 69 #[dmVal d.f d.a d.b, dmVal e.f e.a e.b] w' fun r w2 => r = .returned (.bool (decide (d.all = e.all))) ∧ Below w'.heap.size w' w2) := fun d hd e he w' hb => by
    have := same_two d e w' (hg d hd).1 (hg' e he).1 (hT.below hb hs) (Nat.lt_of_lt_of_le hs hb.size)
    rw [same_is (hg d hd).1 (hg d hd).2 (hg' e he).1 (hg' e he).2] at this
    exact this
  clear h h' hc hc' hg hg' hT
  unfold dmVal at *
  by_cases hlm : L.length = M.length
  · have HLM : Hid (L.length = M.length) := hlm
    rw [← hlm]
    clear hlm
    go_enter Tryz.func68, Tryz.ntmps68
    go_wp2_with fail
    go_loopw [17] (fun iv wr => ∃ k : Nat, iv = .int .i64 (k : Int) ∧ k ≤ L.length ∧ Hid (∀ i, i < k → (L.map Dm.all)[i]? = (M.map Dm.all)[i]?) ∧ Hid (Below w.heap.size w wr)) (fun iv _ => L.length - (intOf iv).toNat)
    case atStart => exact ⟨0, rfl, Nat.zero_le _, fun i hi => absurd hi (Nat.not_lt_zero _), Below.refl _ _⟩
    case round =>
      obtain ⟨k, rfl, hk, HE, HBr⟩ := hrel
      by_cases hkn : k < L.length
      · have hkm : k < M.length := by have := HLM.out; omega
        obtain ⟨g, rfl, x0, x1, x2⟩ := HC.out wr HBr.out k hkn
        obtain ⟨g', rfl, y0, y1, y2⟩ := HC'.out (wr.alloc (.cells #[.int .i64 L[k].f, .int .u32 L[k].a, .int .u32 L[k].b] 89)) (bl_alloc HBr.out _) k hkm
        have HSd := HSm.out L[k] (List.getElem_mem hkn) M[k] (List.getElem_mem hkm)
        have HNo : Hid (L[k].all ≠ M[k].all → decide (L.map Dm.all = M.map Dm.all) = false) := fun h => decide_eq_false fun e => h (by
          have := congrArg (fun l => l[k]?) e
          simpa [hkn, hkm] using this)
        have HYes : Hid (L[k].all = M[k].all → ∀ i, i < k + 1 → (L.map Dm.all)[i]? = (M.map Dm.all)[i]?) := fun e i hi => by
          rcases Nat.lt_succ_iff_lt_or_eq.1 hi with h | rfl
          · exact HE.out i h
          · simp [hkn, hkm, e]
        obtain ⟨d, hd⟩ : ∃ d, L[k] = d := ⟨_, rfl⟩
        obtain ⟨f, hf⟩ : ∃ f, M[k] = f := ⟨_, rfl⟩
        rw [hd] at x0 x1 x2 y0 y1 y2 HSd HNo HYes
        rw [hf] at y0 y1 y2 HSd HNo HYes
        have hkI : (k : Int) < (L.length : Int) := by omega
        by_cases he : d.all = f.all
        · have HSD : Hid (∀ w', Below w.heap.size w w' → Calls Tryz.prog 69 #[.agg #[.int .i64 d.f, .int .u32 d.a, .int .u32 d.b], .agg #[.int .i64 f.f, .int .u32 f.a, .int .u32 f.b]] w' fun r w2 => r = .returned (.bool true) ∧ Below w'.heap.size w' w2) := by
            rw [decide_eq_true he] at HSd
            exact HSd
          have HE2 : Hid (∀ i, i < k + 1 → (L.map Dm.all)[i]? = (M.map Dm.all)[i]?) := HYes.out he
          clear HSd hd hf he HNo HYes
          go_wp2_with fail
          refine calls_at (HSD.out _ (bl_alloc (bl_alloc HBr.out _) _)) (by with_reducible rfl) (by with_reducible rfl) ?_
          rintro e w1 ⟨rfl, hb1⟩
          have HB1 : Hid (Below w.heap.size w w1) := bl_next (bl_alloc (bl_alloc HBr.out _) _) hb1
          clear hb1
          go_wp2_with fail
          go_roundw
          case rel => exact ⟨k + 1, by go_num, hkn, HE2, HB1⟩
          case measure => simp [intOf]; omega
        · have HSD : Hid (∀ w', Below w.heap.size w w' → Calls Tryz.prog 69 #[.agg #[.int .i64 d.f, .int .u32 d.a, .int .u32 d.b], .agg #[.int .i64 f.f, .int .u32 f.a, .int .u32 f.b]] w' fun r w2 => r = .returned (.bool false) ∧ Below w'.heap.size w' w2) := by
            rw [decide_eq_false he] at HSd
            exact HSd
          have HR := HNo.out he
          clear HSd hd hf he HNo HYes
          go_wp2_with fail
          refine calls_at (HSD.out _ (bl_alloc (bl_alloc HBr.out _) _)) (by with_reducible rfl) (by with_reducible rfl) ?_
          rintro e w1 ⟨rfl, hb1⟩
          have HB1 : Hid (Below w.heap.size w w1) := bl_next (bl_alloc (bl_alloc HBr.out _) _) hb1
          clear hb1
          go_wp2_with fail
          go_ret
          exact ⟨ret_bool HR.symm, HB1.out⟩
      · have hke : k = L.length := by omega
        subst hke
        have HR : L.map Dm.all = M.map Dm.all := by
          apply List.ext_getElem?
          intro i
          by_cases hi : i < L.length
          · exact HE.out i hi
          · have := HLM.out
            rw [List.getElem?_eq_none (by simp; omega), List.getElem?_eq_none (by simp; omega)]
        go_wp2_with fail
        go_ret
        exact ⟨ret_bool (by simp [HR]), HBr.out⟩
  · have hlI : ((L.length : Int) == (M.length : Int)) = false := by simp; omega
    have HR : decide (L.map Dm.all = M.map Dm.all) = false := decide_eq_false fun e => hlm (by simpa using congrArg List.length e)
    go_enter Tryz.func68, Tryz.ntmps68
    go_wp2_with fail
    go_ret
    exact ⟨ret_bool HR.symm, Below.refl _ _⟩

set_option maxRecDepth 10000 in
set_option maxHeartbeats 1000000 in
theorem same_stores (B p B' p' : Nat) (nv mv nv' mv' : Value) (s s' : St) (w : World) (h : StAt B w p nv mv s) (h' : StAt B' w p' nv' mv' s') (ha : Alls s) (ha' : Alls s') (hT : Tz w) : Calls Tryz.prog 28 #[.pointer (some ⟨p, 0, none⟩), .pointer (some ⟨p', 0, none⟩)] w fun e w' => e = .returned (.bool (decide (s.now.map Dm.all = s'.now.map Dm.all))) ∧ Below w.heap.size w w' := by
  have hs : 0 < w.heap.size := Nat.lt_of_le_of_lt (Nat.zero_le _) h.lt
  have HS : Hid (∀ w', Below w.heap.size w w' → w'.cell? ⟨p, 0, none⟩ = some nv ∧ w'.cell? ⟨p', 0, none⟩ = some nv' ∧ Below w.heap.size w w') := fun w' hb =>
    ⟨cell_of (h.below hb).o 0, cell_of (h'.below hb).o 0, hb⟩
  have HE : Hid (∀ w', Below w.heap.size w w' → Calls Tryz.prog 68 #[nv, nv', .func (.func 69) #[] #[]] w' fun e w2 => e = .returned (.bool (decide (s.now.map Dm.all = s'.now.map Dm.all))) ∧ Below w'.heap.size w' w2) := fun w' hb => equal_two B B' nv nv' s.now s'.now w' (h.below hb).n (h'.below hb).n ha ha' (hT.below hb hs) (Nat.lt_of_lt_of_le hs hb.size) h.n32
  clear h h' hT
  obtain ⟨b, hb⟩ : ∃ b, decide (s.now.map Dm.all = s'.now.map Dm.all) = b := ⟨_, rfl⟩
  rw [hb] at HE
  rw [hb]
  clear hb ha ha'
  go_enter Tryz.func28, Tryz.ntmps28
  go_wp2_with fail
  go_region_held3 (fun w' => w'.cell? ⟨p, 0, none⟩ = some nv ∧ w'.cell? ⟨p', 0, none⟩ = some nv' ∧ Below w.heap.size w w')
    (first | exact HS.out _ (Below.refl _ _).drew | exact HS.out _ (bl_next (And.right (And.right (by assumption))) (by assumption)) | assumption)
    (first
      | (go_at_call 68; refine calls_at (HE.out _ (And.right (And.right (by assumption)))) (by with_reducible rfl) (by with_reducible rfl) ?_; rintro e w1 ⟨rfl, hb1⟩))
  have HB1 : Hid (Below w.heap.size w w1) := And.right (And.right (by assumption))
  go_wp2_with fail
  go_ret
  exact ⟨rfl, HB1.out⟩
end Go.Proofs.YtchpapppkmnfnaaGreatDoor
