/-
  Put together: PfWr, PfPPick, PfWr2, PfWrite.
-/
import Derived.Test.YtibbnijicdijnaaGreatDoorPfPRow
namespace Go.Proofs.YtibbnijicdijnaaGreatDoor
open Go.RowKit

/-- A step's lists, as a writer reads them. -/
structure SlE (B : Nat) (w : World) (d : SL) (vo vp vl vi : Value) : Prop where
  o : RdE B w vo d.ops.length (opsC d.ops)
  p : RdE B w vp d.pcs.length (pcsC d.pcs)
  l : RdE B w vl d.lits.length (d.lits.map (.int .i64))
  i : RdE B w vi d.ids.length (d.ids.map fun x => .string (txtOf x))
theorem SlE.next {B : Nat} {w w' : World} {d : SL} {vo vp vl vi : Value} (h : SlE B w d vo vp vl vi) (k : Kq B w w') : SlE B w' d vo vp vl vi := ⟨h.o.next k, h.p.next k, h.l.next k, h.i.next k⟩
structure SlI (d : SL) : Prop where
  p : ∀ x ∈ d.pcs, -9223372036854775808 ≤ x.2 ∧ x.2 ≤ 9223372036854775807
  l : ∀ x ∈ d.lits, -9223372036854775808 ≤ x ∧ x ≤ 9223372036854775807
  o : ∀ x ∈ d.ops, -9223372036854775808 ≤ x.2.2 ∧ x.2.2 ≤ 9223372036854775807
def WrO (B b : Nat) (l : List UInt8) (w : World) (e : Ending) (w' : World) : Prop := e = .returned (.tuple #[]) ∧ PageAt B b l w' ∧ Kq B w w'
def Wrt (f : FuncId) (g : SL → List (List UInt8)) : Prop := ∀ (B b : Nat) (l : List UInt8) (d : SL) (vo vp vl vi : Value) (w : World), PageAt B b l w → SlE B w d vo vp vl vi → SlI d → l.length + tot (g d) ≤ 900000000 → B ≤ w.heap.size → Gl w → 12 ≤ B → Calls Tryz.prog f #[.pointer (some ⟨b, 0, none⟩), .agg (slC d vo vp vl vi)] w (WrO B b (wordsP (g d) l) w)

/-- A step in a box. -/
theorem box_held {B : Nat} {w : World} {d : SL} {vo vp vl vi : Value} {W : World} (hW : w.alloc (.cells (slC d vo vp vl vi) 45) = W) (w' : World) (k : Kq B W w') : w'.heap[w.heap.size]? = some (.cells (slC d vo vp vl vi) 45 (0, 0)) :=
  k.other _ _ _ _ (by rw [← hW]; exact heap_alloc_new w _) (by decide) (by decide)

set_option maxRecDepth 10000 in
set_option maxHeartbeats 2000000 in
theorem wrt_rup : Wrt 88 fun d => rowT d.pcs d.deg ++ d.ids := by
  intro B b l d vo vp vl vi w h hs hi hl hBw hg hB
  have hl1 : l.length + tot (rowT d.pcs d.deg) + tot d.ids ≤ 900000000 := by rw [tot_app] at hl; omega
  obtain ⟨W, hW⟩ : ∃ W, w.alloc (.cells (slC d vo vp vl vi) 45) = W := ⟨_, rfl⟩
  have hbW : Below w.heap.size w W := by rw [← hW]; exact (Below.refl _ _).alloc (Nat.le_refl _) _
  have kW : Kq B w W.drew := Kq.of_below hbW.drew hBw
  have hBW : B ≤ W.drew.heap.size := Nat.le_trans hBw hbW.drew.size
  have HK : Hid (∀ w', Kq B W.drew w' → w'.cell? ⟨w.heap.size, 3, none⟩ = some vp ∧ w'.cell? ⟨w.heap.size, 4, none⟩ = some (.string (txtOf d.deg)) ∧ w'.cell? ⟨w.heap.size, 6, none⟩ = some vi) := fun w' k => by
    have := k.other _ _ _ _ (show W.drew.heap[w.heap.size]? = some (.cells (slC d vo vp vl vi) 45 (0, 0)) by show W.heap[w.heap.size]? = _; rw [← hW]; exact heap_alloc_new w _) (by decide) (by decide)
    exact ⟨cell_of this 3, cell_of this 4, cell_of this 6⟩
  have HR : Hid (Calls Tryz.prog 125 #[.pointer (some ⟨b, 0, none⟩), .agg #[vp, .string (txtOf d.deg)]] W.drew fun e w' => e = .returned (.pointer (some ⟨b, 0, none⟩)) ∧ PageAt B b (wordsP (rowT d.pcs d.deg) l) w' ∧ Kq B W.drew w') := prow_any d.pcs d.deg vp W.drew (page_below h hbW.drew) (hs.p.next kW) (by omega) hi.p hBW (hg.kq kW hB) hB
  have HI : Hid (∀ w', Kq B W.drew w' → PageAt B b (wordsP (rowT d.pcs d.deg) l) w' → Calls Tryz.prog 80 #[.pointer (some ⟨b, 0, none⟩), vi] w' fun e w2 => e = .returned (.pointer (some ⟨b, 0, none⟩)) ∧ PageAt B b (wordsP (rowT d.pcs d.deg ++ d.ids) l) w2 ∧ Kq B w' w2) := fun w' k hp => by
    refine (words_any d.ids vi w' hp (hs.i.next (kW.trans k)) ?_ (Nat.le_trans hBW k.low.size)).mono fun e w2 hq => ⟨hq.1, ?_, hq.2.2⟩
    · have := words_len (rowT d.pcs d.deg) l
      omega
    · rw [words_app]; exact hq.2.1
  have HKW : Hid (Kq B w W.drew) := kW
  unfold WrO
  obtain ⟨Z, hZ⟩ : ∃ Z, wordsP (rowT d.pcs d.deg ++ d.ids) l = Z := ⟨_, rfl⟩
  rw [hZ] at HI
  show Calls _ _ _ _ fun e w' => e = _ ∧ PageAt B b (wordsP (rowT d.pcs d.deg ++ d.ids) l) w' ∧ Kq B w w'
  rw [hZ]
  have HC := hs.o
  unfold slC at hW
  unfold slC
  obtain ⟨ao, co, rfl, _, _⟩ := hs.o
  obtain ⟨ap, cp, rfl, _, _⟩ := hs.p
  obtain ⟨al, cl, rfl, _, _⟩ := hs.l
  obtain ⟨ai, ci, rfl, _, _⟩ := hs.i
  obtain ⟨dk, dn, do_, dp, dg, dl, di, de, dw, dh⟩ := d
  dsimp only at hW HK HR HI hZ ⊢
  clear h hs hi hl hg hl1 hbW kW HC hZ
  go_enter Tryz.func88, Tryz.ntmps88
  go_wp2_with fail
  refine wp_region_T (fun w' => w'.cell? ⟨w.heap.size, 3, none⟩ = some (.slice ap dp.length cp) ∧ w'.cell? ⟨w.heap.size, 4, none⟩ = some (.string (txtOf dg)) ∧ w'.cell? ⟨w.heap.size, 6, none⟩ = some (.slice ai di.length ci)) (fun _ => True) [] (by kernel_rfl) ⟨HK.out _ (Kq.refl _ _), trivial⟩ (fun hHeld => ?_)
  clear hW
  generalize W.drew = U at hHeld HK HR HI HKW hBW ⊢
  refine wpAnyT_takeB (i := 0) (oi := ⟨some 4, .move (.tmp 0), _, _, _, _⟩) (v := ?v0) rfl (by kernel_rfl) (by kernel_rfl) (by kernel_rfl) (by kernel_rfl) (fun _ _ _ h => h) (Or.inl ⟨by rfl, ?hy0⟩) (by assumption) ?rest0
  case hy0 => (intro w hSw; (try dsimp only at hSw); obtain ⟨s0, s1, s2⟩ := hSw; go_simp; try (with_reducible rfl))
  try simp only [Act.put, List.setIfInBounds_toArray, List.set_cons_zero, List.set_cons_succ]
  refine wpAnyT_takeB (i := 1) (oi := ⟨some 5, .fieldAddr 45 (.tmp 3) 3, _, _, _, _⟩) (v := ?v1) rfl (by kernel_rfl) (by kernel_rfl) (by kernel_rfl) (by kernel_rfl) (fun _ _ _ h => h) (Or.inl ⟨by rfl, ?hy1⟩) (by assumption) ?rest1
  case hy1 => (intro w hSw; (try dsimp only at hSw); obtain ⟨s0, s1, s2⟩ := hSw; go_simp; try (with_reducible rfl))
  try simp only [Act.put, List.setIfInBounds_toArray, List.set_cons_zero, List.set_cons_succ]
  refine wpAnyT_takeB (i := 2) (oi := ⟨some 6, .load 41 (.tmp 5), _, _, _, _⟩) (v := ?v2) rfl (by kernel_rfl) (by kernel_rfl) (by kernel_rfl) (by kernel_rfl) (fun _ _ _ h => h) (Or.inl ⟨by rfl, ?hy2⟩) (by assumption) ?rest2
  case hy2 => (intro w hSw; (try dsimp only at hSw); obtain ⟨s0, s1, s2⟩ := hSw; go_simp; try (with_reducible rfl))
  try simp only [Act.put, List.setIfInBounds_toArray, List.set_cons_zero, List.set_cons_succ]
  refine wpAnyT_takeB (i := 4) (oi := ⟨some 8, .fieldAddr 45 (.tmp 3) 5, _, _, _, _⟩) (v := ?v4) rfl (by kernel_rfl) (by kernel_rfl) (by kernel_rfl) (by kernel_rfl) (fun _ _ _ h => h) (Or.inl ⟨by rfl, ?hy4⟩) (by assumption) ?rest4
  case hy4 => (intro w hSw; (try dsimp only at hSw); obtain ⟨s0, s1, s2⟩ := hSw; go_simp; try (with_reducible rfl))
  try simp only [Act.put, List.setIfInBounds_toArray, List.set_cons_zero, List.set_cons_succ]
  refine wpAnyT_takeB (i := 5) (oi := ⟨some 9, .load 43 (.tmp 8), _, _, _, _⟩) (v := ?v5) rfl (by kernel_rfl) (by kernel_rfl) (by kernel_rfl) (by kernel_rfl) (fun _ _ _ h => h) (Or.inl ⟨by rfl, ?hy5⟩) (by assumption) ?rest5
  case hy5 => (intro w hSw; (try dsimp only at hSw); obtain ⟨s0, s1, s2⟩ := hSw; go_simp; try (with_reducible rfl))
  try simp only [Act.put, List.setIfInBounds_toArray, List.set_cons_zero, List.set_cons_succ]
  clear hHeld
  refine wpAnyT_one (i := 3) (o := ⟨some 7, .call { callee := .value (.func 125), args := #[(.tmp 4), (.tmp 6)], argTypes := #[123, 41] }, _, _, _, _⟩) (by kernel_rfl) rfl (fun K hK => ?_)
  go_simp
  refine calls_at HR.out (by with_reducible rfl) (by with_reducible rfl) ?_
  rintro e w1 ⟨rfl, hp1, hk1⟩
  have H1 : Hid (PageAt B b (wordsP (rowT dp dg) l) w1 ∧ Kq B U w1) := ⟨hp1, hk1⟩
  clear hp1 hk1
  go_wp2_with fail
  refine hK.out _ _ ⟨HK.out _ H1.out.2, fun _ => trivial⟩ ?_
  clear hK K
  try simp only [Act.put, List.setIfInBounds_toArray, List.set_cons_zero, List.set_cons_succ]
  refine wpAnyT_one (i := 6) (o := ⟨some 10, .call { callee := .value (.func 80), args := #[(.tmp 7), (.tmp 9)], argTypes := #[123, 43] }, _, _, _, _⟩) (by kernel_rfl) rfl (fun K hK => ?_)
  go_simp
  refine calls_at (HI.out w1 H1.out.2 H1.out.1) (by with_reducible rfl) (by with_reducible rfl) ?_
  rintro e w2 ⟨rfl, hp2, hk2⟩
  have H2 : Hid (PageAt B b Z w2 ∧ Kq B U w2) := ⟨hp2, H1.out.2.trans hk2⟩
  clear hp2 hk2
  go_wp2_with fail
  refine hK.out _ _ ⟨HK.out _ H2.out.2, fun _ => trivial⟩ ?_
  clear hK K
  try simp only [Act.put, List.setIfInBounds_toArray, List.set_cons_zero, List.set_cons_succ]
  refine wpAnyT_done (by kernel_rfl) ?_ _
  go_wp2_with fail
  go_end0
  exact ⟨rfl, H2.out.1, HKW.out.trans H2.out.2⟩
end Go.Proofs.YtibbnijicdijnaaGreatDoor

namespace Go.Proofs.YtibbnijicdijnaaGreatDoor
open Go.RowKit

/-- The words of the forms of a kind. -/
def kindT (T : List FmL) (wr : FuncId → SL → List (List UInt8)) (k : Int) (d : SL) : List (List UInt8) := T.flatMap fun f => if f.1 = k then f.2.1 :: wr f.2.2.2 d else []
structure TabW (T : List FmL) (wr : FuncId → SL → List (List UInt8)) (k : Int) : Prop where
  leaf : ∀ f ∈ T, f.1 = k → Wrt f.2.2.2 (wr f.2.2.2)
  few : T.length ≤ 100
  ent : ∀ f ∈ T, Go.Proofs.Enters Tryz.prog f.2.2.2
theorem kindT_take (T : List FmL) (wr : FuncId → SL → List (List UInt8)) (k : Int) (d : SL) (j : Nat) (hj : j < T.length) : kindT (T.take (j + 1)) wr k d = kindT (T.take j) wr k d ++ (if T[j].1 = k then T[j].2.1 :: wr T[j].2.2.2 d else []) := by
  unfold kindT
  rw [List.take_succ_eq_append_getElem hj, List.flatMap_append]
  simp
theorem kindT_le (T : List FmL) (wr : FuncId → SL → List (List UInt8)) (k : Int) (d : SL) (j : Nat) (hj : j < T.length) : tot (kindT (T.take j) wr k d) + tot (if T[j].1 = k then T[j].2.1 :: wr T[j].2.2.2 d else []) ≤ tot (kindT T wr k d) := by
  have e : kindT T wr k d = kindT (T.take (j + 1)) wr k d ++ kindT (T.drop (j + 1)) wr k d := by
    unfold kindT
    rw [← List.flatMap_append, List.take_append_drop]
  rw [e, kindT_take T wr k d j hj, tot_app, tot_app]
  omega
theorem tot_cons (x : List UInt8) (L : List (List UInt8)) : tot (x :: L) = x.length + 1 + tot L := by simp [tot]

set_option maxRecDepth 10000 in
set_option maxHeartbeats 2000000 in
theorem ppick_any {B b t : Nat} {l : List UInt8} {T : List FmL} {wf : FuncId → SL → List (List UInt8)} (k : Int) (hT : TabW T wf k) (d : SL) (vo vp vl vi : Value) (w : World) (h : PageAt B b l w) (htb : w.heap[t]? = some (.cells (fmsC T).toArray 154 (0, 0))) (hs : SlE B w d vo vp vl vi) (hi : SlI d) (hl : l.length + tot (kindT T wf k d) ≤ 900000000) (hBw : B ≤ w.heap.size) (hg : Gl w) (hB : 12 ≤ B) : Calls Tryz.prog 60 #[.pointer (some ⟨b, 0, none⟩), .slice (some ⟨t, 0, none⟩) T.length T.length, .int .i64 k, .agg (slC d vo vp vl vi)] w (WrO B b (wordsP (kindT T wf k d) l) w) := by
  obtain ⟨W, hW⟩ : ∃ W, w.alloc (.cells (slC d vo vp vl vi) 45) = W := ⟨_, rfl⟩
  have hbW : Below w.heap.size w W := by rw [← hW]; exact (Below.refl _ _).alloc (Nat.le_refl _) _
  have HW : Hid (Kq B w W) := Kq.of_below hbW hBw
  have HPW : Hid (PageAt B b l W) := page_below h hbW
  have HTb : Hid (w.heap[t]? = some (.cells (fmsC T).toArray 154 (0, 0))) := htb
  have HBx : Hid (∀ w', Kq B W w' → w'.heap[w.heap.size]? = some (.cells (slC d vo vp vl vi) 45 (0, 0))) := fun w' k => box_held hW w' k
  have HS : Hid (SlE B w d vo vp vl vi) := hs
  have HI : Hid (SlI d) := hi
  have HG : Hid (Gl w) := hg
  have HTw : Hid (TabW T wf k) := hT
  have hTl := hT.few
  have HL : Hid (l.length + tot (kindT T wf k d) ≤ 900000000) := hl
  clear h htb hs hi hg hT hbW hl
  unfold WrO
  go_enter Tryz.func60, Tryz.ntmps60
  unfold slC at hW
  unfold slC
  go_wp2_with fail
  go_loopw [12] (fun iv wr => ∃ j : Nat, iv = .int .i64 (j : Int) ∧ j ≤ T.length ∧ Hid (PageAt B b (wordsP (kindT (T.take j) wf k d) l) wr ∧ Kq B w wr ∧ Kq B W wr)) (fun iv _ => T.length - (intOf iv).toNat)
  case atStart => exact ⟨0, rfl, Nat.zero_le _, HPW.out, HW.out, Kq.refl _ _⟩
  case round =>
    obtain ⟨j, rfl, hj, HP⟩ := hrel
    by_cases hjn : j < T.length
    · have hjI : (j : Int) < (T.length : Int) := by omega
      obtain ⟨k0, k1, k2, k3⟩ := tab_cell (HP.out.2.1.other _ _ _ _ HTb.out (by decide) (by decide)) j hjn
      have HN0 := kindT_take T wf k d j hjn
      have hle := kindT_le T wf k d j hjn
      obtain ⟨f, hf⟩ : ∃ f, T[j] = f := ⟨_, rfl⟩
      have hmem : f ∈ T := hf ▸ List.getElem_mem hjn
      rw [hf] at k0 k1 k2 k3 HN0 hle
      have hSF : ∀ (W : World) (ad : Addr) (id : FuncId), (store ad (.func (.func id) #[] #[])).run Tryz.prog W = stored Tryz.prog W ad (.func (.func id) #[] #[]) .plain := fun W ad id => run_store Tryz.prog W ad _ _ rfl
      obtain ⟨m, hm⟩ : ∃ m, wordsP (kindT (T.take j) wf k d) l = m := ⟨_, rfl⟩
      have hml : m.length + tot (if f.1 = k then f.2.1 :: wf f.2.2.2 d else []) ≤ 900000000 := by
        have h1 := words_len (kindT (T.take j) wf k d) l
        have := HL.out
        rw [hm] at h1
        omega
      have HN : Hid (wordsP (kindT (T.take (j + 1)) wf k d) l = wordsP (if f.1 = k then f.2.1 :: wf f.2.2.2 d else []) m) := by
        show _ = _
        rw [HN0, words_app, hm]
      have hBr : B ≤ wr.heap.size := Nat.le_trans hBw HP.out.2.1.low.size
      obtain ⟨X, hX⟩ : ∃ X, wr.alloc (.cells #[.int .i64 f.1, .string (txtOf f.2.1), .func (.func f.2.2.1) #[] #[], .func (.func f.2.2.2) #[] #[]] 154) = X := ⟨_, rfl⟩
      have hbX : Below wr.heap.size wr X := by rw [← hX]; exact (Below.refl _ _).alloc (Nat.le_refl _) _
      have gX : X.heap[wr.heap.size]? = some (.cells #[.int .i64 f.1, .string (txtOf f.2.1), .func (.func f.2.2.1) #[] #[], .func (.func f.2.2.2) #[] #[]] 154 (0, 0)) := by rw [← hX]; exact heap_alloc_new wr _
      have HX : Hid (PageAt B b m X ∧ Kq B w X ∧ Kq B W X) := ⟨by rw [← hm]; exact page_below HP.out.1 hbX, HP.out.2.1.trans (Kq.of_below hbX hBr), HP.out.2.2.trans (Kq.of_below hbX hBr)⟩
      have hXs : X.heap.size = wr.heap.size + 1 := by rw [← hX]; simp
      have HgX : Hid (X.heap[wr.heap.size]? = some (.cells #[.int .i64 f.1, .string (txtOf f.2.1), .func (.func f.2.2.1) #[] #[], .func (.func f.2.2.2) #[] #[]] 154 (0, 0))) := gX
      have d0 : X.cell? ⟨wr.heap.size, 0, none⟩ = some (.int .i64 f.1) := cell_of gX 0
      have d1 : X.cell? ⟨wr.heap.size, 1, none⟩ = some (.string (txtOf f.2.1)) := cell_of gX 1
      clear hbX gX HN0 hle hm
      by_cases hk : f.1 = k
      · rw [if_pos hk, tot_cons] at hml
        have HN2 : Hid (wordsP (kindT (T.take (j + 1)) wf k d) l = wordsP (wf f.2.2.2 d) (wordP m f.2.1)) := by
          have := HN.out
          rw [if_pos hk] at this
          exact this
        have HWd : Hid (Calls Tryz.prog 80 #[.pointer (some ⟨b, 0, none⟩), .slice (some ⟨X.heap.size, 0, none⟩) 1 1] (X.alloc (.cells #[.string (txtOf f.2.1)] 9)) fun e w' => e = .returned (.pointer (some ⟨b, 0, none⟩)) ∧ PageAt B b (wordP m f.2.1) w' ∧ Kq B X w') := words_one f.2.1 X HX.out.1 (by omega) (Nat.le_trans hBw HX.out.2.1.low.size)
        have HLf : Hid (∀ w', Kq B X w' → PageAt B b (wordP m f.2.1) w' → Calls Tryz.prog f.2.2.2 #[.pointer (some ⟨b, 0, none⟩), .agg (slC d vo vp vl vi)] w' (WrO B b (wordsP (wf f.2.2.2 d) (wordP m f.2.1)) w')) := fun w' k' hp => by
          have kw := HX.out.2.1.trans k'
          refine HTw.out.leaf f hmem hk B b _ d vo vp vl vi w' hp (HS.out.next kw) HI.out ?_ (Nat.le_trans hBw kw.low.size) (HG.out.kq kw hB) hB
          have := word_len m f.2.1
          omega
        have he := HTw.out.ent f hmem
        unfold Go.Proofs.Enters at he
        have hkk : (f.1 == k) = true := by rw [hk]; simp
        clear hXs hk
        go_wp2_with fail
        refine calls_at HWd.out (by with_reducible rfl) (by with_reducible rfl) ?_
        rintro e w3 ⟨rfl, hp3, hk3⟩
        have gB := HBx.out w3 (HX.out.2.2.trans hk3)
        have b0 := cell_of gB 0
        have b1 := cell_of gB 1
        have b2 := cell_of gB 2
        have b3 := cell_of gB 3
        have b4 := cell_of gB 4
        have b5 := cell_of gB 5
        have b6 := cell_of gB 6
        have b7 := cell_of gB 7
        have b8 := cell_of gB 8
        have b9 := cell_of gB 9
        unfold slC at b0 b1 b2 b3 b4 b5 b6 b7 b8 b9
        dsimp at b0 b1 b2 b3 b4 b5 b6 b7 b8 b9
        have e3 : w3.cell? ⟨wr.heap.size, 3, none⟩ = some (.func (.func f.2.2.2) #[] #[]) := cell_of (hk3.other _ _ _ _ HgX.out (by decide) (by decide)) 3
        have HL3 : Hid (Calls Tryz.prog f.2.2.2 #[.pointer (some ⟨b, 0, none⟩), .agg (slC d vo vp vl vi)] w3 (WrO B b (wordsP (wf f.2.2.2 d) (wordP m f.2.1)) w3)) := HLf.out w3 hk3 hp3
        have HK3 : Hid (Kq B X w3) := hk3
        unfold slC at HL3
        clear hp3 hk3 gB HLf
        go_wp2_with (go_at_fn f.2.2.2; refine calls_at HL3.out (by with_reducible rfl) (by with_reducible rfl) ?_; rintro e w7 ⟨rfl, h7, h8⟩; (have HZ : Hid (PageAt B b (wordsP (kindT (T.take (j + 1)) wf k d) l) w7 ∧ Kq B w w7 ∧ Kq B W w7) := ⟨by rw [HN2.out]; exact h7, HX.out.2.1.trans (HK3.out.trans h8), HX.out.2.2.trans (HK3.out.trans h8)⟩); clear h7 h8)
        go_roundw
        case rel => exact ⟨j + 1, by go_num, hjn, HZ⟩
        case measure => simp [intOf]; omega
      · have hkk : (f.1 == k) = false := by simpa using hk
        have HX2 : Hid (PageAt B b (wordsP (kindT (T.take (j + 1)) wf k d) l) X ∧ Kq B w X ∧ Kq B W X) := ⟨by rw [HN.out, if_neg hk]; exact HX.out.1, HX.out.2⟩
        clear hk hml
        go_wp2_with fail
        go_roundw
        case rel => exact ⟨j + 1, by go_num, hjn, HX2⟩
        case measure => simp [intOf]; omega
    · have hjI : ¬ (j : Int) < (T.length : Int) := by omega
      have HE : Hid (PageAt B b (wordsP (kindT T wf k d) l) wr ∧ Kq B w wr) := by
        have := HP.out
        rw [List.take_of_length_le (by omega)] at this
        exact ⟨this.1, this.2.1⟩
      go_wp2_with fail
      go_end0
      exact ⟨rfl, HE.out⟩
end Go.Proofs.YtibbnijicdijnaaGreatDoor

namespace Go.Proofs.YtibbnijicdijnaaGreatDoor
open Go.RowKit

set_option maxRecDepth 10000 in
theorem wrt_nothing : Wrt 82 fun _ => [] := by
  intro B b l d vo vp vl vi w h hs hi hl hBw hg hB
  have hbW : Below w.heap.size w (w.alloc (.cells (slC d vo vp vl vi) 45)) := (Below.refl _ _).alloc (Nat.le_refl _) _
  have HE : Hid (PageAt B b l (w.alloc (.cells (slC d vo vp vl vi) 45)) ∧ Kq B w (w.alloc (.cells (slC d vo vp vl vi) 45))) := ⟨page_below h hbW, Kq.of_below hbW hBw⟩
  have HE2 : Hid (PageAt B b l w ∧ Kq B w w) := ⟨h, Kq.refl _ _⟩
  obtain ⟨ao, co, rfl, _, _⟩ := hs.o
  obtain ⟨ap, cp, rfl, _, _⟩ := hs.p
  obtain ⟨al, cl, rfl, _, _⟩ := hs.l
  obtain ⟨ai, ci, rfl, _, _⟩ := hs.i
  unfold slC at HE
  unfold WrO slC
  clear h hs hi hl hg hbW
  go_enter Tryz.func82, Tryz.ntmps82
  go_wp2_with fail
  go_end0
  first | exact ⟨rfl, HE.out⟩ | exact ⟨rfl, HE2.out⟩
set_option maxRecDepth 10000 in
set_option maxHeartbeats 2000000 in
theorem wrt_size : Wrt 84 fun d => [d.n] := by
  intro B b l d vo vp vl vi w h hs hi hl hBw hg hB
  obtain ⟨W, hW⟩ : ∃ W, w.alloc (.cells (slC d vo vp vl vi) 45) = W := ⟨_, rfl⟩
  have hbW : Below w.heap.size w W := by rw [← hW]; exact (Below.refl _ _).alloc (Nat.le_refl _) _
  have kW : Kq B w W := Kq.of_below hbW hBw
  have hBW : B ≤ W.heap.size := Nat.le_trans hBw hbW.size
  have gW : W.heap[w.heap.size]? = some (.cells (slC d vo vp vl vi) 45 (0, 0)) := by rw [← hW]; exact heap_alloc_new w _
  have HKW : Hid (Kq B w W) := kW
  have c0 := cell_of gW 1
  have HC : Hid (Calls Tryz.prog 80 #[.pointer (some ⟨b, 0, none⟩), .slice (some ⟨W.heap.size, 0, none⟩) 1 1] (W.alloc (.cells #[.string (txtOf d.n)] 9)) fun e w' => e = .returned (.pointer (some ⟨b, 0, none⟩)) ∧ PageAt B b (wordsP [d.n] l) w' ∧ Kq B W w') := words_one d.n W (page_below h hbW) (by simpa [tot] using hl) hBW
  obtain ⟨ao, co, rfl, _, _⟩ := hs.o
  obtain ⟨ap, cp, rfl, _, _⟩ := hs.p
  obtain ⟨al, cl, rfl, _, _⟩ := hs.l
  obtain ⟨ai, ci, rfl, _, _⟩ := hs.i
  unfold slC at hW
  unfold WrO slC
  simp only [slC] at c0
  dsimp at c0
  clear h hs hi hl hg hbW kW gW
  go_enter Tryz.func84, Tryz.ntmps84
  go_wp2_with fail
  refine calls_at HC.out (by with_reducible rfl) (by with_reducible rfl) ?_
  rintro e w2 ⟨rfl, hp2, hk2⟩
  have H2 : Hid (PageAt B b (wordsP ([d.n]) l) w2 ∧ Kq B w w2) := ⟨hp2, HKW.out.trans hk2⟩
  clear hp2 hk2
  go_wp2_with fail
  go_end0
  exact ⟨rfl, H2.out⟩
set_option maxRecDepth 10000 in
set_option maxHeartbeats 2000000 in
theorem wrt_lits : Wrt 92 fun d => d.lits.map litT := by
  intro B b l d vo vp vl vi w h hs hi hl hBw hg hB
  obtain ⟨W, hW⟩ : ∃ W, w.alloc (.cells (slC d vo vp vl vi) 45) = W := ⟨_, rfl⟩
  have hbW : Below w.heap.size w W := by rw [← hW]; exact (Below.refl _ _).alloc (Nat.le_refl _) _
  have kW : Kq B w W := Kq.of_below hbW hBw
  have hBW : B ≤ W.heap.size := Nat.le_trans hBw hbW.size
  have gW : W.heap[w.heap.size]? = some (.cells (slC d vo vp vl vi) 45 (0, 0)) := by rw [← hW]; exact heap_alloc_new w _
  have HKW : Hid (Kq B w W) := kW
  have c0 := cell_of gW 5
  have HC : Hid (Calls Tryz.prog 128 #[.pointer (some ⟨b, 0, none⟩), vl] W fun e w' => e = .returned (.pointer (some ⟨b, 0, none⟩)) ∧ PageAt B b (wordsP (d.lits.map litT) l) w' ∧ Kq B W w') := literals_any d.lits vl W (page_below h hbW) (hs.l.next kW) hl hi.l hBW (hg.kq kW hB) hB
  obtain ⟨ao, co, rfl, _, _⟩ := hs.o
  obtain ⟨ap, cp, rfl, _, _⟩ := hs.p
  obtain ⟨al, cl, rfl, _, _⟩ := hs.l
  obtain ⟨ai, ci, rfl, _, _⟩ := hs.i
  unfold slC at hW
  unfold WrO slC
  simp only [slC] at c0
  dsimp at c0
  clear h hs hi hl hg hbW kW gW
  go_enter Tryz.func92, Tryz.ntmps92
  go_wp2_with fail
  refine calls_at HC.out (by with_reducible rfl) (by with_reducible rfl) ?_
  rintro e w2 ⟨rfl, hp2, hk2⟩
  have H2 : Hid (PageAt B b (wordsP (d.lits.map litT) l) w2 ∧ Kq B w w2) := ⟨hp2, HKW.out.trans hk2⟩
  clear hp2 hk2
  go_wp2_with fail
  go_end0
  exact ⟨rfl, H2.out⟩
set_option maxRecDepth 10000 in
set_option maxHeartbeats 2000000 in
theorem wrt_del : Wrt 94 fun d => d.ids := by
  intro B b l d vo vp vl vi w h hs hi hl hBw hg hB
  obtain ⟨W, hW⟩ : ∃ W, w.alloc (.cells (slC d vo vp vl vi) 45) = W := ⟨_, rfl⟩
  have hbW : Below w.heap.size w W := by rw [← hW]; exact (Below.refl _ _).alloc (Nat.le_refl _) _
  have kW : Kq B w W := Kq.of_below hbW hBw
  have hBW : B ≤ W.heap.size := Nat.le_trans hBw hbW.size
  have gW : W.heap[w.heap.size]? = some (.cells (slC d vo vp vl vi) 45 (0, 0)) := by rw [← hW]; exact heap_alloc_new w _
  have HKW : Hid (Kq B w W) := kW
  have c0 := cell_of gW 6
  have HC : Hid (Calls Tryz.prog 80 #[.pointer (some ⟨b, 0, none⟩), vi] W fun e w' => e = .returned (.pointer (some ⟨b, 0, none⟩)) ∧ PageAt B b (wordsP d.ids l) w' ∧ Kq B W w') := words_any d.ids vi W (page_below h hbW) (hs.i.next kW) hl hBW
  obtain ⟨ao, co, rfl, _, _⟩ := hs.o
  obtain ⟨ap, cp, rfl, _, _⟩ := hs.p
  obtain ⟨al, cl, rfl, _, _⟩ := hs.l
  obtain ⟨ai, ci, rfl, _, _⟩ := hs.i
  unfold slC at hW
  unfold WrO slC
  simp only [slC] at c0
  dsimp at c0
  clear h hs hi hl hg hbW kW gW
  go_enter Tryz.func94, Tryz.ntmps94
  go_wp2_with fail
  refine calls_at HC.out (by with_reducible rfl) (by with_reducible rfl) ?_
  rintro e w2 ⟨rfl, hp2, hk2⟩
  have H2 : Hid (PageAt B b (wordsP (d.ids) l) w2 ∧ Kq B w w2) := ⟨hp2, HKW.out.trans hk2⟩
  clear hp2 hk2
  go_wp2_with fail
  go_end0
  exact ⟨rfl, H2.out⟩
end Go.Proofs.YtibbnijicdijnaaGreatDoor

namespace Go.Proofs.YtibbnijicdijnaaGreatDoor
open Go.RowKit

set_option maxRecDepth 10000 in
set_option maxHeartbeats 2000000 in
theorem write_any {B : Nat} {wf : FuncId → SL → List (List UInt8)} (d : SL) (hT : TabW formsL wf d.k) (vo vp vl vi : Value) (w : World) (hs : SlE B w d vo vp vl vi) (hi : SlI d) (hl : tot (kindT formsL wf d.k d) ≤ 900000000) (h0 : wordsP (kindT formsL wf d.k d) [] ≠ []) (hBw : B ≤ w.heap.size) (hg : Gl w) (hB : 12 ≤ B) : Calls Tryz.prog 40 #[.agg (slC d vo vp vl vi)] w fun e w' => e = .returned (.string (txtOf (wordsP (kindT formsL wf d.k d) []))) ∧ Below B w w' := by
  obtain ⟨W, hW⟩ : ∃ W, w.alloc (.cells (slC d vo vp vl vi) 45) = W := ⟨_, rfl⟩
  obtain ⟨V, hV⟩ : ∃ V, W.alloc (.cells #[.pointer none, .slice none 0 0] 125) = V := ⟨_, rfl⟩
  have hbW : Below w.heap.size w W := by rw [← hW]; exact (Below.refl _ _).alloc (Nat.le_refl _) _
  have hbV : Below W.heap.size W V := by rw [← hV]; exact (Below.refl _ _).alloc (Nat.le_refl _) _
  have gV : V.heap[W.heap.size]? = some (.cells #[.pointer none, .slice none 0 0] 125 (0, 0)) := by rw [← hV]; exact heap_alloc_new W _
  have kW : Kq B w W := Kq.of_below hbW hBw
  have kV : Kq B W V.drew := Kq.of_below hbV.drew (Nat.le_trans hBw hbW.size)
  have hBV : B ≤ V.drew.heap.size := Nat.le_trans hBw (kW.trans kV).low.size
  have hP : PageAt B W.heap.size [] V.drew := ⟨Nat.le_trans hBw hbW.size, none, .slice none 0 0, gV, .inl rfl, own_z _ _ _ _⟩
  have HBx : Hid (∀ w', Kq B V.drew w' → w'.cell? ⟨w.heap.size, 0, none⟩ = some (.int .i64 d.k) ∧ w'.cell? ⟨w.heap.size, 1, none⟩ = some (.string (txtOf d.n)) ∧ w'.cell? ⟨w.heap.size, 2, none⟩ = some (vo) ∧ w'.cell? ⟨w.heap.size, 3, none⟩ = some (vp) ∧ w'.cell? ⟨w.heap.size, 4, none⟩ = some (.string (txtOf d.deg)) ∧ w'.cell? ⟨w.heap.size, 5, none⟩ = some (vl) ∧ w'.cell? ⟨w.heap.size, 6, none⟩ = some (vi) ∧ w'.cell? ⟨w.heap.size, 7, none⟩ = some (.int .i64 d.ends) ∧ w'.cell? ⟨w.heap.size, 8, none⟩ = some (.string (txtOf d.low)) ∧ w'.cell? ⟨w.heap.size, 9, none⟩ = some (.string (txtOf d.high))) := fun w' k => by
    have gB := box_held hW w' (kV.trans k)
    exact ⟨cell_of gB 0, cell_of gB 1, cell_of gB 2, cell_of gB 3, cell_of gB 4, cell_of gB 5, cell_of gB 6, cell_of gB 7, cell_of gB 8, cell_of gB 9⟩
  have HF : Hid (Calls Tryz.prog 61 #[] V.drew fun e w' => e = .returned (.slice (some ⟨V.drew.heap.size, 0, none⟩) 12 12) ∧ w'.heap[V.drew.heap.size]? = some (.cells (fmsC formsL).toArray 154 (0, 0)) ∧ Below V.drew.heap.size V.drew w') := (forms_any V.drew).mono fun e w' hq => ⟨hq.1, by rw [hq.2]; exact heap_alloc_new V.drew _, by rw [hq.2]; exact (Below.refl _ _).alloc (Nat.le_refl _) _⟩
  have HPk : Hid (∀ w', w'.heap[V.drew.heap.size]? = some (.cells (fmsC formsL).toArray 154 (0, 0)) → Below V.drew.heap.size V.drew w' → Calls Tryz.prog 60 #[.pointer (some ⟨W.heap.size, 0, none⟩), .slice (some ⟨V.drew.heap.size, 0, none⟩) 12 12, .int .i64 d.k, .agg (slC d vo vp vl vi)] w' (WrO B W.heap.size (wordsP (kindT formsL wf d.k d) []) w')) := fun w' hg1 hb1 => by
    have k1 := (kW.trans kV).trans (Kq.of_below hb1 hBV)
    exact ppick_any d.k hT d vo vp vl vi w' (page_below hP hb1) hg1 (hs.next k1) hi (by simpa using hl) (Nat.le_trans hBw k1.low.size) (hg.kq k1 hB) hB
  have HKV : Hid (Kq B w V.drew) := kW.trans kV
  have H0 : Hid (wordsP (kindT formsL wf d.k d) [] ≠ []) := h0
  obtain ⟨Z, hZ⟩ : ∃ Z, wordsP (kindT formsL wf d.k d) [] = Z := ⟨_, rfl⟩
  rw [hZ] at HPk H0
  rw [hZ]
  unfold slC at hW HPk
  unfold slC
  obtain ⟨ao, co, rfl, _, _⟩ := hs.o
  obtain ⟨ap, cp, rfl, _, _⟩ := hs.p
  obtain ⟨al, cl, rfl, _, _⟩ := hs.l
  obtain ⟨ai, ci, rfl, _, _⟩ := hs.i
  clear hs hi hl hg hT h0 hbW hbV gV kW kV hP hZ
  go_enter Tryz.func40, Tryz.ntmps40
  go_wp2_with fail
  refine wp_region_T (fun w' => w'.cell? ⟨w.heap.size, 0, none⟩ = some (.int .i64 d.k) ∧ w'.cell? ⟨w.heap.size, 1, none⟩ = some (.string (txtOf d.n)) ∧ w'.cell? ⟨w.heap.size, 2, none⟩ = some (.slice ao d.ops.length co) ∧ w'.cell? ⟨w.heap.size, 3, none⟩ = some (.slice ap d.pcs.length cp) ∧ w'.cell? ⟨w.heap.size, 4, none⟩ = some (.string (txtOf d.deg)) ∧ w'.cell? ⟨w.heap.size, 5, none⟩ = some (.slice al d.lits.length cl) ∧ w'.cell? ⟨w.heap.size, 6, none⟩ = some (.slice ai d.ids.length ci) ∧ w'.cell? ⟨w.heap.size, 7, none⟩ = some (.int .i64 d.ends) ∧ w'.cell? ⟨w.heap.size, 8, none⟩ = some (.string (txtOf d.low)) ∧ w'.cell? ⟨w.heap.size, 9, none⟩ = some (.string (txtOf d.high))) (fun _ => True) [] (by kernel_rfl) ⟨HBx.out _ (Kq.refl _ _), trivial⟩ (fun hHeld => ?_)
  clear hW hV
  generalize V.drew = U at hHeld HBx HF HPk HKV hBV ⊢
  generalize W.heap.size = b at HPk ⊢
  refine wpAnyT_takeB (i := 0) (oi := ⟨some 6, .move (.tmp 3), _, _, _, _⟩) (v := ?v0) rfl (by kernel_rfl) (by kernel_rfl) (by kernel_rfl) (by kernel_rfl) (fun _ _ _ h => h) (Or.inl ⟨by rfl, ?hy0⟩) (by assumption) ?rest0
  case hy0 => (intro w hSw; (try dsimp only at hSw); obtain ⟨s0, s1, s2, s3, s4, s5, s6, s7, s8, s9⟩ := hSw; go_simp; try (with_reducible rfl))
  try simp only [Act.put, List.setIfInBounds_toArray, List.set_cons_zero, List.set_cons_succ]
  refine wpAnyT_takeB (i := 2) (oi := ⟨some 8, .fieldAddr 45 (.tmp 1) 0, _, _, _, _⟩) (v := ?v2) rfl (by kernel_rfl) (by kernel_rfl) (by kernel_rfl) (by kernel_rfl) (fun _ _ _ h => h) (Or.inl ⟨by rfl, ?hy2⟩) (by assumption) ?rest2
  case hy2 => (intro w hSw; (try dsimp only at hSw); obtain ⟨s0, s1, s2, s3, s4, s5, s6, s7, s8, s9⟩ := hSw; go_simp; try (with_reducible rfl))
  try simp only [Act.put, List.setIfInBounds_toArray, List.set_cons_zero, List.set_cons_succ]
  refine wpAnyT_takeB (i := 3) (oi := ⟨some 9, .load 3 (.tmp 8), _, _, _, _⟩) (v := ?v3) rfl (by kernel_rfl) (by kernel_rfl) (by kernel_rfl) (by kernel_rfl) (fun _ _ _ h => h) (Or.inl ⟨by rfl, ?hy3⟩) (by assumption) ?rest3
  case hy3 => (intro w hSw; (try dsimp only at hSw); obtain ⟨s0, s1, s2, s3, s4, s5, s6, s7, s8, s9⟩ := hSw; go_simp; try (with_reducible rfl))
  try simp only [Act.put, List.setIfInBounds_toArray, List.set_cons_zero, List.set_cons_succ]
  refine wpAnyT_takeB (i := 4) (oi := ⟨some 10, .load 45 (.tmp 1), _, _, _, _⟩) (v := ?v4) rfl (by kernel_rfl) (by kernel_rfl) (by kernel_rfl) (by kernel_rfl) (fun _ _ _ h => h) (Or.inl ⟨by rfl, ?hy4⟩) (by assumption) ?rest4
  case hy4 => (intro w hSw; (try dsimp only at hSw); obtain ⟨s0, s1, s2, s3, s4, s5, s6, s7, s8, s9⟩ := hSw; go_simp; try (with_reducible rfl))
  try simp only [Act.put, List.setIfInBounds_toArray, List.set_cons_zero, List.set_cons_succ]
  clear hHeld
  refine wpAnyT_one (i := 1) (o := ⟨some 7, .call { callee := .value (.func 61), args := #[], argTypes := #[] }, _, _, _, _⟩) (by kernel_rfl) rfl (fun K hK => ?_)
  go_simp
  refine calls_at HF.out (by with_reducible rfl) (by with_reducible rfl) ?_
  rintro e w1 ⟨rfl, hg1, hb1⟩
  have H1 : Hid (w1.heap[U.heap.size]? = some (.cells (fmsC formsL).toArray 154 (0, 0)) ∧ Below U.heap.size U w1) := ⟨hg1, hb1⟩
  clear hg1 hb1
  go_wp2_with fail
  refine hK.out _ _ ⟨HBx.out _ (Kq.of_below H1.out.2 hBV), fun _ => trivial⟩ ?_
  clear hK K
  try simp only [Act.put, List.setIfInBounds_toArray, List.set_cons_zero, List.set_cons_succ]
  refine wpAnyT_one (i := 5) (o := ⟨some 11, .call { callee := .value (.func 60), args := #[(.tmp 6), (.tmp 7), (.tmp 9), (.tmp 10)], argTypes := #[123, 127, 3, 45] }, _, _, _, _⟩) (by kernel_rfl) rfl (fun K hK => ?_)
  go_simp
  refine calls_at (HPk.out w1 H1.out.1 H1.out.2) (by with_reducible rfl) (by with_reducible rfl) ?_
  rintro e w2 ⟨rfl, hp2, hk2⟩
  have H2 : Hid (PageAt B b Z w2 ∧ Kq B U w2) := ⟨hp2, (Kq.of_below H1.out.2 hBV).trans hk2⟩
  clear hp2 hk2
  go_wp2_with fail
  refine hK.out _ _ ⟨HBx.out _ H2.out.2, fun _ => trivial⟩ ?_
  clear hK K
  try simp only [Act.put, List.setIfInBounds_toArray, List.set_cons_zero, List.set_cons_succ]
  refine wpAnyT_done (by kernel_rfl) ?_ _
  have HSt : Hid (Calls Tryz.prog 39 #[.pointer (some ⟨b, 0, none⟩)] w2 fun e w' => e = .returned (.string (txtOf Z)) ∧ Below B w2 w') := string_any B b Z w2 H2.out.1 H0.out
  go_wp2_with fail
  refine calls_at HSt.out (by with_reducible rfl) (by with_reducible rfl) ?_
  rintro e w3 ⟨rfl, hb3⟩
  have H3 : Hid (Below B w w3) := (HKV.out.low.trans H2.out.2.low).trans hb3
  clear hb3
  go_wp2_with fail
  go_ret
  exact ⟨rfl, H3.out⟩

end Go.Proofs.YtibbnijicdijnaaGreatDoor
