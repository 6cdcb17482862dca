/-
  Put together: PfWr, PfPPick, PfWrite, PfEqs, PfPSame.
-/
import Derived.Test.YtibbnijicdijnaaGreatDoorJ32
import Derived.Test.YtibbnijicdijnaaGreatDoorJ07
namespace Go.Proofs.YtibbnijicdijnaaGreatDoor
open Go.RowKit

/-- A step's lists, as a writer reads them. -/
structure SlE (B : Nat) (w : World) (d : SL) (vo vp vl vi : Value) : Prop where
  o : RdE B w vo d.ops.length (opsC d.ops)
  p : RdE B w vp d.pcs.length (pcsC d.pcs)
  l : RdE B w vl d.lits.length (d.lits.map (.int .i64))
  i : RdE B w vi d.ids.length (d.ids.map fun x => .string (txtOf x))
theorem SlE.next {B : Nat} {w w' : World} {d : SL} {vo vp vl vi : Value} (h : SlE B w d vo vp vl vi) (k : Kq B w w') : SlE B w' d vo vp vl vi := ⟨h.o.next k, h.p.next k, h.l.next k, h.i.next k⟩
structure SlI (d : SL) : Prop where
  p : ∀ x ∈ d.pcs, -9223372036854775808 ≤ x.2 ∧ x.2 ≤ 9223372036854775807
  l : ∀ x ∈ d.lits, -9223372036854775808 ≤ x ∧ x ≤ 9223372036854775807
  o : ∀ x ∈ d.ops, -9223372036854775808 ≤ x.2.2 ∧ x.2.2 ≤ 9223372036854775807
def WrO (B b : Nat) (l : List UInt8) (w : World) (e : Ending) (w' : World) : Prop := e = .returned (.tuple #[]) ∧ PageAt B b l w' ∧ Kq B w w'
def Wrt (f : FuncId) (g : SL → List (List UInt8)) : Prop := ∀ (B b : Nat) (l : List UInt8) (d : SL) (vo vp vl vi : Value) (w : World), PageAt B b l w → SlE B w d vo vp vl vi → SlI d → l.length + tot (g d) ≤ 900000000 → B ≤ w.heap.size → Gl w → 12 ≤ B → Calls Tryz.prog f #[.pointer (some ⟨b, 0, none⟩), .agg (slC d vo vp vl vi)] w (WrO B b (wordsP (g d) l) w)

/-- A step in a box. -/
theorem box_held {B : Nat} {w : World} {d : SL} {vo vp vl vi : Value} {W : World} (hW : w.alloc (.cells (slC d vo vp vl vi) 45) = W) (w' : World) (k : Kq B W w') : w'.heap[w.heap.size]? = some (.cells (slC d vo vp vl vi) 45 (0, 0)) :=
  k.other _ _ _ _ (by rw [← hW]; exact heap_alloc_new w _) (by decide) (by decide)

set_option maxRecDepth 10000 in
set_option maxHeartbeats 2000000 in
theorem wrt_rup : Wrt 88 fun d => rowT d.pcs d.deg ++ d.ids := by
  intro B b l d vo vp vl vi w h hs hi hl hBw hg hB
  have hl1 : l.length + tot (rowT d.pcs d.deg) + tot d.ids ≤ 900000000 := by rw [tot_app] at hl; omega
  obtain ⟨W, hW⟩ : ∃ W, w.alloc (.cells (slC d vo vp vl vi) 45) = W := ⟨_, rfl⟩
  have hbW : Below w.heap.size w W := by rw [← hW]; exact (Below.refl _ _).alloc (Nat.le_refl _) _
  have kW : Kq B w W.drew := Kq.of_below hbW.drew hBw
  have hBW : B ≤ W.drew.heap.size := Nat.le_trans hBw hbW.drew.size
  have HK : Hid (∀ w', Kq B W.drew w' → w'.cell? ⟨w.heap.size, 3, none⟩ = some vp ∧ w'.cell? ⟨w.heap.size, 4, none⟩ = some (.string (txtOf d.deg)) ∧ w'.cell? ⟨w.heap.size, 6, none⟩ = some vi) := fun w' k => by
    have := k.other _ _ _ _ (show W.drew.heap[w.heap.size]? = some (.cells (slC d vo vp vl vi) 45 (0, 0)) by show W.heap[w.heap.size]? = _; rw [← hW]; exact heap_alloc_new w _) (by decide) (by decide)
    exact ⟨cell_of this 3, cell_of this 4, cell_of this 6⟩
  have HR : Hid (Calls Tryz.prog 125 #[.pointer (some ⟨b, 0, none⟩), .agg #[vp, .string (txtOf d.deg)]] W.drew fun e w' => e = .returned (.pointer (some ⟨b, 0, none⟩)) ∧ PageAt B b (wordsP (rowT d.pcs d.deg) l) w' ∧ Kq B W.drew w') := prow_any d.pcs d.deg vp W.drew (page_below h hbW.drew) (hs.p.next kW) (by omega) hi.p hBW (hg.kq kW hB) hB
  have HI : Hid (∀ w', Kq B W.drew w' → PageAt B b (wordsP (rowT d.pcs d.deg) l) w' → Calls Tryz.prog 80 #[.pointer (some ⟨b, 0, none⟩), vi] w' fun e w2 => e = .returned (.pointer (some ⟨b, 0, none⟩)) ∧ PageAt B b (wordsP (rowT d.pcs d.deg ++ d.ids) l) w2 ∧ Kq B w' w2) := fun w' k hp => by
    refine (words_any d.ids vi w' hp (hs.i.next (kW.trans k)) ?_ (Nat.le_trans hBW k.low.size)).mono fun e w2 hq => ⟨hq.1, ?_, hq.2.2⟩
    · have := words_len (rowT d.pcs d.deg) l
      omega
    · rw [words_app]; exact hq.2.1
  have HKW : Hid (Kq B w W.drew) := kW
  unfold WrO
  obtain ⟨Z, hZ⟩ : ∃ Z, wordsP (rowT d.pcs d.deg ++ d.ids) l = Z := ⟨_, rfl⟩
  rw [hZ] at HI
  show Calls _ _ _ _ fun e w' => e = _ ∧ PageAt B b (wordsP (rowT d.pcs d.deg ++ d.ids) l) w' ∧ Kq B w w'
  rw [hZ]
  have HC := hs.o
  unfold slC at hW
  unfold slC
  obtain ⟨ao, co, rfl, _, _⟩ := hs.o
  obtain ⟨ap, cp, rfl, _, _⟩ := hs.p
  obtain ⟨al, cl, rfl, _, _⟩ := hs.l
  obtain ⟨ai, ci, rfl, _, _⟩ := hs.i
  obtain ⟨dk, dn, do_, dp, dg, dl, di, de, dw, dh⟩ := d
  dsimp only at hW HK HR HI hZ ⊢
  clear h hs hi hl hg hl1 hbW kW HC hZ
  go_enter Tryz.func88, Tryz.ntmps88
  go_wp2_with fail
  refine wp_region_T (fun w' => w'.cell? ⟨w.heap.size, 3, none⟩ = some (.slice ap dp.length cp) ∧ w'.cell? ⟨w.heap.size, 4, none⟩ = some (.string (txtOf dg)) ∧ w'.cell? ⟨w.heap.size, 6, none⟩ = some (.slice ai di.length ci)) (fun _ => True) [] (by kernel_rfl) ⟨HK.out _ (Kq.refl _ _), trivial⟩ (fun hHeld => ?_)
  clear hW
  generalize W.drew = U at hHeld HK HR HI HKW hBW ⊢
  refine wpAnyT_takeB (i := 0) (oi := ⟨some 4, .move (.tmp 0), _, _, _, _⟩) (v := ?v0) rfl (by kernel_rfl) (by kernel_rfl) (by kernel_rfl) (by kernel_rfl) (fun _ _ _ h => h) (Or.inl ⟨by rfl, ?hy0⟩) (by assumption) ?rest0
  case hy0 => (intro w hSw; (try dsimp only at hSw); obtain ⟨s0, s1, s2⟩ := hSw; go_simp; try (with_reducible rfl))
  try simp only [Act.put, List.setIfInBounds_toArray, List.set_cons_zero, List.set_cons_succ]
  refine wpAnyT_takeB (i := 1) (oi := ⟨some 5, .fieldAddr 45 (.tmp 3) 3, _, _, _, _⟩) (v := ?v1) rfl (by kernel_rfl) (by kernel_rfl) (by kernel_rfl) (by kernel_rfl) (fun _ _ _ h => h) (Or.inl ⟨by rfl, ?hy1⟩) (by assumption) ?rest1
  case hy1 => (intro w hSw; (try dsimp only at hSw); obtain ⟨s0, s1, s2⟩ := hSw; go_simp; try (with_reducible rfl))
  try simp only [Act.put, List.setIfInBounds_toArray, List.set_cons_zero, List.set_cons_succ]
  refine wpAnyT_takeB (i := 2) (oi := ⟨some 6, .load 41 (.tmp 5), _, _, _, _⟩) (v := ?v2) rfl (by kernel_rfl) (by kernel_rfl) (by kernel_rfl) (by kernel_rfl) (fun _ _ _ h => h) (Or.inl ⟨by rfl, ?hy2⟩) (by assumption) ?rest2
  case hy2 => (intro w hSw; (try dsimp only at hSw); obtain ⟨s0, s1, s2⟩ := hSw; go_simp; try (with_reducible rfl))
  try simp only [Act.put, List.setIfInBounds_toArray, List.set_cons_zero, List.set_cons_succ]
  refine wpAnyT_takeB (i := 4) (oi := ⟨some 8, .fieldAddr 45 (.tmp 3) 5, _, _, _, _⟩) (v := ?v4) rfl (by kernel_rfl) (by kernel_rfl) (by kernel_rfl) (by kernel_rfl) (fun _ _ _ h => h) (Or.inl ⟨by rfl, ?hy4⟩) (by assumption) ?rest4
  case hy4 => (intro w hSw; (try dsimp only at hSw); obtain ⟨s0, s1, s2⟩ := hSw; go_simp; try (with_reducible rfl))
  try simp only [Act.put, List.setIfInBounds_toArray, List.set_cons_zero, List.set_cons_succ]
  refine wpAnyT_takeB (i := 5) (oi := ⟨some 9, .load 43 (.tmp 8), _, _, _, _⟩) (v := ?v5) rfl (by kernel_rfl) (by kernel_rfl) (by kernel_rfl) (by kernel_rfl) (fun _ _ _ h => h) (Or.inl ⟨by rfl, ?hy5⟩) (by assumption) ?rest5
  case hy5 => (intro w hSw; (try dsimp only at hSw); obtain ⟨s0, s1, s2⟩ := hSw; go_simp; try (with_reducible rfl))
  try simp only [Act.put, List.setIfInBounds_toArray, List.set_cons_zero, List.set_cons_succ]
  clear hHeld
  refine wpAnyT_one (i := 3) (o := ⟨some 7, .call { callee := .value (.func 125), args := #[(.tmp 4), (.tmp 6)], argTypes := #[123, 41] }, _, _, _, _⟩) (by kernel_rfl) rfl (fun K hK => ?_)
  go_simp
  refine calls_at HR.out (by with_reducible rfl) (by with_reducible rfl) ?_
  rintro e w1 ⟨rfl, hp1, hk1⟩
  have H1 : Hid (PageAt B b (wordsP (rowT dp dg) l) w1 ∧ Kq B U w1) := ⟨hp1, hk1⟩
  clear hp1 hk1
  go_wp2_with fail
  refine hK.out _ _ ⟨HK.out _ H1.out.2, fun _ => trivial⟩ ?_
  clear hK K
  try simp only [Act.put, List.setIfInBounds_toArray, List.set_cons_zero, List.set_cons_succ]
  refine wpAnyT_one (i := 6) (o := ⟨some 10, .call { callee := .value (.func 80), args := #[(.tmp 7), (.tmp 9)], argTypes := #[123, 43] }, _, _, _, _⟩) (by kernel_rfl) rfl (fun K hK => ?_)
  go_simp
  refine calls_at (HI.out w1 H1.out.2 H1.out.1) (by with_reducible rfl) (by with_reducible rfl) ?_
  rintro e w2 ⟨rfl, hp2, hk2⟩
  have H2 : Hid (PageAt B b Z w2 ∧ Kq B U w2) := ⟨hp2, H1.out.2.trans hk2⟩
  clear hp2 hk2
  go_wp2_with fail
  refine hK.out _ _ ⟨HK.out _ H2.out.2, fun _ => trivial⟩ ?_
  clear hK K
  try simp only [Act.put, List.setIfInBounds_toArray, List.set_cons_zero, List.set_cons_succ]
  refine wpAnyT_done (by kernel_rfl) ?_ _
  go_wp2_with fail
  go_end0
  exact ⟨rfl, H2.out.1, HKW.out.trans H2.out.2⟩
end Go.Proofs.YtibbnijicdijnaaGreatDoor

namespace Go.Proofs.YtibbnijicdijnaaGreatDoor
open Go.RowKit

/-- The words of the forms of a kind. -/
def kindT (T : List FmL) (wr : FuncId → SL → List (List UInt8)) (k : Int) (d : SL) : List (List UInt8) := T.flatMap fun f => if f.1 = k then f.2.1 :: wr f.2.2.2 d else []
structure TabW (T : List FmL) (wr : FuncId → SL → List (List UInt8)) (k : Int) : Prop where
  leaf : ∀ f ∈ T, f.1 = k → Wrt f.2.2.2 (wr f.2.2.2)
  few : T.length ≤ 100
  ent : ∀ f ∈ T, Go.Proofs.Enters Tryz.prog f.2.2.2
theorem kindT_take (T : List FmL) (wr : FuncId → SL → List (List UInt8)) (k : Int) (d : SL) (j : Nat) (hj : j < T.length) : kindT (T.take (j + 1)) wr k d = kindT (T.take j) wr k d ++ (if T[j].1 = k then T[j].2.1 :: wr T[j].2.2.2 d else []) := by
  unfold kindT
  rw [List.take_succ_eq_append_getElem hj, List.flatMap_append]
  simp
theorem kindT_le (T : List FmL) (wr : FuncId → SL → List (List UInt8)) (k : Int) (d : SL) (j : Nat) (hj : j < T.length) : tot (kindT (T.take j) wr k d) + tot (if T[j].1 = k then T[j].2.1 :: wr T[j].2.2.2 d else []) ≤ tot (kindT T wr k d) := by
  have e : kindT T wr k d = kindT (T.take (j + 1)) wr k d ++ kindT (T.drop (j + 1)) wr k d := by
    unfold kindT
    rw [← List.flatMap_append, List.take_append_drop]
  rw [e, kindT_take T wr k d j hj, tot_app, tot_app]
  omega
theorem tot_cons (x : List UInt8) (L : List (List UInt8)) : tot (x :: L) = x.length + 1 + tot L := by simp [tot]

set_option maxRecDepth 10000 in
set_option maxHeartbeats 2000000 in
theorem ppick_any {B b t : Nat} {l : List UInt8} {T : List FmL} {wf : FuncId → SL → List (List UInt8)} (k : Int) (hT : TabW T wf k) (d : SL) (vo vp vl vi : Value) (w : World) (h : PageAt B b l w) (htb : w.heap[t]? = some (.cells (fmsC T).toArray 154 (0, 0))) (hs : SlE B w d vo vp vl vi) (hi : SlI d) (hl : l.length + tot (kindT T wf k d) ≤ 900000000) (hBw : B ≤ w.heap.size) (hg : Gl w) (hB : 12 ≤ B) : Calls Tryz.prog 60 #[.pointer (some ⟨b, 0, none⟩), .slice (some ⟨t, 0, none⟩) T.length T.length, .int .i64 k, .agg (slC d vo vp vl vi)] w (WrO B b (wordsP (kindT T wf k d) l) w) := by
  obtain ⟨W, hW⟩ : ∃ W, w.alloc (.cells (slC d vo vp vl vi) 45) = W := ⟨_, rfl⟩
  have hbW : Below w.heap.size w W := by rw [← hW]; exact (Below.refl _ _).alloc (Nat.le_refl _) _
  have HW : Hid (Kq B w W) := Kq.of_below hbW hBw
  have HPW : Hid (PageAt B b l W) := page_below h hbW
  have HTb : Hid (w.heap[t]? = some (.cells (fmsC T).toArray 154 (0, 0))) := htb
  have HBx : Hid (∀ w', Kq B W w' → w'.heap[w.heap.size]? = some (.cells (slC d vo vp vl vi) 45 (0, 0))) := fun w' k => box_held hW w' k
  have HS : Hid (SlE B w d vo vp vl vi) := hs
  have HI : Hid (SlI d) := hi
  have HG : Hid (Gl w) := hg
  have HTw : Hid (TabW T wf k) := hT
  have hTl := hT.few
  have HL : Hid (l.length + tot (kindT T wf k d) ≤ 900000000) := hl
  clear h htb hs hi hg hT hbW hl
  unfold WrO
  go_enter Tryz.func60, Tryz.ntmps60
  unfold slC at hW
  unfold slC
  go_wp2_with fail
  go_loopw [12] (fun iv wr => ∃ j : Nat, iv = .int .i64 (j : Int) ∧ j ≤ T.length ∧ Hid (PageAt B b (wordsP (kindT (T.take j) wf k d) l) wr ∧ Kq B w wr ∧ Kq B W wr)) (fun iv _ => T.length - (intOf iv).toNat)
  case atStart => exact ⟨0, rfl, Nat.zero_le _, HPW.out, HW.out, Kq.refl _ _⟩
  case round =>
    obtain ⟨j, rfl, hj, HP⟩ := hrel
    by_cases hjn : j < T.length
    · have hjI : (j : Int) < (T.length : Int) := by omega
      obtain ⟨k0, k1, k2, k3⟩ := tab_cell (HP.out.2.1.other _ _ _ _ HTb.out (by decide) (by decide)) j hjn
      have HN0 := kindT_take T wf k d j hjn
      have hle := kindT_le T wf k d j hjn
      obtain ⟨f, hf⟩ : ∃ f, T[j] = f := ⟨_, rfl⟩
      have hmem : f ∈ T := hf ▸ List.getElem_mem hjn
      rw [hf] at k0 k1 k2 k3 HN0 hle
      have hSF : ∀ (W : World) (ad : Addr) (id : FuncId), (store ad (.func (.func id) #[] #[])).run Tryz.prog W = stored Tryz.prog W ad (.func (.func id) #[] #[]) .plain := fun W ad id => run_store Tryz.prog W ad _ _ rfl
      obtain ⟨m, hm⟩ : ∃ m, wordsP (kindT (T.take j) wf k d) l = m := ⟨_, rfl⟩
      have hml : m.length + tot (if f.1 = k then f.2.1 :: wf f.2.2.2 d else []) ≤ 900000000 := by
        have h1 := words_len (kindT (T.take j) wf k d) l
        have := HL.out
        rw [hm] at h1
        omega
      have HN : Hid (wordsP (kindT (T.take (j + 1)) wf k d) l = wordsP (if f.1 = k then f.2.1 :: wf f.2.2.2 d else []) m) := by
        show _ = _
        rw [HN0, words_app, hm]
      have hBr : B ≤ wr.heap.size := Nat.le_trans hBw HP.out.2.1.low.size
      obtain ⟨X, hX⟩ : ∃ X, wr.alloc (.cells #[.int .i64 f.1, .string (txtOf f.2.1), .func (.func f.2.2.1) #[] #[], .func (.func f.2.2.2) #[] #[]] 154) = X := ⟨_, rfl⟩
      have hbX : Below wr.heap.size wr X := by rw [← hX]; exact (Below.refl _ _).alloc (Nat.le_refl _) _
      have gX : X.heap[wr.heap.size]? = some (.cells #[.int .i64 f.1, .string (txtOf f.2.1), .func (.func f.2.2.1) #[] #[], .func (.func f.2.2.2) #[] #[]] 154 (0, 0)) := by rw [← hX]; exact heap_alloc_new wr _
      have HX : Hid (PageAt B b m X ∧ Kq B w X ∧ Kq B W X) := ⟨by rw [← hm]; exact page_below HP.out.1 hbX, HP.out.2.1.trans (Kq.of_below hbX hBr), HP.out.2.2.trans (Kq.of_below hbX hBr)⟩
      have hXs : X.heap.size = wr.heap.size + 1 := by rw [← hX]; simp
      have HgX : Hid (X.heap[wr.heap.size]? = some (.cells #[.int .i64 f.1, .string (txtOf f.2.1), .func (.func f.2.2.1) #[] #[], .func (.func f.2.2.2) #[] #[]] 154 (0, 0))) := gX
      have d0 : X.cell? ⟨wr.heap.size, 0, none⟩ = some (.int .i64 f.1) := cell_of gX 0
      have d1 : X.cell? ⟨wr.heap.size, 1, none⟩ = some (.string (txtOf f.2.1)) := cell_of gX 1
      clear hbX gX HN0 hle hm
      by_cases hk : f.1 = k
      · rw [if_pos hk, tot_cons] at hml
        have HN2 : Hid (wordsP (kindT (T.take (j + 1)) wf k d) l = wordsP (wf f.2.2.2 d) (wordP m f.2.1)) := by
          have := HN.out
          rw [if_pos hk] at this
          exact this
        have HWd : Hid (Calls Tryz.prog 80 #[.pointer (some ⟨b, 0, none⟩), .slice (some ⟨X.heap.size, 0, none⟩) 1 1] (X.alloc (.cells #[.string (txtOf f.2.1)] 9)) fun e w' => e = .returned (.pointer (some ⟨b, 0, none⟩)) ∧ PageAt B b (wordP m f.2.1) w' ∧ Kq B X w') := words_one f.2.1 X HX.out.1 (by omega) (Nat.le_trans hBw HX.out.2.1.low.size)
        have HLf : Hid (∀ w', Kq B X w' → PageAt B b (wordP m f.2.1) w' → Calls Tryz.prog f.2.2.2 #[.pointer (some ⟨b, 0, none⟩), .agg (slC d vo vp vl vi)] w' (WrO B b (wordsP (wf f.2.2.2 d) (wordP m f.2.1)) w')) := fun w' k' hp => by
          have kw := HX.out.2.1.trans k'
          refine HTw.out.leaf f hmem hk B b _ d vo vp vl vi w' hp (HS.out.next kw) HI.out ?_ (Nat.le_trans hBw kw.low.size) (HG.out.kq kw hB) hB
          have := word_len m f.2.1
          omega
        have he := HTw.out.ent f hmem
        unfold Go.Proofs.Enters at he
        have hkk : (f.1 == k) = true := by rw [hk]; simp
        clear hXs hk
        go_wp2_with fail
        refine calls_at HWd.out (by with_reducible rfl) (by with_reducible rfl) ?_
        rintro e w3 ⟨rfl, hp3, hk3⟩
        have gB := HBx.out w3 (HX.out.2.2.trans hk3)
        have b0 := cell_of gB 0
        have b1 := cell_of gB 1
        have b2 := cell_of gB 2
        have b3 := cell_of gB 3
        have b4 := cell_of gB 4
        have b5 := cell_of gB 5
        have b6 := cell_of gB 6
        have b7 := cell_of gB 7
        have b8 := cell_of gB 8
        have b9 := cell_of gB 9
        unfold slC at b0 b1 b2 b3 b4 b5 b6 b7 b8 b9
        dsimp at b0 b1 b2 b3 b4 b5 b6 b7 b8 b9
        have e3 : w3.cell? ⟨wr.heap.size, 3, none⟩ = some (.func (.func f.2.2.2) #[] #[]) := cell_of (hk3.other _ _ _ _ HgX.out (by decide) (by decide)) 3
        have HL3 : Hid (Calls Tryz.prog f.2.2.2 #[.pointer (some ⟨b, 0, none⟩), .agg (slC d vo vp vl vi)] w3 (WrO B b (wordsP (wf f.2.2.2 d) (wordP m f.2.1)) w3)) := HLf.out w3 hk3 hp3
        have HK3 : Hid (Kq B X w3) := hk3
        unfold slC at HL3
        clear hp3 hk3 gB HLf
        go_wp2_with (go_at_fn f.2.2.2; refine calls_at HL3.out (by with_reducible rfl) (by with_reducible rfl) ?_; rintro e w7 ⟨rfl, h7, h8⟩; (have HZ : Hid (PageAt B b (wordsP (kindT (T.take (j + 1)) wf k d) l) w7 ∧ Kq B w w7 ∧ Kq B W w7) := ⟨by rw [HN2.out]; exact h7, HX.out.2.1.trans (HK3.out.trans h8), HX.out.2.2.trans (HK3.out.trans h8)⟩); clear h7 h8)
        go_roundw
        case rel => exact ⟨j + 1, by go_num, hjn, HZ⟩
        case measure => simp [intOf]; omega
      · have hkk : (f.1 == k) = false := by simpa using hk
        have HX2 : Hid (PageAt B b (wordsP (kindT (T.take (j + 1)) wf k d) l) X ∧ Kq B w X ∧ Kq B W X) := ⟨by rw [HN.out, if_neg hk]; exact HX.out.1, HX.out.2⟩
        clear hk hml
        go_wp2_with fail
        go_roundw
        case rel => exact ⟨j + 1, by go_num, hjn, HX2⟩
        case measure => simp [intOf]; omega
    · have hjI : ¬ (j : Int) < (T.length : Int) := by omega
      have HE : Hid (PageAt B b (wordsP (kindT T wf k d) l) wr ∧ Kq B w wr) := by
        have := HP.out
        rw [List.take_of_length_le (by omega)] at this
        exact ⟨this.1, this.2.1⟩
      go_wp2_with fail
      go_end0
      exact ⟨rfl, HE.out⟩
end Go.Proofs.YtibbnijicdijnaaGreatDoor

namespace Go.Proofs.YtibbnijicdijnaaGreatDoor
open Go.RowKit

set_option maxRecDepth 10000 in
set_option maxHeartbeats 2000000 in
theorem write_any {B : Nat} {wf : FuncId → SL → List (List UInt8)} (d : SL) (hT : TabW formsL wf d.k) (vo vp vl vi : Value) (w : World) (hs : SlE B w d vo vp vl vi) (hi : SlI d) (hl : tot (kindT formsL wf d.k d) ≤ 900000000) (hBw : B ≤ w.heap.size) (hg : Gl w) (hB : 12 ≤ B) : Calls Tryz.prog 40 #[.agg (slC d vo vp vl vi)] w fun e w' => e = .returned (.string (txtOf (wordsP (kindT formsL wf d.k d) []))) ∧ Below B w w' := by
  obtain ⟨W, hW⟩ : ∃ W, w.alloc (.cells (slC d vo vp vl vi) 45) = W := ⟨_, rfl⟩
  obtain ⟨V, hV⟩ : ∃ V, W.alloc (.cells #[.pointer none, .slice none 0 0] 125) = V := ⟨_, rfl⟩
  have hbW : Below w.heap.size w W := by rw [← hW]; exact (Below.refl _ _).alloc (Nat.le_refl _) _
  have hbV : Below W.heap.size W V := by rw [← hV]; exact (Below.refl _ _).alloc (Nat.le_refl _) _
  have gV : V.heap[W.heap.size]? = some (.cells #[.pointer none, .slice none 0 0] 125 (0, 0)) := by rw [← hV]; exact heap_alloc_new W _
  have kW : Kq B w W := Kq.of_below hbW hBw
  have kV : Kq B W V.drew := Kq.of_below hbV.drew (Nat.le_trans hBw hbW.size)
  have hBV : B ≤ V.drew.heap.size := Nat.le_trans hBw (kW.trans kV).low.size
  have hP : PageAt B W.heap.size [] V.drew := ⟨Nat.le_trans hBw hbW.size, none, .slice none 0 0, gV, .inl rfl, own_z _ _ _ _⟩
  have HBx : Hid (∀ w', Kq B V.drew w' → w'.cell? ⟨w.heap.size, 0, none⟩ = some (.int .i64 d.k) ∧ w'.cell? ⟨w.heap.size, 1, none⟩ = some (.string (txtOf d.n)) ∧ w'.cell? ⟨w.heap.size, 2, none⟩ = some (vo) ∧ w'.cell? ⟨w.heap.size, 3, none⟩ = some (vp) ∧ w'.cell? ⟨w.heap.size, 4, none⟩ = some (.string (txtOf d.deg)) ∧ w'.cell? ⟨w.heap.size, 5, none⟩ = some (vl) ∧ w'.cell? ⟨w.heap.size, 6, none⟩ = some (vi) ∧ w'.cell? ⟨w.heap.size, 7, none⟩ = some (.int .i64 d.ends) ∧ w'.cell? ⟨w.heap.size, 8, none⟩ = some (.string (txtOf d.low)) ∧ w'.cell? ⟨w.heap.size, 9, none⟩ = some (.string (txtOf d.high))) := fun w' k => by
    have gB := box_held hW w' (kV.trans k)
    exact ⟨cell_of gB 0, cell_of gB 1, cell_of gB 2, cell_of gB 3, cell_of gB 4, cell_of gB 5, cell_of gB 6, cell_of gB 7, cell_of gB 8, cell_of gB 9⟩
  have HF : Hid (Calls Tryz.prog 61 #[] V.drew fun e w' => e = .returned (.slice (some ⟨V.drew.heap.size, 0, none⟩) 12 12) ∧ w'.heap[V.drew.heap.size]? = some (.cells (fmsC formsL).toArray 154 (0, 0)) ∧ Below V.drew.heap.size V.drew w') := (forms_any V.drew).mono fun e w' hq => ⟨hq.1, by rw [hq.2]; exact heap_alloc_new V.drew _, by rw [hq.2]; exact (Below.refl _ _).alloc (Nat.le_refl _) _⟩
  have HPk : Hid (∀ w', w'.heap[V.drew.heap.size]? = some (.cells (fmsC formsL).toArray 154 (0, 0)) → Below V.drew.heap.size V.drew w' → Calls Tryz.prog 60 #[.pointer (some ⟨W.heap.size, 0, none⟩), .slice (some ⟨V.drew.heap.size, 0, none⟩) 12 12, .int .i64 d.k, .agg (slC d vo vp vl vi)] w' (WrO B W.heap.size (wordsP (kindT formsL wf d.k d) []) w')) := fun w' hg1 hb1 => by
    have k1 := (kW.trans kV).trans (Kq.of_below hb1 hBV)
    exact ppick_any d.k hT d vo vp vl vi w' (page_below hP hb1) hg1 (hs.next k1) hi (by simpa using hl) (Nat.le_trans hBw k1.low.size) (hg.kq k1 hB) hB
  have HKV : Hid (Kq B w V.drew) := kW.trans kV
  obtain ⟨Z, hZ⟩ : ∃ Z, wordsP (kindT formsL wf d.k d) [] = Z := ⟨_, rfl⟩
  rw [hZ] at HPk
  rw [hZ]
  unfold slC at hW HPk
  unfold slC
  obtain ⟨ao, co, rfl, _, _⟩ := hs.o
  obtain ⟨ap, cp, rfl, _, _⟩ := hs.p
  obtain ⟨al, cl, rfl, _, _⟩ := hs.l
  obtain ⟨ai, ci, rfl, _, _⟩ := hs.i
  clear hs hi hl hg hT hbW hbV gV kW kV hP hZ
  go_enter Tryz.func40, Tryz.ntmps40
  go_wp2_with fail
  refine wp_region_T (fun w' => w'.cell? ⟨w.heap.size, 0, none⟩ = some (.int .i64 d.k) ∧ w'.cell? ⟨w.heap.size, 1, none⟩ = some (.string (txtOf d.n)) ∧ w'.cell? ⟨w.heap.size, 2, none⟩ = some (.slice ao d.ops.length co) ∧ w'.cell? ⟨w.heap.size, 3, none⟩ = some (.slice ap d.pcs.length cp) ∧ w'.cell? ⟨w.heap.size, 4, none⟩ = some (.string (txtOf d.deg)) ∧ w'.cell? ⟨w.heap.size, 5, none⟩ = some (.slice al d.lits.length cl) ∧ w'.cell? ⟨w.heap.size, 6, none⟩ = some (.slice ai d.ids.length ci) ∧ w'.cell? ⟨w.heap.size, 7, none⟩ = some (.int .i64 d.ends) ∧ w'.cell? ⟨w.heap.size, 8, none⟩ = some (.string (txtOf d.low)) ∧ w'.cell? ⟨w.heap.size, 9, none⟩ = some (.string (txtOf d.high))) (fun _ => True) [] (by kernel_rfl) ⟨HBx.out _ (Kq.refl _ _), trivial⟩ (fun hHeld => ?_)
  clear hW hV
  generalize V.drew = U at hHeld HBx HF HPk HKV hBV ⊢
  generalize W.heap.size = b at HPk ⊢
  refine wpAnyT_takeB (i := 0) (oi := ⟨some 6, .move (.tmp 3), _, _, _, _⟩) (v := ?v0) rfl (by kernel_rfl) (by kernel_rfl) (by kernel_rfl) (by kernel_rfl) (fun _ _ _ h => h) (Or.inl ⟨by rfl, ?hy0⟩) (by assumption) ?rest0
  case hy0 => (intro w hSw; (try dsimp only at hSw); obtain ⟨s0, s1, s2, s3, s4, s5, s6, s7, s8, s9⟩ := hSw; go_simp; try (with_reducible rfl))
  try simp only [Act.put, List.setIfInBounds_toArray, List.set_cons_zero, List.set_cons_succ]
  refine wpAnyT_takeB (i := 2) (oi := ⟨some 8, .fieldAddr 45 (.tmp 1) 0, _, _, _, _⟩) (v := ?v2) rfl (by kernel_rfl) (by kernel_rfl) (by kernel_rfl) (by kernel_rfl) (fun _ _ _ h => h) (Or.inl ⟨by rfl, ?hy2⟩) (by assumption) ?rest2
  case hy2 => (intro w hSw; (try dsimp only at hSw); obtain ⟨s0, s1, s2, s3, s4, s5, s6, s7, s8, s9⟩ := hSw; go_simp; try (with_reducible rfl))
  try simp only [Act.put, List.setIfInBounds_toArray, List.set_cons_zero, List.set_cons_succ]
  refine wpAnyT_takeB (i := 3) (oi := ⟨some 9, .load 3 (.tmp 8), _, _, _, _⟩) (v := ?v3) rfl (by kernel_rfl) (by kernel_rfl) (by kernel_rfl) (by kernel_rfl) (fun _ _ _ h => h) (Or.inl ⟨by rfl, ?hy3⟩) (by assumption) ?rest3
  case hy3 => (intro w hSw; (try dsimp only at hSw); obtain ⟨s0, s1, s2, s3, s4, s5, s6, s7, s8, s9⟩ := hSw; go_simp; try (with_reducible rfl))
  try simp only [Act.put, List.setIfInBounds_toArray, List.set_cons_zero, List.set_cons_succ]
  refine wpAnyT_takeB (i := 4) (oi := ⟨some 10, .load 45 (.tmp 1), _, _, _, _⟩) (v := ?v4) rfl (by kernel_rfl) (by kernel_rfl) (by kernel_rfl) (by kernel_rfl) (fun _ _ _ h => h) (Or.inl ⟨by rfl, ?hy4⟩) (by assumption) ?rest4
  case hy4 => (intro w hSw; (try dsimp only at hSw); obtain ⟨s0, s1, s2, s3, s4, s5, s6, s7, s8, s9⟩ := hSw; go_simp; try (with_reducible rfl))
  try simp only [Act.put, List.setIfInBounds_toArray, List.set_cons_zero, List.set_cons_succ]
  clear hHeld
  refine wpAnyT_one (i := 1) (o := ⟨some 7, .call { callee := .value (.func 61), args := #[], argTypes := #[] }, _, _, _, _⟩) (by kernel_rfl) rfl (fun K hK => ?_)
  go_simp
  refine calls_at HF.out (by with_reducible rfl) (by with_reducible rfl) ?_
  rintro e w1 ⟨rfl, hg1, hb1⟩
  have H1 : Hid (w1.heap[U.heap.size]? = some (.cells (fmsC formsL).toArray 154 (0, 0)) ∧ Below U.heap.size U w1) := ⟨hg1, hb1⟩
  clear hg1 hb1
  go_wp2_with fail
  refine hK.out _ _ ⟨HBx.out _ (Kq.of_below H1.out.2 hBV), fun _ => trivial⟩ ?_
  clear hK K
  try simp only [Act.put, List.setIfInBounds_toArray, List.set_cons_zero, List.set_cons_succ]
  refine wpAnyT_one (i := 5) (o := ⟨some 11, .call { callee := .value (.func 60), args := #[(.tmp 6), (.tmp 7), (.tmp 9), (.tmp 10)], argTypes := #[123, 127, 3, 45] }, _, _, _, _⟩) (by kernel_rfl) rfl (fun K hK => ?_)
  go_simp
  refine calls_at (HPk.out w1 H1.out.1 H1.out.2) (by with_reducible rfl) (by with_reducible rfl) ?_
  rintro e w2 ⟨rfl, hp2, hk2⟩
  have H2 : Hid (PageAt B b Z w2 ∧ Kq B U w2) := ⟨hp2, (Kq.of_below H1.out.2 hBV).trans hk2⟩
  clear hp2 hk2
  go_wp2_with fail
  refine hK.out _ _ ⟨HBx.out _ H2.out.2, fun _ => trivial⟩ ?_
  clear hK K
  try simp only [Act.put, List.setIfInBounds_toArray, List.set_cons_zero, List.set_cons_succ]
  refine wpAnyT_done (by kernel_rfl) ?_ _
  have HSt : Hid (Calls Tryz.prog 39 #[.pointer (some ⟨b, 0, none⟩)] w2 fun e w' => e = .returned (.string (txtOf Z)) ∧ Below B w2 w') := by
    by_cases h0 : Z = []
    · have h1 := H2.out.1
      rw [h0] at h1 ⊢
      exact string_none B b w2 h1
    · exact string_any B b Z w2 H2.out.1 h0
  go_wp2_with fail
  refine calls_at HSt.out (by with_reducible rfl) (by with_reducible rfl) ?_
  rintro e w3 ⟨rfl, hb3⟩
  have H3 : Hid (Below B w w3) := (HKV.out.low.trans H2.out.2.low).trans hb3
  clear hb3
  go_wp2_with fail
  go_ret
  exact ⟨rfl, H3.out⟩

end Go.Proofs.YtibbnijicdijnaaGreatDoor

namespace Go.Proofs.YtibbnijicdijnaaGreatDoor
open Go.RowKit

set_option maxRecDepth 10000 in
set_option maxHeartbeats 1000000 in
theorem eq62 (L : List PcL) (v v' : Value) (w : World) (h : RdAt w v L.length (pcsC L)) (h' : RdAt w v' L.length (pcsC L)) : Calls Tryz.prog 62 #[v, v'] w fun e w' => e = .returned (.bool true) ∧ Below w.heap.size w w' := by
  obtain ⟨a, cap, rfl, hn, hc⟩ := h
  obtain ⟨a', cap', rfl, _, hc'⟩ := h'
  have HC : Hid (∀ w', Below w.heap.size w w' → ∀ j (hj : j < L.length), ∃ g off, a = some ⟨g, off, none⟩ ∧ w'.cell? ⟨g, off + j * 2, none⟩ = some (.string (txtOf L[j].1)) ∧ w'.cell? ⟨g, off + j * 2 + 1, none⟩ = some (.int .i64 L[j].2)) := fun w' hb j hj => by
    obtain ⟨g, off, e1, e2, e3⟩ := hc (by omega)
    obtain ⟨p1, p2⟩ := pcs_get L j hj
    exact ⟨g, off, e1, (hb.cell (p := ⟨g, off + j * 2, none⟩) e2).trans (e3 _ _ p1), (hb.cell (p := ⟨g, off + j * 2 + 1, none⟩) e2).trans (e3 _ _ p2)⟩
  have HC' : Hid (∀ w', Below w.heap.size w w' → ∀ j (hj : j < L.length), ∃ g off, a' = some ⟨g, off, none⟩ ∧ w'.cell? ⟨g, off + j * 2, none⟩ = some (.string (txtOf L[j].1)) ∧ w'.cell? ⟨g, off + j * 2 + 1, none⟩ = some (.int .i64 L[j].2)) := fun w' hb j hj => by
    obtain ⟨g, off, e1, e2, e3⟩ := hc' (by omega)
    obtain ⟨p1, p2⟩ := pcs_get L j hj
    exact ⟨g, off, e1, (hb.cell (p := ⟨g, off + j * 2, none⟩) e2).trans (e3 _ _ p1), (hb.cell (p := ⟨g, off + j * 2 + 1, none⟩) e2).trans (e3 _ _ p2)⟩
  clear hc hc'
  go_enter Tryz.func62, Tryz.ntmps62
  go_wp2_with fail
  go_loopw [13] (fun iv wr => ∃ k : Nat, iv = .int .i64 (k : Int) ∧ k ≤ L.length ∧ Hid (Below w.heap.size w wr)) (fun iv _ => L.length - (intOf iv).toNat)
  case atStart => exact ⟨0, rfl, Nat.zero_le _, Below.refl _ _⟩
  case round =>
    obtain ⟨k, rfl, hk, HBr⟩ := hrel
    by_cases hkn : k < L.length
    · have hkI : (k : Int) < (L.length : Int) := by omega
      obtain ⟨g, off, rfl, x0, x1⟩ := HC.out wr HBr.out k hkn
      obtain ⟨g', off', rfl, y0, y1⟩ := HC'.out wr HBr.out k hkn
      obtain ⟨T, hT⟩ : ∃ T, txtOf L[k].1 = T := ⟨_, rfl⟩
      obtain ⟨n, hn2⟩ : ∃ n, L[k].2 = n := ⟨_, rfl⟩
      rw [hT] at x0 y0
      rw [hn2] at x1 y1
      have hne : ∀ W, (binOp .neq 82 (.agg #[.string T, .int .i64 n]) (.agg #[.string T, .int .i64 n])).run Tryz.prog W = .ok (.bool false) W := fun W => by rw [pc_neq]; simp
      clear hT hn2
      go_wp2_with fail
      go_region
      have HBd : Hid (Below w.heap.size w wr.drew) := HBr.out.drew
      go_wp2_with fail
      go_roundw
      case rel => exact ⟨k + 1, by go_num, hkn, HBd⟩
      case measure => simp [intOf]; omega
    · have hkI : ¬ (k : Int) < (L.length : Int) := by omega
      go_wp2_with fail
      go_ret
      exact ⟨rfl, HBr.out⟩

set_option maxRecDepth 10000 in
set_option maxHeartbeats 1000000 in
theorem eq63 (L : List OpL) (v v' : Value) (w : World) (h : RdAt w v L.length (opsC L)) (h' : RdAt w v' L.length (opsC L)) : Calls Tryz.prog 63 #[v, v'] w fun e w' => e = .returned (.bool true) ∧ Below w.heap.size w w' := by
  obtain ⟨a, cap, rfl, hn, hc⟩ := h
  obtain ⟨a', cap', rfl, _, hc'⟩ := h'
  have HC : Hid (∀ w', Below w.heap.size w w' → ∀ j (hj : j < L.length), ∃ g off, a = some ⟨g, off, none⟩ ∧ w'.cell? ⟨g, off + j * 3, none⟩ = some (.int .i64 L[j].1) ∧ w'.cell? ⟨g, off + j * 3 + 1, none⟩ = some (.string (txtOf L[j].2.1)) ∧ w'.cell? ⟨g, off + j * 3 + 2, none⟩ = some (.int .i64 L[j].2.2)) := fun w' hb j hj => by
    obtain ⟨g, off, e1, e2, e3⟩ := hc (by omega)
    obtain ⟨p1, p2, p3⟩ := ops_get L j hj
    exact ⟨g, off, e1, (hb.cell (p := ⟨g, off + j * 3, none⟩) e2).trans (e3 _ _ p1), (hb.cell (p := ⟨g, off + j * 3 + 1, none⟩) e2).trans (e3 _ _ p2), (hb.cell (p := ⟨g, off + j * 3 + 2, none⟩) e2).trans (e3 _ _ p3)⟩
  have HC' : Hid (∀ w', Below w.heap.size w w' → ∀ j (hj : j < L.length), ∃ g off, a' = some ⟨g, off, none⟩ ∧ w'.cell? ⟨g, off + j * 3, none⟩ = some (.int .i64 L[j].1) ∧ w'.cell? ⟨g, off + j * 3 + 1, none⟩ = some (.string (txtOf L[j].2.1)) ∧ w'.cell? ⟨g, off + j * 3 + 2, none⟩ = some (.int .i64 L[j].2.2)) := fun w' hb j hj => by
    obtain ⟨g, off, e1, e2, e3⟩ := hc' (by omega)
    obtain ⟨p1, p2, p3⟩ := ops_get L j hj
    exact ⟨g, off, e1, (hb.cell (p := ⟨g, off + j * 3, none⟩) e2).trans (e3 _ _ p1), (hb.cell (p := ⟨g, off + j * 3 + 1, none⟩) e2).trans (e3 _ _ p2), (hb.cell (p := ⟨g, off + j * 3 + 2, none⟩) e2).trans (e3 _ _ p3)⟩
  clear hc hc'
  go_enter Tryz.func63, Tryz.ntmps63
  go_wp2_with fail
  go_loopw [13] (fun iv wr => ∃ k : Nat, iv = .int .i64 (k : Int) ∧ k ≤ L.length ∧ Hid (Below w.heap.size w wr)) (fun iv _ => L.length - (intOf iv).toNat)
  case atStart => exact ⟨0, rfl, Nat.zero_le _, Below.refl _ _⟩
  case round =>
    obtain ⟨k, rfl, hk, HBr⟩ := hrel
    by_cases hkn : k < L.length
    · have hkI : (k : Int) < (L.length : Int) := by omega
      obtain ⟨g, off, rfl, x0, x1, x2⟩ := HC.out wr HBr.out k hkn
      obtain ⟨g', off', rfl, y0, y1, y2⟩ := HC'.out wr HBr.out k hkn
      obtain ⟨T, hT⟩ : ∃ T, txtOf L[k].2.1 = T := ⟨_, rfl⟩
      obtain ⟨k1, hk1⟩ : ∃ n, L[k].1 = n := ⟨_, rfl⟩
      obtain ⟨k3, hk3⟩ : ∃ n, L[k].2.2 = n := ⟨_, rfl⟩
      rw [hT] at x1 y1
      rw [hk1] at x0 y0
      rw [hk3] at x2 y2
      have hne : ∀ W, (binOp .neq 84 (.agg #[.int .i64 k1, .string T, .int .i64 k3]) (.agg #[.int .i64 k1, .string T, .int .i64 k3])).run Tryz.prog W = .ok (.bool false) W := fun W => by rw [op_neq]; simp
      clear hT hk1 hk3
      go_wp2_with fail
      go_region
      have HBd : Hid (Below w.heap.size w wr.drew) := HBr.out.drew
      go_wp2_with fail
      go_roundw
      case rel => exact ⟨k + 1, by go_num, hkn, HBd⟩
      case measure => simp [intOf]; omega
    · have hkI : ¬ (k : Int) < (L.length : Int) := by omega
      go_wp2_with fail
      go_ret
      exact ⟨rfl, HBr.out⟩

set_option maxRecDepth 10000 in
set_option maxHeartbeats 1000000 in
theorem eq64 (L : List Int) (v v' : Value) (w : World) (h : RdAt w v L.length (L.map (.int .i64))) (h' : RdAt w v' L.length (L.map (.int .i64))) : Calls Tryz.prog 64 #[v, v'] w fun e w' => e = .returned (.bool true) ∧ Below w.heap.size w w' := by
  obtain ⟨a, cap, rfl, hn, hc⟩ := h
  obtain ⟨a', cap', rfl, _, hc'⟩ := h'
  have HC : Hid (∀ w', Below w.heap.size w w' → ∀ j (hj : j < L.length), ∃ g off, a = some ⟨g, off, none⟩ ∧ w'.cell? ⟨g, off + j, none⟩ = some (.int .i64 L[j])) := fun w' hb j hj => by
    obtain ⟨g, off, e1, e2, e3⟩ := hc (by omega)
    have p1 : (L.map (Value.int .i64))[j]? = some (.int .i64 L[j]) := by simp [hj]
    exact ⟨g, off, e1, (hb.cell (p := ⟨g, off + j, none⟩) e2).trans (e3 _ _ p1)⟩
  have HC' : Hid (∀ w', Below w.heap.size w w' → ∀ j (hj : j < L.length), ∃ g off, a' = some ⟨g, off, none⟩ ∧ w'.cell? ⟨g, off + j, none⟩ = some (.int .i64 L[j])) := fun w' hb j hj => by
    obtain ⟨g, off, e1, e2, e3⟩ := hc' (by omega)
    have p1 : (L.map (Value.int .i64))[j]? = some (.int .i64 L[j]) := by simp [hj]
    exact ⟨g, off, e1, (hb.cell (p := ⟨g, off + j, none⟩) e2).trans (e3 _ _ p1)⟩
  clear hc hc'
  go_enter Tryz.func64, Tryz.ntmps64
  go_wp2_with fail
  go_loopw [13] (fun iv wr => ∃ k : Nat, iv = .int .i64 (k : Int) ∧ k ≤ L.length ∧ Hid (Below w.heap.size w wr)) (fun iv _ => L.length - (intOf iv).toNat)
  case atStart => exact ⟨0, rfl, Nat.zero_le _, Below.refl _ _⟩
  case round =>
    obtain ⟨k, rfl, hk, HBr⟩ := hrel
    by_cases hkn : k < L.length
    · have hkI : (k : Int) < (L.length : Int) := by omega
      obtain ⟨g, off, rfl, x0⟩ := HC.out wr HBr.out k hkn
      obtain ⟨g', off', rfl, y0⟩ := HC'.out wr HBr.out k hkn
      obtain ⟨z, hz⟩ : ∃ z, L[k] = z := ⟨_, rfl⟩
      rw [hz] at x0 y0
      clear hz
      go_wp2_with fail
      go_region
      have HBd : Hid (Below w.heap.size w wr.drew) := HBr.out.drew
      go_wp2_with fail
      go_roundw
      case rel => exact ⟨k + 1, by go_num, hkn, HBd⟩
      case measure => simp [intOf]; omega
    · have hkI : ¬ (k : Int) < (L.length : Int) := by omega
      go_wp2_with fail
      go_ret
      exact ⟨rfl, HBr.out⟩

set_option maxRecDepth 10000 in
set_option maxHeartbeats 1000000 in
theorem eq65 (L : List (List UInt8)) (v v' : Value) (w : World) (h : RdAt w v L.length (L.map fun x => .string (txtOf x))) (h' : RdAt w v' L.length (L.map fun x => .string (txtOf x))) : Calls Tryz.prog 65 #[v, v'] w fun e w' => e = .returned (.bool true) ∧ Below w.heap.size w w' := by
  obtain ⟨a, cap, rfl, hn, hc⟩ := h
  obtain ⟨a', cap', rfl, _, hc'⟩ := h'
  have HC : Hid (∀ w', Below w.heap.size w w' → ∀ j (hj : j < L.length), ∃ g off, a = some ⟨g, off, none⟩ ∧ w'.cell? ⟨g, off + j, none⟩ = some (.string (txtOf L[j]))) := fun w' hb j hj => by
    obtain ⟨g, off, e1, e2, e3⟩ := hc (by omega)
    have p1 : (L.map fun x => Value.string (txtOf x))[j]? = some (.string (txtOf L[j])) := by simp [hj]
    exact ⟨g, off, e1, (hb.cell (p := ⟨g, off + j, none⟩) e2).trans (e3 _ _ p1)⟩
  have HC' : Hid (∀ w', Below w.heap.size w w' → ∀ j (hj : j < L.length), ∃ g off, a' = some ⟨g, off, none⟩ ∧ w'.cell? ⟨g, off + j, none⟩ = some (.string (txtOf L[j]))) := fun w' hb j hj => by
    obtain ⟨g, off, e1, e2, e3⟩ := hc' (by omega)
    have p1 : (L.map fun x => Value.string (txtOf x))[j]? = some (.string (txtOf L[j])) := by simp [hj]
    exact ⟨g, off, e1, (hb.cell (p := ⟨g, off + j, none⟩) e2).trans (e3 _ _ p1)⟩
  clear hc hc'
  go_enter Tryz.func65, Tryz.ntmps65
  go_wp2_with fail
  go_loopw [13] (fun iv wr => ∃ k : Nat, iv = .int .i64 (k : Int) ∧ k ≤ L.length ∧ Hid (Below w.heap.size w wr)) (fun iv _ => L.length - (intOf iv).toNat)
  case atStart => exact ⟨0, rfl, Nat.zero_le _, Below.refl _ _⟩
  case round =>
    obtain ⟨k, rfl, hk, HBr⟩ := hrel
    by_cases hkn : k < L.length
    · have hkI : (k : Int) < (L.length : Int) := by omega
      obtain ⟨g, off, rfl, x0⟩ := HC.out wr HBr.out k hkn
      obtain ⟨g', off', rfl, y0⟩ := HC'.out wr HBr.out k hkn
      have hq := txt_beq L[k] L[k]
      rw [decide_eq_true rfl] at hq
      obtain ⟨T, hT⟩ : ∃ T, txtOf L[k] = T := ⟨_, rfl⟩
      rw [hT] at x0 y0 hq
      clear hT
      go_wp2_with fail
      go_region
      have HBd : Hid (Below w.heap.size w wr.drew) := HBr.out.drew
      go_wp2_with fail
      go_roundw
      case rel => exact ⟨k + 1, by go_num, hkn, HBd⟩
      case measure => simp [intOf]; omega
    · have hkI : ¬ (k : Int) < (L.length : Int) := by omega
      go_wp2_with fail
      go_ret
      exact ⟨rfl, HBr.out⟩

end Go.Proofs.YtibbnijicdijnaaGreatDoor

namespace Go.Proofs.YtibbnijicdijnaaGreatDoor
open Go.RowKit

set_option maxRecDepth 10000 in
set_option maxHeartbeats 2000000 in
theorem psame_eq (d : SL) (vo vp vl vi vo2 vp2 vl2 vi2 : Value) (w : World) (h : SlR w d vo vp vl vi) (h' : SlR w d vo2 vp2 vl2 vi2) : Calls Tryz.prog 41 #[.agg (slC d vo vp vl vi), .agg (slC d vo2 vp2 vl2 vi2)] w fun e w' => e = .returned (.bool true) ∧ Below w.heap.size w w' := by
  have hn1 := txt_beq d.n d.n
  have hn2 := txt_beq d.low d.low
  have hn3 := txt_beq d.high d.high
  rw [decide_eq_true rfl] at hn1 hn2 hn3
  obtain ⟨oa, oc, rfl, ho, _⟩ := id h.o
  obtain ⟨oa2, oc2, rfl, _, _⟩ := id h'.o
  obtain ⟨pa, pc, rfl, hp, _⟩ := id h.p
  obtain ⟨pa2, pc2, rfl, _, _⟩ := id h'.p
  obtain ⟨la, lc, rfl, hl, _⟩ := id h.l
  obtain ⟨la2, lc2, rfl, _, _⟩ := id h'.l
  obtain ⟨ia, ic, rfl, hi, _⟩ := id h.i
  obtain ⟨ia2, ic2, rfl, _, _⟩ := id h'.i
  unfold slC
  have H62 : Hid (∀ w', Below w.heap.size w w' → Calls Tryz.prog 62 #[.slice pa d.pcs.length pc, .slice pa2 d.pcs.length pc2] w' fun e w2 => e = .returned (.bool true) ∧ Below w'.heap.size w' w2) := fun w' hb => eq62 d.pcs _ _ w' (h.below hb).p (h'.below hb).p
  have H63 : Hid (∀ w', Below w.heap.size w w' → Calls Tryz.prog 63 #[.slice oa d.ops.length oc, .slice oa2 d.ops.length oc2] w' fun e w2 => e = .returned (.bool true) ∧ Below w'.heap.size w' w2) := fun w' hb => eq63 d.ops _ _ w' (h.below hb).o (h'.below hb).o
  have H64 : Hid (∀ w', Below w.heap.size w w' → Calls Tryz.prog 64 #[.slice la d.lits.length lc, .slice la2 d.lits.length lc2] w' fun e w2 => e = .returned (.bool true) ∧ Below w'.heap.size w' w2) := fun w' hb => eq64 d.lits _ _ w' (h.below hb).l (h'.below hb).l
  have H65 : Hid (∀ w', Below w.heap.size w w' → Calls Tryz.prog 65 #[.slice ia d.ids.length ic, .slice ia2 d.ids.length ic2] w' fun e w2 => e = .returned (.bool true) ∧ Below w'.heap.size w' w2) := fun w' hb => eq65 d.ids _ _ w' (h.below hb).i (h'.below hb).i
  obtain ⟨N, hN⟩ : ∃ N, txtOf d.n = N := ⟨_, rfl⟩
  obtain ⟨D, hD⟩ : ∃ D, txtOf d.deg = D := ⟨_, rfl⟩
  obtain ⟨Lo, hLo⟩ : ∃ D, txtOf d.low = D := ⟨_, rfl⟩
  obtain ⟨Hi, hHi⟩ : ∃ D, txtOf d.high = D := ⟨_, rfl⟩
  rw [hN] at hn1
  rw [hLo] at hn2
  rw [hHi] at hn3
  have hn4 := txt_beq d.deg d.deg
  rw [decide_eq_true rfl, hD] at hn4
  rw [hN, hD, hLo, hHi]
  obtain ⟨W, hW⟩ : ∃ W, (w.alloc (.cells #[.int .i64 d.k, .string N, .slice oa d.ops.length oc, .slice pa d.pcs.length pc, .string D, .slice la d.lits.length lc, .slice ia d.ids.length ic, .int .i64 d.ends, .string Lo, .string Hi] 45)).alloc (.cells #[.int .i64 d.k, .string N, .slice oa2 d.ops.length oc2, .slice pa2 d.pcs.length pc2, .string D, .slice la2 d.lits.length lc2, .slice ia2 d.ids.length ic2, .int .i64 d.ends, .string Lo, .string Hi] 45) = W := ⟨_, rfl⟩
  have hb0 : Below w.heap.size w W := by rw [← hW]; exact ((Below.refl _ _).alloc (Nat.le_refl _) _).alloc (by simp) _
  have g0 : W.heap[w.heap.size]? = some (.cells #[.int .i64 d.k, .string N, .slice oa d.ops.length oc, .slice pa d.pcs.length pc, .string D, .slice la d.lits.length lc, .slice ia d.ids.length ic, .int .i64 d.ends, .string Lo, .string Hi] 45 (0, 0)) := by rw [← hW, heap_alloc_old (w.alloc _) _ (by simp)]; exact heap_alloc_new w _
  have g1 : W.heap[w.heap.size + 1]? = some (.cells #[.int .i64 d.k, .string N, .slice oa2 d.ops.length oc2, .slice pa2 d.pcs.length pc2, .string D, .slice la2 d.lits.length lc2, .slice ia2 d.ids.length ic2, .int .i64 d.ends, .string Lo, .string Hi] 45 (0, 0)) := by rw [← hW]; exact heap_alloc2_new w _ _
  have hl0 := (Array.getElem?_eq_some_iff.1 g0).1
  have hl1 := (Array.getElem?_eq_some_iff.1 g1).1
  have HB : Hid (Below w.heap.size w W) := hb0
  have HM : Hid (∀ w', Below W.heap.size W w' → (w'.cell? ⟨w.heap.size, 0, none⟩ = some (.int .i64 d.k) ∧ w'.cell? ⟨w.heap.size, 1, none⟩ = some (.string N) ∧ w'.cell? ⟨w.heap.size, 2, none⟩ = some (.slice oa d.ops.length oc) ∧ w'.cell? ⟨w.heap.size, 3, none⟩ = some (.slice pa d.pcs.length pc) ∧ w'.cell? ⟨w.heap.size, 4, none⟩ = some (.string D) ∧ w'.cell? ⟨w.heap.size, 5, none⟩ = some (.slice la d.lits.length lc) ∧ w'.cell? ⟨w.heap.size, 6, none⟩ = some (.slice ia d.ids.length ic) ∧ w'.cell? ⟨w.heap.size, 7, none⟩ = some (.int .i64 d.ends) ∧ w'.cell? ⟨w.heap.size, 8, none⟩ = some (.string Lo) ∧ w'.cell? ⟨w.heap.size, 9, none⟩ = some (.string Hi)) ∧ (w'.cell? ⟨w.heap.size + 1, 0, none⟩ = some (.int .i64 d.k) ∧ w'.cell? ⟨w.heap.size + 1, 1, none⟩ = some (.string N) ∧ w'.cell? ⟨w.heap.size + 1, 2, none⟩ = some (.slice oa2 d.ops.length oc2) ∧ w'.cell? ⟨w.heap.size + 1, 3, none⟩ = some (.slice pa2 d.pcs.length pc2) ∧ w'.cell? ⟨w.heap.size + 1, 4, none⟩ = some (.string D) ∧ w'.cell? ⟨w.heap.size + 1, 5, none⟩ = some (.slice la2 d.lits.length lc2) ∧ w'.cell? ⟨w.heap.size + 1, 6, none⟩ = some (.slice ia2 d.ids.length ic2) ∧ w'.cell? ⟨w.heap.size + 1, 7, none⟩ = some (.int .i64 d.ends) ∧ w'.cell? ⟨w.heap.size + 1, 8, none⟩ = some (.string Lo) ∧ w'.cell? ⟨w.heap.size + 1, 9, none⟩ = some (.string Hi))) := fun w' hb => by
    have f0 := (hb.block _ hl0).trans g0
    have f1 := (hb.block _ hl1).trans g1
    exact ⟨⟨cell_of f0 0, cell_of f0 1, cell_of f0 2, cell_of f0 3, cell_of f0 4, cell_of f0 5, cell_of f0 6, cell_of f0 7, cell_of f0 8, cell_of f0 9⟩, cell_of f1 0, cell_of f1 1, cell_of f1 2, cell_of f1 3, cell_of f1 4, cell_of f1 5, cell_of f1 6, cell_of f1 7, cell_of f1 8, cell_of f1 9⟩
  obtain ⟨⟨m0, m1, m2, m3, m4, m5, m6, m7, m8, m9⟩, n0, n1, n2, n3, n4, n5, n6, n7, n8, n9⟩ := HM.out W (Below.refl _ _)
  clear hb0 g0 g1 hl0 hl1 h h' hN hD hLo hHi
  go_enter Tryz.func41, Tryz.ntmps41
  go_wp2_with fail
  refine calls_at (H62.out W HB.out) (by with_reducible rfl) (by with_reducible rfl) ?_
  rintro e w1 ⟨rfl, hb1⟩
  have HB1 : Hid (Below W.heap.size W w1) := hb1
  clear hb1 m0 m1 m2 m3 m4 m5 m6 m7 m8 m9 n0 n1 n2 n3 n4 n5 n6 n7 n8 n9
  obtain ⟨⟨_, _, m2, _, _, _, _, _, _, _⟩, _, _, n2, _, _, _, _, _, _, _⟩ := HM.out w1 HB1.out
  go_wp2_with fail
  refine calls_at (H63.out w1 (HB.out.trans (HB1.out.mono HB.out.size))) (by with_reducible rfl) (by with_reducible rfl) ?_
  rintro e w2 ⟨rfl, hb2⟩
  have HB2 : Hid (Below W.heap.size W w2) := bl_next HB1.out hb2
  clear hb2 m2 n2
  obtain ⟨⟨_, _, _, _, _, m5, _, _, _, _⟩, _, _, _, _, _, n5, _, _, _, _⟩ := HM.out w2 HB2.out
  go_wp2_with fail
  refine calls_at (H64.out w2 (HB.out.trans (HB2.out.mono HB.out.size))) (by with_reducible rfl) (by with_reducible rfl) ?_
  rintro e w3 ⟨rfl, hb3⟩
  have HB3 : Hid (Below W.heap.size W w3) := bl_next HB2.out hb3
  clear hb3 m5 n5
  obtain ⟨⟨_, _, _, _, _, _, m6, _, _, _⟩, _, _, _, _, _, _, n6, _, _, _⟩ := HM.out w3 HB3.out
  go_wp2_with fail
  refine calls_at (H65.out w3 (HB.out.trans (HB3.out.mono HB.out.size))) (by with_reducible rfl) (by with_reducible rfl) ?_
  rintro e w4 ⟨rfl, hb4⟩
  have HB4 : Hid (Below W.heap.size W w4) := bl_next HB3.out hb4
  clear hb4 m6 n6
  go_wp2_with fail
  go_ret
  exact ⟨rfl, HB.out.trans (HB4.out.mono HB.out.size)⟩
end Go.Proofs.YtibbnijicdijnaaGreatDoor
