/-
  The book: the list of texts that waits, waits on.
-/
import Derived.Test.YtpmiplhbppmboaaDoorBkTexts
import Derived.Deep.RegionWith
namespace Go.Proofs.YtpmiplhbppmboaaDoor
open Go Go.RowKit Go.Lib

/-- The book, and what else is changed: nothing that was there. -/
structure AtD (w : World) (P : Nat) (bad : Bool) (turn deep : Int) (t : Tx) (w' : World) : Prop where
  book : BkAt w' P bad turn deep t
  rest : Off (fun k => k = P) w w'
theorem AtD.below {w : World} {P : Nat} {bad : Bool} {turn deep : Int} {t : Tx} {w' w2 : World} (h : AtD w P bad turn deep t w') (hb : RowKit.Below w'.heap.size w' w2) : AtD w P bad turn deep t w2 := ⟨h.book.below hb, h.rest.trans (Off.of_below hb)⟩
theorem AtD.set {w : World} {P : Nat} {bad : Bool} {turn deep : Int} {t t' : Tx} {w' : World} (h : AtD w P bad turn deep t w') (i : Nat) (v : Value) (e : (bookCs bad turn deep t).setIfInBounds i v = bookCs bad turn deep t') : AtD w P bad turn deep t' (w'.setCell ⟨P, i, none⟩ v) := ⟨h.book.set i v e, h.rest.trans (Off.set _ rfl)⟩
/-- A row of one, that was there, as it is read. -/
theorem AtD.row {w : World} {P : Nat} {bad : Bool} {turn deep : Int} {t : Tx} {w' : World} (h : AtD w P bad turn deep t w') {B e : Nat} {v u : Value} (ho : w.ownsRow B e 1 v 1 [u]) (hP : P < B) : w'.ownsRow B e 1 v 1 [u] := own_off (S := fun k => k = P) ho (fun g hg e => by have := (ho.lt g hg).1; omega) h.rest
theorem one_cell {w : World} {B e g c : Nat} {u : Value} (h : w.ownsRow B e 1 (.slice (some ⟨g, 0, none⟩) 1 c) 1 [u]) : w.cell? ⟨g, 0, none⟩ = some u := by
  rcases own_cells h with ⟨h1, _⟩ | ⟨g', c', h1, _, _, _, h2⟩
  · cases h1
  · injection h1 with e1 _ _
    injection e1 with e1
    injection e1 with e1 _ _
    subst e1
    exact h2 0 u rfl
theorem one_form {w : World} {B e : Nat} {v u : Value} (h : w.ownsRow B e 1 v 1 [u]) : ∃ g c, v = .slice (some ⟨g, 0, none⟩) 1 c ∧ 1 ≤ c := by
  rcases own_cells h with ⟨_, h1⟩ | ⟨g, c, h1, _, _, h2, _⟩
  · cases h1
  · exact ⟨g, c, h1, h2⟩

/-- It waits on. -/
structure Waiting (w : World) (P : Nat) (bad : Bool) (turn deep : Int) (t : Tx) (lv cv : Value) (m d : Int) (w' : World) (t' : Tx) : Prop where
  at_ : AtD w P bad turn deep t' w'
  same : t'.out = t.out ∧ t'.told = t.told ∧ t'.fresh = t.fresh ∧ t'.from_ = t.from_ ∧ t'.seen = t.seen
  waits : w'.ownsRow w.heap.size 41 1 t'.waits 1 [lv]
  note : w'.ownsRow w.heap.size 41 1 t'.note 1 [cv]
  mark : w'.ownsRow w.heap.size 3 1 t'.mark 1 [.int .i64 m]
  due : w'.ownsRow w.heap.size 3 1 t'.due 1 [.int .i64 d]

set_option maxRecDepth 100000 in
set_option maxHeartbeats 8000000 in
theorem markTexts_wait (P B : Nat) (bad : Bool) (turn deep : Int) (t : Tx) (w : World) (la : Option Addr) (ln lc : Nat) (ca : Option Addr) (cn cc : Nat) (m d : Int) (h : BkAt w P bad turn deep t) (hB : P < B) (h2 : w.ownsRow B 41 1 t.waits 1 [.slice la ln lc]) (h3 : w.ownsRow B 41 1 t.note 1 [.slice ca cn cc]) (h5 : w.ownsRow B 3 1 t.mark 1 [.int .i64 m]) (h6 : w.ownsRow B 3 1 t.due 1 [.int .i64 d]) (hd : turn < d) :
    Calls Tryd.prog 52 #[.pointer (some ⟨P, 0, none⟩)] w fun e w' => e = .returned (.tuple #[]) ∧ ∃ t', Waiting w P bad turn deep t (.slice la ln lc) (.slice ca cn cc) m d w' t' := by
  have HPl : Hid (P < w.heap.size) := (Array.getElem?_eq_some_iff.1 h).1
  obtain ⟨g2, c2, e2, hc2⟩ := one_form h2
  obtain ⟨g3, c3, e3, hc3⟩ := one_form h3
  obtain ⟨g5, c5, e5, hc5⟩ := one_form h5
  obtain ⟨g6, c6, e6, hc6⟩ := one_form h6
  have k2 := (h.cell 15 t.waits rfl).trans (congrArg some e2)
  have k3 := (h.cell 16 t.note rfl).trans (congrArg some e3)
  have k5 := (h.cell 18 t.mark rfl).trans (congrArg some e5)
  have k6 := (h.cell 19 t.due rfl).trans (congrArg some e6)
  have HA0 : Hid (AtD w P bad turn deep t w) := ⟨h, Off.refl _ _⟩
  rw [e2] at h2
  rw [e3] at h3
  rw [e5] at h5
  rw [e6] at h6
  have HRow : Hid (∀ t' w', AtD w P bad turn deep t' w' → w'.cell? ⟨g2, 0, none⟩ = some (.slice la ln lc) ∧ w'.cell? ⟨g3, 0, none⟩ = some (.slice ca cn cc) ∧ w'.cell? ⟨g5, 0, none⟩ = some (.int .i64 m) ∧ w'.cell? ⟨g6, 0, none⟩ = some (.int .i64 d)) := fun t' w' ha => ⟨one_cell (ha.row h2 hB), one_cell (ha.row h3 hB), one_cell (ha.row h5 hB), one_cell (ha.row h6 hB)⟩
  have f2 := h.free 15
  obtain ⟨W1, hW1⟩ : ∃ W, w.setCell ⟨P, 15, none⟩ (.slice none 0 0) = W := ⟨_, rfl⟩
  have HA1 : Hid (AtD w P bad turn deep { t with waits := .slice none 0 0 } W1) := hW1 ▸ HA0.out.set 15 _ rfl
  have r3 : W1.cell? ⟨P, 16, none⟩ = some (.slice (some ⟨g3, 0, none⟩) 1 c3) := (HA1.out.book.cell 16 t.note rfl).trans (congrArg some e3)
  have f3 := HA1.out.book.free 16
  obtain ⟨W2, hW2⟩ : ∃ W, W1.setCell ⟨P, 16, none⟩ (.slice none 0 0) = W := ⟨_, rfl⟩
  have HA2 : Hid (AtD w P bad turn deep { t with waits := .slice none 0 0, note := .slice none 0 0 } W2) := hW2 ▸ HA1.out.set 16 _ rfl
  have r5 : W2.cell? ⟨P, 18, none⟩ = some (.slice (some ⟨g5, 0, none⟩) 1 c5) := (HA2.out.book.cell 18 t.mark rfl).trans (congrArg some e5)
  have f5 := HA2.out.book.free 18
  obtain ⟨W3, hW3⟩ : ∃ W, W2.setCell ⟨P, 18, none⟩ (.slice none 0 0) = W := ⟨_, rfl⟩
  have HA3 : Hid (AtD w P bad turn deep { t with waits := .slice none 0 0, note := .slice none 0 0, mark := .slice none 0 0 } W3) := hW3 ▸ HA2.out.set 18 _ rfl
  have r6 : W3.cell? ⟨P, 19, none⟩ = some (.slice (some ⟨g6, 0, none⟩) 1 c6) := (HA3.out.book.cell 19 t.due rfl).trans (congrArg some e6)
  have f6 := HA3.out.book.free 19
  obtain ⟨W4, hW4⟩ : ∃ W, W3.setCell ⟨P, 19, none⟩ (.slice none 0 0) = W := ⟨_, rfl⟩
  have HA4 : Hid (AtD w P bad turn deep { t with waits := .slice none 0 0, note := .slice none 0 0, mark := .slice none 0 0, due := .slice none 0 0 } W4) := hW4 ▸ HA3.out.set 19 _ rfl
  clear h h2 h3 h5 h6 e2 e3 e5 e6 HA0 HA1 HA2 HA3
  go_enter Tryd.func52, Tryd.ntmps52
  go_wp2_with fail
  go_loopw [6] (fun iv wr => (iv = .int .i64 0 ∧ Hid (AtD w P bad turn deep { t with waits := .slice none 0 0, note := .slice none 0 0, mark := .slice none 0 0, due := .slice none 0 0 } wr)) ∨ (iv = .int .i64 1 ∧ Hid (∃ t', Waiting w P bad turn deep t (.slice la ln lc) (.slice ca cn cc) m d wr t'))) (fun iv _ => 1 - (intOf iv).toNat)
  case atStart => exact .inl ⟨rfl, HA4⟩
  case round =>
    clear k2 k3 k5 k6 r3 r5 r6 f2 f3 f5 f6 hW1 hW2 hW3 hW4 HA4
    rcases hrel with ⟨rfl, hA⟩ | ⟨rfl, hF⟩
    · obtain ⟨p2, p3, p5, p6⟩ := HRow.out _ _ hA.out
      have pt := hA.out.book.cell 2 (.int .i64 turn) rfl
      go_wp2_with fail
      go_region
      have HAu : Hid (AtD w P bad turn deep { t with waits := .slice none 0 0, note := .slice none 0 0, mark := .slice none 0 0, due := .slice none 0 0 } wr.drew) := hA.out.below (Below.refl _ _).drew
      clear p2 p3 p5 p6 pt
      generalize wr.drew = U at HAu ⊢
      have pw : U.cell? ⟨P, 15, none⟩ = some (.slice none 0 0) := HAu.out.book.cell 15 _ rfl
      obtain ⟨V1, hV1⟩ : ∃ V, U.alloc (.cells #[.slice la ln lc] 41) = V := ⟨_, rfl⟩
      have hb1 : RowKit.Below U.heap.size U V1 := by rw [← hV1]; exact (Below.refl _ _).alloc (Nat.le_refl _) _
      have HS1 : Hid (SrcAt V1 (.slice (some ⟨U.heap.size, 0, none⟩) 1 1) 1 1 [.slice la ln lc]) := src_one (t := 41) (by rw [← hV1]; exact World.alloc_heap_new U _) rfl
      have HB1 : Hid (AtD w P bad turn deep { t with waits := .slice none 0 0, note := .slice none 0 0, mark := .slice none 0 0, due := .slice none 0 0 } V1) := HAu.out.below hb1
      clear hb1
      go_wp2_with (first | (at_builtin; first | rw [hV1] | skip); (refine append_src V1 rfl (.tmp 68) (.tmp 70) 25 41 (.slice none 0 0) 1 24 rfl und25' info41' rfl (by decide) w.heap.size _ _ 0 1 [] _ (by rfl) (by rfl) (own_nil _ _ _) HS1.out (by unfold maxLen; omega) (by omega) HB1.out.rest.size ?_; intro v1 w1 g1' g2' _; have hb := below_none g2'; have HB2 : Hid (AtD w P bad turn deep { t with waits := .slice none 0 0, note := .slice none 0 0, mark := .slice none 0 0, due := .slice none 0 0 } w1) := HB1.out.below hb; have HR1 : Hid (w1.ownsRow w.heap.size 41 1 v1 1 [.slice la ln lc]) := g1'; have r15 : w1.cell? ⟨P, 15, none⟩ = some (.slice none 0 0) := HB2.out.book.cell 15 _ rfl; have s15 := HB2.out.book.free 15; obtain ⟨X1, hX1⟩ : ∃ W, w1.setCell ⟨P, 15, none⟩ v1 = W := ⟨_, rfl⟩; obtain ⟨x1, y1, hv⟩ := own_form HR1.out; subst hv; have HB3 : Hid (AtD w P bad turn deep { t with waits := .slice x1 1 y1, note := .slice none 0 0, mark := .slice none 0 0, due := .slice none 0 0 } X1) := hX1 ▸ HB2.out.set 15 _ rfl; have HR1 : Hid (X1.ownsRow w.heap.size 41 1 (.slice x1 1 y1) 1 [.slice la ln lc]) := hX1 ▸ own_set HR1.out HPl.out 15 _; clear g1' g2' hb))
      have HAv : Hid (AtD w P bad turn deep { t with waits := .slice x1 1 y1, note := .slice none 0 0, mark := .slice none 0 0, due := .slice none 0 0 } X1.drew) := HB3.out.below (Below.refl _ _).drew
      have HRv : Hid (X1.drew.ownsRow w.heap.size 41 1 (.slice x1 1 y1) 1 [.slice la ln lc]) := own_next HR1.out (Below.refl _ _).drew
      have HC : Hid (∀ w', AtD w P bad turn deep { t with waits := .slice x1 1 y1, note := .slice none 0 0, mark := .slice none 0 0, due := .slice none 0 0 } w' → w'.cell? ⟨P, 16, none⟩ = some (.slice none 0 0)) := fun w' h => h.book.cell 16 _ rfl
      have HC2 : Hid (∀ w', AtD w P bad turn deep { t with waits := .slice x1 1 y1, note := .slice none 0 0, mark := .slice none 0 0, due := .slice none 0 0 } w' → w'.cell? ⟨g3, 0, none⟩ = some (.slice ca cn cc)) := fun w' h => (HRow.out _ _ h).2.1
      refine wp_region_T (fun w' => w'.cell? ⟨g3, 0, none⟩ = some (.slice ca cn cc)) (fun w' => w'.cell? ⟨P, 16, none⟩ = some (.slice none 0 0)) [13] (by kernel_rfl) ⟨HC2.out _ HAv.out, HC.out _ HAv.out⟩ (fun hHeld => ?_)
      clear pw r15 s15 HB1 HB2 HB3 HR1 HS1 HAu hV1 hX1
      generalize X1.drew = U2 at HAv HRv hHeld ⊢
      refine wpAnyT_takeB (i := 0) (oi := ⟨some 74, .move (.tmp 0), _, _, _, _⟩) (v := ?vR13c1x0) rfl (by kernel_rfl) (by kernel_rfl) (by kernel_rfl) (by kernel_rfl) (fun _ _ _ h => h) (Or.inl ⟨by rfl, ?hyR13c1x0⟩) (by assumption) ?restR13c1x0
      case hyR13c1x0 => (intro w hSw; (try dsimp only at hSw); go_simp; try (with_reducible rfl))
      try simp only [Act.put, List.setIfInBounds_toArray, List.set_cons_zero, List.set_cons_succ]
      refine wpAnyT_takeB (i := 1) (oi := ⟨some 75, .move (.tmp 0), _, _, _, _⟩) (v := ?vR13c1x1) rfl (by kernel_rfl) (by kernel_rfl) (by kernel_rfl) (by kernel_rfl) (fun _ _ _ h => h) (Or.inl ⟨by rfl, ?hyR13c1x1⟩) (by assumption) ?restR13c1x1
      case hyR13c1x1 => (intro w hSw; (try dsimp only at hSw); go_simp; try (with_reducible rfl))
      try simp only [Act.put, List.setIfInBounds_toArray, List.set_cons_zero, List.set_cons_succ]
      refine wpAnyT_takeB (i := 2) (oi := ⟨some 76, .nilCheck (.tmp 75), _, _, _, _⟩) (v := ?vR13c1x2) rfl (by kernel_rfl) (by kernel_rfl) (by kernel_rfl) (by kernel_rfl) (fun _ _ _ h => h) (Or.inl ⟨by rfl, ?hyR13c1x2⟩) (by assumption) ?restR13c1x2
      case hyR13c1x2 => (intro w hSw; (try dsimp only at hSw); go_simp; try (with_reducible rfl))
      try simp only [Act.put, List.setIfInBounds_toArray, List.set_cons_zero, List.set_cons_succ]
      refine wpAnyT_takeB (i := 3) (oi := ⟨some 77, .fieldAddr 40 (.tmp 76) 16, _, _, _, _⟩) (v := ?vR13c1x3) rfl (by kernel_rfl) (by kernel_rfl) (by kernel_rfl) (by kernel_rfl) (fun _ _ _ h => h) (Or.inl ⟨by rfl, ?hyR13c1x3⟩) (by assumption) ?restR13c1x3
      case hyR13c1x3 => (intro w hSw; (try dsimp only at hSw); go_simp; try (with_reducible rfl))
      try simp only [Act.put, List.setIfInBounds_toArray, List.set_cons_zero, List.set_cons_succ]
      refine wpAnyT_take (i := 4) (oi := ⟨some 78, .load 25 (.tmp 77), _, _, _, _⟩) (v := ?vR13c1x4) rfl (by kernel_rfl) (by kernel_rfl) (by kernel_rfl) (by kernel_rfl) (by kernel_rfl) (fun _ _ _ h => h) (Or.inl ⟨by rfl, ?hyR13c1x4⟩) (by assumption) ?restR13c1x4
      case hyR13c1x4 => (intro w hSw; (try dsimp only at hSw); go_simp; try (with_reducible rfl))
      try simp only [Act.put, List.setIfInBounds_toArray, List.set_cons_zero, List.set_cons_succ]
      refine wpAnyT_takeB (i := 5) (oi := ⟨some 79, .move (.tmp 3), _, _, _, _⟩) (v := ?vR13c1x5) rfl (by kernel_rfl) (by kernel_rfl) (by kernel_rfl) (by kernel_rfl) (fun _ _ _ h => h) (Or.inl ⟨by rfl, ?hyR13c1x5⟩) (by assumption) ?restR13c1x5
      case hyR13c1x5 => (intro w hSw; (try dsimp only at hSw); go_simp; try (with_reducible rfl))
      try simp only [Act.put, List.setIfInBounds_toArray, List.set_cons_zero, List.set_cons_succ]
      refine wpAnyT_takeB (i := 6) (oi := ⟨some 80, .move (.tmp 6), _, _, _, _⟩) (v := ?vR13c1x6) rfl (by kernel_rfl) (by kernel_rfl) (by kernel_rfl) (by kernel_rfl) (fun _ _ _ h => h) (Or.inl ⟨by rfl, ?hyR13c1x6⟩) (by assumption) ?restR13c1x6
      case hyR13c1x6 => (intro w hSw; (try dsimp only at hSw); go_simp; try (with_reducible rfl))
      try simp only [Act.put, List.setIfInBounds_toArray, List.set_cons_zero, List.set_cons_succ]
      refine wpAnyT_takeB (i := 7) (oi := ⟨some 81, .indexAddr 25 (.tmp 79) (.tmp 80), _, _, _, _⟩) (v := ?vR13c1x7) rfl (by kernel_rfl) (by kernel_rfl) (by kernel_rfl) (by kernel_rfl) (fun _ _ _ h => h) (Or.inl ⟨by rfl, ?hyR13c1x7⟩) (by assumption) ?restR13c1x7
      case hyR13c1x7 => (intro w hSw; (try dsimp only at hSw); go_simp; try (with_reducible rfl))
      try simp only [Act.put, List.setIfInBounds_toArray, List.set_cons_zero, List.set_cons_succ]
      refine wpAnyT_takeB (i := 8) (oi := ⟨some 82, .load 41 (.tmp 81), _, _, _, _⟩) (v := ?vR13c1x8) rfl (by kernel_rfl) (by kernel_rfl) (by kernel_rfl) (by kernel_rfl) (fun _ _ _ h => h) (Or.inl ⟨by rfl, ?hyR13c1x8⟩) (by assumption) ?restR13c1x8
      case hyR13c1x8 => (intro w hSw; (try dsimp only at hSw); go_simp; try (with_reducible rfl))
      try simp only [Act.put, List.setIfInBounds_toArray, List.set_cons_zero, List.set_cons_succ]
      refine wpAnyT_one (i := 9) (o := ⟨some 83, .buildSlice 25 1 #[(0, (.tmp 82))], _, _, _, _⟩) (by kernel_rfl) rfl (fun K hK => ?_)
      go_simp
      obtain ⟨V2, hV2⟩ : ∃ V, U2.alloc (.cells #[.slice ca cn cc] 41) = V := ⟨_, rfl⟩
      have hb : RowKit.Below U2.heap.size U2 V2 := by rw [← hV2]; exact (Below.refl _ _).alloc (Nat.le_refl _) _
      have HS2 : Hid (SrcAt V2 (.slice (some ⟨U2.heap.size, 0, none⟩) 1 1) 1 1 [.slice ca cn cc]) := src_one (t := 41) (by rw [← hV2]; exact World.alloc_heap_new U2 _) rfl
      rw [hV2]
      have HB4 : Hid (AtD w P bad turn deep { t with waits := .slice x1 1 y1, note := .slice none 0 0, mark := .slice none 0 0, due := .slice none 0 0 } V2) := HAv.out.below hb
      have HR4 : Hid (V2.ownsRow w.heap.size 41 1 (.slice x1 1 y1) 1 [.slice la ln lc]) := own_next HRv.out hb
      clear hb hV2
      refine hK.out _ _ ⟨HC2.out _ HB4.out, fun _ => HC.out _ HB4.out⟩ ?_
      have hHeld := (⟨HC2.out _ HB4.out, HC.out _ HB4.out⟩ : _ ∧ _)
      clear hK K
      try simp only [Act.put, List.setIfInBounds_toArray, List.set_cons_zero, List.set_cons_succ]
      refine wpAnyT_one (i := 10) (o := ⟨some 84, .call { callee := .builtin .append, args := #[(.tmp 78), (.tmp 83)], argTypes := #[25, 25] }, _, _, _, _⟩) (by kernel_rfl) rfl (fun K hK => ?_)
      refine op_append_src V2 (.tmp 78) (.tmp 83) 25 41 (.slice none 0 0) 1 24 rfl und25' info41' rfl (by decide) w.heap.size _ _ 0 1 [] _ (by rfl) (by rfl) (own_nil _ _ _) HS2.out (by unfold maxLen; omega) (by omega) HB4.out.rest.size (by rfl) ?_
      intro v2 w2 g1' g2' _
      have hb := below_none g2'
      have HB5 : Hid (AtD w P bad turn deep { t with waits := .slice x1 1 y1, note := .slice none 0 0, mark := .slice none 0 0, due := .slice none 0 0 } w2) := HB4.out.below hb
      have HR5 : Hid (w2.ownsRow w.heap.size 41 1 (.slice x1 1 y1) 1 [.slice la ln lc] ∧ w2.ownsRow w.heap.size 41 1 v2 1 [.slice ca cn cc]) := ⟨own_next HR4.out hb, g1'⟩
      obtain ⟨x2, y2, hv⟩ := own_form g1'
      rw [Nat.zero_add] at hv
      subst hv
      clear g1' g2' hb
      refine hK.out _ _ ⟨HC2.out _ HB5.out, fun _ => HC.out _ HB5.out⟩ ?_
      have hHeld := (⟨HC2.out _ HB5.out, HC.out _ HB5.out⟩ : _ ∧ _)
      clear hK K
      try simp only [Act.put, List.setIfInBounds_toArray, List.set_cons_zero, List.set_cons_succ]
      refine wpAnyT_takeB (i := 11) (oi := ⟨some 85, .nilCheck (.tmp 74), _, _, _, _⟩) (v := ?vR13c1x11) rfl (by kernel_rfl) (by kernel_rfl) (by kernel_rfl) (by kernel_rfl) (fun _ _ _ h => h) (Or.inl ⟨by rfl, ?hyR13c1x11⟩) (by assumption) ?restR13c1x11
      case hyR13c1x11 => (intro w hSw; (try dsimp only at hSw); go_simp; try (with_reducible rfl))
      try simp only [Act.put, List.setIfInBounds_toArray, List.set_cons_zero, List.set_cons_succ]
      refine wpAnyT_takeB (i := 12) (oi := ⟨some 86, .fieldAddr 40 (.tmp 85) 16, _, _, _, _⟩) (v := ?vR13c1x12) rfl (by kernel_rfl) (by kernel_rfl) (by kernel_rfl) (by kernel_rfl) (fun _ _ _ h => h) (Or.inl ⟨by rfl, ?hyR13c1x12⟩) (by assumption) ?restR13c1x12
      case hyR13c1x12 => (intro w hSw; (try dsimp only at hSw); go_simp; try (with_reducible rfl))
      try simp only [Act.put, List.setIfInBounds_toArray, List.set_cons_zero, List.set_cons_succ]
      have r16 := HC.out _ HB5.out
      have s16 := HB5.out.book.free 16
      obtain ⟨X2, hX2⟩ : ∃ W, w2.setCell ⟨P, 16, none⟩ (.slice x2 1 y2) = W := ⟨_, rfl⟩
      have HB6 : Hid (AtD w P bad turn deep { t with waits := .slice x1 1 y1, note := .slice x2 1 y2, mark := .slice none 0 0, due := .slice none 0 0 } X2) := hX2 ▸ HB5.out.set 16 _ rfl
      have HR6 : Hid (X2.ownsRow w.heap.size 41 1 (.slice x1 1 y1) 1 [.slice la ln lc] ∧ X2.ownsRow w.heap.size 41 1 (.slice x2 1 y2) 1 [.slice ca cn cc]) := ⟨hX2 ▸ own_set HR5.out.1 HPl.out 16 _, hX2 ▸ own_set HR5.out.2 HPl.out 16 _⟩
      have hs2 := (HRow.out _ _ HB6.out).2.1
      refine wpAnyT_late (i := 13) (o := ⟨none, .store 25 (.tmp 86) (.tmp 84), _, _, _, _⟩) (by kernel_rfl) rfl (by kernel_rfl) (fun Kq hK => ?_)
      go_simp
      try rw [hX2]
      refine hK.out _ _ hs2 ?_
      clear hK Kq r16 s16 HB5 HR5 HB4 HR4 HS2 HAv HRv HC HC2 hHeld hX2 hs2
      try simp only [Act.put, List.setIfInBounds_toArray, List.set_cons_zero, List.set_cons_succ]
      refine wpAnyT_done (by kernel_rfl) ?_ _
      have t18 : X2.cell? ⟨P, 18, none⟩ = some (.slice none 0 0) := HB6.out.book.cell 18 _ rfl
      obtain ⟨V4, hV4⟩ : ∃ V, X2.alloc (.cells #[.int .i64 m] 3) = V := ⟨_, rfl⟩
      have hb4 : RowKit.Below X2.heap.size X2 V4 := by rw [← hV4]; exact (Below.refl _ _).alloc (Nat.le_refl _) _
      have HS4 : Hid (SrcAt V4 (.slice (some ⟨X2.heap.size, 0, none⟩) 1 1) 1 1 [.int .i64 m]) := src_one (t := 3) (by rw [← hV4]; exact World.alloc_heap_new X2 _) rfl
      have HB7 : Hid (AtD w P bad turn deep { t with waits := .slice x1 1 y1, note := .slice x2 1 y2, mark := .slice none 0 0, due := .slice none 0 0 } V4) := HB6.out.below hb4
      have HR7 : Hid (V4.ownsRow w.heap.size 41 1 (.slice x1 1 y1) 1 [.slice la ln lc] ∧ V4.ownsRow w.heap.size 41 1 (.slice x2 1 y2) 1 [.slice ca cn cc]) := ⟨own_next HR6.out.1 hb4, own_next HR6.out.2 hb4⟩
      clear hb4
      go_wp2_with (first | (at_builtin; first | rw [hV4] | skip); (refine append_src V4 rfl (.tmp 91) (.tmp 93) 24 3 (.int .i64 0) 1 8 rfl und24' info3' rfl (by decide) w.heap.size _ _ 0 1 [] _ (by rfl) (by rfl) (own_nil _ _ _) HS4.out (by unfold maxLen; omega) (by omega) HB7.out.rest.size ?_; intro v5 w5 g1' g2' _; have hb := below_none g2'; have HB8 : Hid (AtD w P bad turn deep { t with waits := .slice x1 1 y1, note := .slice x2 1 y2, mark := .slice none 0 0, due := .slice none 0 0 } w5) := HB7.out.below hb; have HR8 : Hid ((w5.ownsRow w.heap.size 41 1 (.slice x1 1 y1) 1 [.slice la ln lc] ∧ w5.ownsRow w.heap.size 41 1 (.slice x2 1 y2) 1 [.slice ca cn cc]) ∧ w5.ownsRow w.heap.size 3 1 v5 1 [.int .i64 m]) := ⟨⟨own_next HR7.out.1 hb, own_next HR7.out.2 hb⟩, g1'⟩; have r18 : w5.cell? ⟨P, 18, none⟩ = some (.slice none 0 0) := HB8.out.book.cell 18 _ rfl; have s18 := HB8.out.book.free 18; obtain ⟨X5, hX5⟩ : ∃ W, w5.setCell ⟨P, 18, none⟩ v5 = W := ⟨_, rfl⟩; obtain ⟨x3, y3, hv⟩ := own_form HR8.out.2; subst hv; have HB9 : Hid (AtD w P bad turn deep { t with waits := .slice x1 1 y1, note := .slice x2 1 y2, mark := .slice x3 1 y3, due := .slice none 0 0 } X5) := hX5 ▸ HB8.out.set 18 _ rfl; have HR9 : Hid ((X5.ownsRow w.heap.size 41 1 (.slice x1 1 y1) 1 [.slice la ln lc] ∧ X5.ownsRow w.heap.size 41 1 (.slice x2 1 y2) 1 [.slice ca cn cc]) ∧ X5.ownsRow w.heap.size 3 1 (.slice x3 1 y3) 1 [.int .i64 m]) := ⟨⟨hX5 ▸ own_set HR8.out.1.1 HPl.out 18 _, hX5 ▸ own_set HR8.out.1.2 HPl.out 18 _⟩, hX5 ▸ own_set HR8.out.2 HPl.out 18 _⟩; clear g1' g2' hb))
      have HAv : Hid (AtD w P bad turn deep { t with waits := .slice x1 1 y1, note := .slice x2 1 y2, mark := .slice x3 1 y3, due := .slice none 0 0 } X5.drew) := HB9.out.below (Below.refl _ _).drew
      have HRv : Hid ((X5.drew.ownsRow w.heap.size 41 1 (.slice x1 1 y1) 1 [.slice la ln lc] ∧ X5.drew.ownsRow w.heap.size 41 1 (.slice x2 1 y2) 1 [.slice ca cn cc]) ∧ X5.drew.ownsRow w.heap.size 3 1 (.slice x3 1 y3) 1 [.int .i64 m]) := ⟨⟨own_next HR9.out.1.1 (Below.refl _ _).drew, own_next HR9.out.1.2 (Below.refl _ _).drew⟩, own_next HR9.out.2 (Below.refl _ _).drew⟩
      have HC : Hid (∀ w', AtD w P bad turn deep { t with waits := .slice x1 1 y1, note := .slice x2 1 y2, mark := .slice x3 1 y3, due := .slice none 0 0 } w' → w'.cell? ⟨P, 19, none⟩ = some (.slice none 0 0)) := fun w' h => h.book.cell 19 _ rfl
      have HC2 : Hid (∀ w', AtD w P bad turn deep { t with waits := .slice x1 1 y1, note := .slice x2 1 y2, mark := .slice x3 1 y3, due := .slice none 0 0 } w' → w'.cell? ⟨g6, 0, none⟩ = some (.int .i64 d)) := fun w' h => (HRow.out _ _ h).2.2.2
      refine wp_region_T (fun w' => w'.cell? ⟨g6, 0, none⟩ = some (.int .i64 d)) (fun w' => w'.cell? ⟨P, 19, none⟩ = some (.slice none 0 0)) [13] (by kernel_rfl) ⟨HC2.out _ HAv.out, HC.out _ HAv.out⟩ (fun hHeld => ?_)
      clear t18 r18 s18 HB7 HB8 HB9 HR7 HR8 HR9 HS4 HB6 HR6 hV4 hX5
      generalize X5.drew = U5 at HAv HRv hHeld ⊢
      refine wpAnyT_takeB (i := 0) (oi := ⟨some 97, .move (.tmp 0), _, _, _, _⟩) (v := ?vR15c2x0) rfl (by kernel_rfl) (by kernel_rfl) (by kernel_rfl) (by kernel_rfl) (fun _ _ _ h => h) (Or.inl ⟨by rfl, ?hyR15c2x0⟩) (by assumption) ?restR15c2x0
      case hyR15c2x0 => (intro w hSw; (try dsimp only at hSw); go_simp; try (with_reducible rfl))
      try simp only [Act.put, List.setIfInBounds_toArray, List.set_cons_zero, List.set_cons_succ]
      refine wpAnyT_takeB (i := 1) (oi := ⟨some 98, .move (.tmp 0), _, _, _, _⟩) (v := ?vR15c2x1) rfl (by kernel_rfl) (by kernel_rfl) (by kernel_rfl) (by kernel_rfl) (fun _ _ _ h => h) (Or.inl ⟨by rfl, ?hyR15c2x1⟩) (by assumption) ?restR15c2x1
      case hyR15c2x1 => (intro w hSw; (try dsimp only at hSw); go_simp; try (with_reducible rfl))
      try simp only [Act.put, List.setIfInBounds_toArray, List.set_cons_zero, List.set_cons_succ]
      refine wpAnyT_takeB (i := 2) (oi := ⟨some 99, .nilCheck (.tmp 98), _, _, _, _⟩) (v := ?vR15c2x2) rfl (by kernel_rfl) (by kernel_rfl) (by kernel_rfl) (by kernel_rfl) (fun _ _ _ h => h) (Or.inl ⟨by rfl, ?hyR15c2x2⟩) (by assumption) ?restR15c2x2
      case hyR15c2x2 => (intro w hSw; (try dsimp only at hSw); go_simp; try (with_reducible rfl))
      try simp only [Act.put, List.setIfInBounds_toArray, List.set_cons_zero, List.set_cons_succ]
      refine wpAnyT_takeB (i := 3) (oi := ⟨some 100, .fieldAddr 40 (.tmp 99) 19, _, _, _, _⟩) (v := ?vR15c2x3) rfl (by kernel_rfl) (by kernel_rfl) (by kernel_rfl) (by kernel_rfl) (fun _ _ _ h => h) (Or.inl ⟨by rfl, ?hyR15c2x3⟩) (by assumption) ?restR15c2x3
      case hyR15c2x3 => (intro w hSw; (try dsimp only at hSw); go_simp; try (with_reducible rfl))
      try simp only [Act.put, List.setIfInBounds_toArray, List.set_cons_zero, List.set_cons_succ]
      refine wpAnyT_take (i := 4) (oi := ⟨some 101, .load 24 (.tmp 100), _, _, _, _⟩) (v := ?vR15c2x4) rfl (by kernel_rfl) (by kernel_rfl) (by kernel_rfl) (by kernel_rfl) (by kernel_rfl) (fun _ _ _ h => h) (Or.inl ⟨by rfl, ?hyR15c2x4⟩) (by assumption) ?restR15c2x4
      case hyR15c2x4 => (intro w hSw; (try dsimp only at hSw); go_simp; try (with_reducible rfl))
      try simp only [Act.put, List.setIfInBounds_toArray, List.set_cons_zero, List.set_cons_succ]
      refine wpAnyT_takeB (i := 5) (oi := ⟨some 102, .move (.tmp 5), _, _, _, _⟩) (v := ?vR15c2x5) rfl (by kernel_rfl) (by kernel_rfl) (by kernel_rfl) (by kernel_rfl) (fun _ _ _ h => h) (Or.inl ⟨by rfl, ?hyR15c2x5⟩) (by assumption) ?restR15c2x5
      case hyR15c2x5 => (intro w hSw; (try dsimp only at hSw); go_simp; try (with_reducible rfl))
      try simp only [Act.put, List.setIfInBounds_toArray, List.set_cons_zero, List.set_cons_succ]
      refine wpAnyT_takeB (i := 6) (oi := ⟨some 103, .move (.tmp 6), _, _, _, _⟩) (v := ?vR15c2x6) rfl (by kernel_rfl) (by kernel_rfl) (by kernel_rfl) (by kernel_rfl) (fun _ _ _ h => h) (Or.inl ⟨by rfl, ?hyR15c2x6⟩) (by assumption) ?restR15c2x6
      case hyR15c2x6 => (intro w hSw; (try dsimp only at hSw); go_simp; try (with_reducible rfl))
      try simp only [Act.put, List.setIfInBounds_toArray, List.set_cons_zero, List.set_cons_succ]
      refine wpAnyT_takeB (i := 7) (oi := ⟨some 104, .indexAddr 24 (.tmp 102) (.tmp 103), _, _, _, _⟩) (v := ?vR15c2x7) rfl (by kernel_rfl) (by kernel_rfl) (by kernel_rfl) (by kernel_rfl) (fun _ _ _ h => h) (Or.inl ⟨by rfl, ?hyR15c2x7⟩) (by assumption) ?restR15c2x7
      case hyR15c2x7 => (intro w hSw; (try dsimp only at hSw); go_simp; try (with_reducible rfl))
      try simp only [Act.put, List.setIfInBounds_toArray, List.set_cons_zero, List.set_cons_succ]
      refine wpAnyT_takeB (i := 8) (oi := ⟨some 105, .load 3 (.tmp 104), _, _, _, _⟩) (v := ?vR15c2x8) rfl (by kernel_rfl) (by kernel_rfl) (by kernel_rfl) (by kernel_rfl) (fun _ _ _ h => h) (Or.inl ⟨by rfl, ?hyR15c2x8⟩) (by assumption) ?restR15c2x8
      case hyR15c2x8 => (intro w hSw; (try dsimp only at hSw); go_simp; try (with_reducible rfl))
      try simp only [Act.put, List.setIfInBounds_toArray, List.set_cons_zero, List.set_cons_succ]
      refine wpAnyT_one (i := 9) (o := ⟨some 106, .buildSlice 24 1 #[(0, (.tmp 105))], _, _, _, _⟩) (by kernel_rfl) rfl (fun K hK => ?_)
      go_simp
      obtain ⟨V6, hV6⟩ : ∃ V, U5.alloc (.cells #[.int .i64 d] 3) = V := ⟨_, rfl⟩
      have hb : RowKit.Below U5.heap.size U5 V6 := by rw [← hV6]; exact (Below.refl _ _).alloc (Nat.le_refl _) _
      have HS6 : Hid (SrcAt V6 (.slice (some ⟨U5.heap.size, 0, none⟩) 1 1) 1 1 [.int .i64 d]) := src_one (t := 3) (by rw [← hV6]; exact World.alloc_heap_new U5 _) rfl
      rw [hV6]
      have HB4 : Hid (AtD w P bad turn deep { t with waits := .slice x1 1 y1, note := .slice x2 1 y2, mark := .slice x3 1 y3, due := .slice none 0 0 } V6) := HAv.out.below hb
      have HR4 : Hid ((V6.ownsRow w.heap.size 41 1 (.slice x1 1 y1) 1 [.slice la ln lc] ∧ V6.ownsRow w.heap.size 41 1 (.slice x2 1 y2) 1 [.slice ca cn cc]) ∧ V6.ownsRow w.heap.size 3 1 (.slice x3 1 y3) 1 [.int .i64 m]) := ⟨⟨own_next HRv.out.1.1 hb, own_next HRv.out.1.2 hb⟩, own_next HRv.out.2 hb⟩
      clear hb hV6
      refine hK.out _ _ ⟨HC2.out _ HB4.out, fun _ => HC.out _ HB4.out⟩ ?_
      have hHeld := (⟨HC2.out _ HB4.out, HC.out _ HB4.out⟩ : _ ∧ _)
      clear hK K
      try simp only [Act.put, List.setIfInBounds_toArray, List.set_cons_zero, List.set_cons_succ]
      refine wpAnyT_one (i := 10) (o := ⟨some 107, .call { callee := .builtin .append, args := #[(.tmp 101), (.tmp 106)], argTypes := #[24, 24] }, _, _, _, _⟩) (by kernel_rfl) rfl (fun K hK => ?_)
      refine op_append_src V6 (.tmp 101) (.tmp 106) 24 3 (.int .i64 0) 1 8 rfl und24' info3' rfl (by decide) w.heap.size _ _ 0 1 [] _ (by rfl) (by rfl) (own_nil _ _ _) HS6.out (by unfold maxLen; omega) (by omega) HB4.out.rest.size (by rfl) ?_
      intro v7 w7 g1' g2' _
      have hb := below_none g2'
      have HB5 : Hid (AtD w P bad turn deep { t with waits := .slice x1 1 y1, note := .slice x2 1 y2, mark := .slice x3 1 y3, due := .slice none 0 0 } w7) := HB4.out.below hb
      have HR5 : Hid (((w7.ownsRow w.heap.size 41 1 (.slice x1 1 y1) 1 [.slice la ln lc] ∧ w7.ownsRow w.heap.size 41 1 (.slice x2 1 y2) 1 [.slice ca cn cc]) ∧ w7.ownsRow w.heap.size 3 1 (.slice x3 1 y3) 1 [.int .i64 m]) ∧ w7.ownsRow w.heap.size 3 1 v7 1 [.int .i64 d]) := ⟨⟨⟨own_next HR4.out.1.1 hb, own_next HR4.out.1.2 hb⟩, own_next HR4.out.2 hb⟩, g1'⟩
      obtain ⟨x4, y4, hv⟩ := own_form g1'
      rw [Nat.zero_add] at hv
      subst hv
      clear g1' g2' hb
      refine hK.out _ _ ⟨HC2.out _ HB5.out, fun _ => HC.out _ HB5.out⟩ ?_
      have hHeld := (⟨HC2.out _ HB5.out, HC.out _ HB5.out⟩ : _ ∧ _)
      clear hK K
      try simp only [Act.put, List.setIfInBounds_toArray, List.set_cons_zero, List.set_cons_succ]
      refine wpAnyT_takeB (i := 11) (oi := ⟨some 108, .nilCheck (.tmp 97), _, _, _, _⟩) (v := ?vR15c2x11) rfl (by kernel_rfl) (by kernel_rfl) (by kernel_rfl) (by kernel_rfl) (fun _ _ _ h => h) (Or.inl ⟨by rfl, ?hyR15c2x11⟩) (by assumption) ?restR15c2x11
      case hyR15c2x11 => (intro w hSw; (try dsimp only at hSw); go_simp; try (with_reducible rfl))
      try simp only [Act.put, List.setIfInBounds_toArray, List.set_cons_zero, List.set_cons_succ]
      refine wpAnyT_takeB (i := 12) (oi := ⟨some 109, .fieldAddr 40 (.tmp 108) 19, _, _, _, _⟩) (v := ?vR15c2x12) rfl (by kernel_rfl) (by kernel_rfl) (by kernel_rfl) (by kernel_rfl) (fun _ _ _ h => h) (Or.inl ⟨by rfl, ?hyR15c2x12⟩) (by assumption) ?restR15c2x12
      case hyR15c2x12 => (intro w hSw; (try dsimp only at hSw); go_simp; try (with_reducible rfl))
      try simp only [Act.put, List.setIfInBounds_toArray, List.set_cons_zero, List.set_cons_succ]
      have r19 := HC.out _ HB5.out
      have s19 := HB5.out.book.free 19
      obtain ⟨X7, hX7⟩ : ∃ W, w7.setCell ⟨P, 19, none⟩ (.slice x4 1 y4) = W := ⟨_, rfl⟩
      have HB6 : Hid (AtD w P bad turn deep { t with waits := .slice x1 1 y1, note := .slice x2 1 y2, mark := .slice x3 1 y3, due := .slice x4 1 y4 } X7) := hX7 ▸ HB5.out.set 19 _ rfl
      have HEnd : Hid (∃ t', Waiting w P bad turn deep t (.slice la ln lc) (.slice ca cn cc) m d X7 t') := ⟨{ t with waits := .slice x1 1 y1, note := .slice x2 1 y2, mark := .slice x3 1 y3, due := .slice x4 1 y4 }, HB6.out, ⟨rfl, rfl, rfl, rfl, rfl⟩, hX7 ▸ own_set HR5.out.1.1.1 HPl.out 19 _, hX7 ▸ own_set HR5.out.1.1.2 HPl.out 19 _, hX7 ▸ own_set HR5.out.1.2 HPl.out 19 _, hX7 ▸ own_set HR5.out.2 HPl.out 19 _⟩
      have hs2 := (HRow.out _ _ HB6.out).2.2.2
      refine wpAnyT_late (i := 13) (o := ⟨none, .store 24 (.tmp 109) (.tmp 107), _, _, _, _⟩) (by kernel_rfl) rfl (by kernel_rfl) (fun Kq hK => ?_)
      go_simp
      try rw [hX7]
      refine hK.out _ _ hs2 ?_
      clear hK Kq r19 s19 HB5 HR5 HB4 HR4 HS6 HAv HRv HC HC2 hHeld hX7 hs2
      try simp only [Act.put, List.setIfInBounds_toArray, List.set_cons_zero, List.set_cons_succ]
      refine wpAnyT_done (by kernel_rfl) ?_ _
      go_wp2_with fail
      go_roundw
      case rel => exact .inr ⟨rfl, HEnd⟩
      case measure => simp [intOf]
    · go_wp2_with fail
      go_end0
      exact ⟨rfl, hF.out⟩
end Go.Proofs.YtpmiplhbppmboaaDoor
