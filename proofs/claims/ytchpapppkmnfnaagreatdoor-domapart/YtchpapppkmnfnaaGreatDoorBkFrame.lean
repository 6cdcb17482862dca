/-
  The book's frame: marks, grows, Hold, done, due.
-/
import Derived.Test.YtchpapppkmnfnaaGreatDoorBkNone
namespace Go.Proofs.YtchpapppkmnfnaaGreatDoor
open Go Go.RowKit Go.Lib

theorem calls_at {P : Program} {f : FuncId} {args args' : Array Value} {w w' : World} {Q Q' : Ending → World → Prop} (h : Calls P f args w Q) (e : args' = args) (ew : w' = w) (hm : ∀ e w', Q e w' → Q' e w') : Calls P f args' w' Q' := by
  subst e
  subst ew
  exact h.mono hm

set_option maxRecDepth 100000 in
set_option maxHeartbeats 4000000 in
theorem marks_any (P : Nat) (bad : Bool) (turn deep : Int) (t : Tx) (w : World) (h : BkAt w P bad turn deep t) (R : World → Prop) (hT : Calls Tryz.prog 128 #[.pointer (some ⟨P, 0, none⟩)] w fun e w' => e = .returned (.tuple #[]) ∧ (∃ bad' t', BkAt w' P bad' turn deep t') ∧ R w') :
    Calls Tryz.prog 81 #[.pointer (some ⟨P, 0, none⟩)] w fun e w' => e = .returned (.tuple #[]) ∧ R w' := by
  have HB : Hid (BkAt w P bad turn deep t) := h
  have HT : Hid (Calls Tryz.prog 128 #[.pointer (some ⟨P, 0, none⟩)] w fun e w' => e = .returned (.tuple #[]) ∧ (∃ bad' t', BkAt w' P bad' turn deep t') ∧ R w') := hT
  clear h hT
  go_enter Tryz.func81, Tryz.ntmps81
  go_wp2_with (first
    | (go_at_call 128; refine calls_at HT.out (by with_reducible rfl) (by with_reducible rfl) ?_; rintro e w2 ⟨rfl, ⟨bad2, t2, hb2⟩, hR⟩; have HB2 : Hid (BkAt w2 P bad2 turn deep t2) := hb2; have HR : Hid (R w2) := hR; clear hb2 hR)
    | (go_at_call 129; refine calls_at (markTexts_none P bad2 turn deep t2 w2 HB2.out) (by with_reducible rfl) (by with_reducible rfl) ?_; rintro e wq ⟨rfl, hwq⟩; rw [hwq]; clear hwq)
    | (go_at_call 130; refine calls_at (markTerms_none P bad2 turn deep t2 w2 HB2.out) (by with_reducible rfl) (by with_reducible rfl) ?_; rintro e wq ⟨rfl, hwq⟩; rw [hwq]; clear hwq)
    | (go_at_call 131; refine calls_at (markVars_none P bad2 turn deep t2 w2 HB2.out) (by with_reducible rfl) (by with_reducible rfl) ?_; rintro e wq ⟨rfl, hwq⟩; rw [hwq]; clear hwq)
    | (go_at_call 132; refine calls_at (markPieces_none P bad2 turn deep t2 w2 HB2.out) (by with_reducible rfl) (by with_reducible rfl) ?_; rintro e wq ⟨rfl, hwq⟩; rw [hwq]; clear hwq)
    | (go_at_call 133; refine calls_at (markOps_none P bad2 turn deep t2 w2 HB2.out) (by with_reducible rfl) (by with_reducible rfl) ?_; rintro e wq ⟨rfl, hwq⟩; rw [hwq]; clear hwq)
    | (go_at_call 134; refine calls_at (markCuts_none P bad2 turn deep t2 w2 HB2.out) (by with_reducible rfl) (by with_reducible rfl) ?_; rintro e wq ⟨rfl, hwq⟩; rw [hwq]; clear hwq)
    | (go_at_call 135; refine calls_at (markMeans_none P bad2 turn deep t2 w2 HB2.out) (by with_reducible rfl) (by with_reducible rfl) ?_; rintro e wq ⟨rfl, hwq⟩; rw [hwq]; clear hwq)
    | (go_at_call 136; refine calls_at (markLists_none P bad2 turn deep t2 w2 HB2.out) (by with_reducible rfl) (by with_reducible rfl) ?_; rintro e wq ⟨rfl, hwq⟩; rw [hwq]; clear hwq)
    | (go_at_call 137; refine calls_at (markCons_none P bad2 turn deep t2 w2 HB2.out) (by with_reducible rfl) (by with_reducible rfl) ?_; rintro e wq ⟨rfl, hwq⟩; rw [hwq]; clear hwq)
    | (go_at_call 138; refine calls_at (markRows_none P bad2 turn deep t2 w2 HB2.out) (by with_reducible rfl) (by with_reducible rfl) ?_; rintro e wq ⟨rfl, hwq⟩; rw [hwq]; clear hwq)
    | (go_at_call 139; refine calls_at (markSteps_none P bad2 turn deep t2 w2 HB2.out) (by with_reducible rfl) (by with_reducible rfl) ?_; rintro e wq ⟨rfl, hwq⟩; rw [hwq]; clear hwq)
    | (go_at_call 140; refine calls_at (markHalls_none P bad2 turn deep t2 w2 HB2.out) (by with_reducible rfl) (by with_reducible rfl) ?_; rintro e wq ⟨rfl, hwq⟩; rw [hwq]; clear hwq)
    | (go_at_call 141; refine calls_at (markCauses_none P bad2 turn deep t2 w2 HB2.out) (by with_reducible rfl) (by with_reducible rfl) ?_; rintro e wq ⟨rfl, hwq⟩; rw [hwq]; clear hwq)
    | (go_at_call 142; refine calls_at (markActs_none P bad2 turn deep t2 w2 HB2.out) (by with_reducible rfl) (by with_reducible rfl) ?_; rintro e wq ⟨rfl, hwq⟩; rw [hwq]; clear hwq))
  go_end0
  exact ⟨rfl, HR.out⟩

set_option maxRecDepth 100000 in
set_option maxHeartbeats 4000000 in
theorem grows_any (P : Nat) (bad : Bool) (turn deep : Int) (t : Tx) (w : World) (h : BkAt w P bad turn deep t) (R : World → Prop) (hT : Calls Tryz.prog 143 #[.pointer (some ⟨P, 0, none⟩)] w fun e w' => e = .returned (.tuple #[]) ∧ (∃ bad' t', BkAt w' P bad' turn deep t') ∧ R w') :
    Calls Tryz.prog 82 #[.pointer (some ⟨P, 0, none⟩)] w fun e w' => e = .returned (.tuple #[]) ∧ R w' := by
  have HB : Hid (BkAt w P bad turn deep t) := h
  have HT : Hid (Calls Tryz.prog 143 #[.pointer (some ⟨P, 0, none⟩)] w fun e w' => e = .returned (.tuple #[]) ∧ (∃ bad' t', BkAt w' P bad' turn deep t') ∧ R w') := hT
  clear h hT
  go_enter Tryz.func82, Tryz.ntmps82
  go_wp2_with (first
    | (go_at_call 143; refine calls_at HT.out (by with_reducible rfl) (by with_reducible rfl) ?_; rintro e w2 ⟨rfl, ⟨bad2, t2, hb2⟩, hR⟩; have HB2 : Hid (BkAt w2 P bad2 turn deep t2) := hb2; have HR : Hid (R w2) := hR; clear hb2 hR)
    | (go_at_call 144; refine calls_at (growTexts_none P bad2 turn deep t2 w2 HB2.out) (by with_reducible rfl) (by with_reducible rfl) ?_; rintro e wq ⟨rfl, hwq⟩; rw [hwq]; clear hwq)
    | (go_at_call 145; refine calls_at (growTerms_none P bad2 turn deep t2 w2 HB2.out) (by with_reducible rfl) (by with_reducible rfl) ?_; rintro e wq ⟨rfl, hwq⟩; rw [hwq]; clear hwq)
    | (go_at_call 146; refine calls_at (growVars_none P bad2 turn deep t2 w2 HB2.out) (by with_reducible rfl) (by with_reducible rfl) ?_; rintro e wq ⟨rfl, hwq⟩; rw [hwq]; clear hwq)
    | (go_at_call 147; refine calls_at (growPieces_none P bad2 turn deep t2 w2 HB2.out) (by with_reducible rfl) (by with_reducible rfl) ?_; rintro e wq ⟨rfl, hwq⟩; rw [hwq]; clear hwq)
    | (go_at_call 148; refine calls_at (growOps_none P bad2 turn deep t2 w2 HB2.out) (by with_reducible rfl) (by with_reducible rfl) ?_; rintro e wq ⟨rfl, hwq⟩; rw [hwq]; clear hwq)
    | (go_at_call 149; refine calls_at (growCuts_none P bad2 turn deep t2 w2 HB2.out) (by with_reducible rfl) (by with_reducible rfl) ?_; rintro e wq ⟨rfl, hwq⟩; rw [hwq]; clear hwq)
    | (go_at_call 150; refine calls_at (growMeans_none P bad2 turn deep t2 w2 HB2.out) (by with_reducible rfl) (by with_reducible rfl) ?_; rintro e wq ⟨rfl, hwq⟩; rw [hwq]; clear hwq)
    | (go_at_call 151; refine calls_at (growLists_none P bad2 turn deep t2 w2 HB2.out) (by with_reducible rfl) (by with_reducible rfl) ?_; rintro e wq ⟨rfl, hwq⟩; rw [hwq]; clear hwq)
    | (go_at_call 152; refine calls_at (growCons_none P bad2 turn deep t2 w2 HB2.out) (by with_reducible rfl) (by with_reducible rfl) ?_; rintro e wq ⟨rfl, hwq⟩; rw [hwq]; clear hwq)
    | (go_at_call 153; refine calls_at (growRows_none P bad2 turn deep t2 w2 HB2.out) (by with_reducible rfl) (by with_reducible rfl) ?_; rintro e wq ⟨rfl, hwq⟩; rw [hwq]; clear hwq)
    | (go_at_call 154; refine calls_at (growSteps_none P bad2 turn deep t2 w2 HB2.out) (by with_reducible rfl) (by with_reducible rfl) ?_; rintro e wq ⟨rfl, hwq⟩; rw [hwq]; clear hwq)
    | (go_at_call 155; refine calls_at (growHalls_none P bad2 turn deep t2 w2 HB2.out) (by with_reducible rfl) (by with_reducible rfl) ?_; rintro e wq ⟨rfl, hwq⟩; rw [hwq]; clear hwq)
    | (go_at_call 156; refine calls_at (growCauses_none P bad2 turn deep t2 w2 HB2.out) (by with_reducible rfl) (by with_reducible rfl) ?_; rintro e wq ⟨rfl, hwq⟩; rw [hwq]; clear hwq)
    | (go_at_call 157; refine calls_at (growActs_none P bad2 turn deep t2 w2 HB2.out) (by with_reducible rfl) (by with_reducible rfl) ?_; rintro e wq ⟨rfl, hwq⟩; rw [hwq]; clear hwq))
  go_end0
  exact ⟨rfl, HR.out⟩

set_option maxRecDepth 100000 in
set_option maxHeartbeats 4000000 in
theorem book_hold (P : Nat) (turn deep : Int) (t : Tx) (w : World) (h : BkAt w P false turn deep t) (hT : Calls Tryz.prog 44 #[.pointer (some ⟨P, 0, none⟩)] w fun e w' => e = .returned (.bool true) ∧ RowKit.Below w.heap.size w w') :
    Calls Tryz.prog 17 #[.pointer (some ⟨P, 0, none⟩)] w fun e w' => e = .returned (.bool true) ∧ RowKit.Below w.heap.size w w' := by
  have HB : Hid (BkAt w P false turn deep t) := h
  have HT : Hid (Calls Tryz.prog 44 #[.pointer (some ⟨P, 0, none⟩)] w fun e w' => e = .returned (.bool true) ∧ RowKit.Below w.heap.size w w') := hT
  have k1 := h.cell 1 (.bool false) rfl
  clear h hT
  go_enter Tryz.func17, Tryz.ntmps17
  go_wp2_with (first
    | (go_at_call 44; refine calls_at HT.out (by with_reducible rfl) (by with_reducible rfl) ?_; rintro e wf ⟨rfl, hbf⟩; have HBf : Hid (BkAt wf P false turn deep t) := (hbf.block _ (Array.getElem?_eq_some_iff.1 HB.out).1).trans HB.out; have Hbf : Hid (RowKit.Below w.heap.size w wf) := hbf; clear hbf)
    | (go_at_call 45; refine calls_at (holdTexts_none P false turn deep t wf HBf.out) (by with_reducible rfl) (by with_reducible rfl) ?_; rintro e wq ⟨rfl, hwq⟩; rw [hwq]; clear hwq)
    | (go_at_call 46; refine calls_at (holdTerms_none P false turn deep t wf HBf.out) (by with_reducible rfl) (by with_reducible rfl) ?_; rintro e wq ⟨rfl, hwq⟩; rw [hwq]; clear hwq)
    | (go_at_call 47; refine calls_at (holdVars_none P false turn deep t wf HBf.out) (by with_reducible rfl) (by with_reducible rfl) ?_; rintro e wq ⟨rfl, hwq⟩; rw [hwq]; clear hwq)
    | (go_at_call 48; refine calls_at (holdPieces_none P false turn deep t wf HBf.out) (by with_reducible rfl) (by with_reducible rfl) ?_; rintro e wq ⟨rfl, hwq⟩; rw [hwq]; clear hwq)
    | (go_at_call 49; refine calls_at (holdOps_none P false turn deep t wf HBf.out) (by with_reducible rfl) (by with_reducible rfl) ?_; rintro e wq ⟨rfl, hwq⟩; rw [hwq]; clear hwq)
    | (go_at_call 50; refine calls_at (holdCuts_none P false turn deep t wf HBf.out) (by with_reducible rfl) (by with_reducible rfl) ?_; rintro e wq ⟨rfl, hwq⟩; rw [hwq]; clear hwq)
    | (go_at_call 51; refine calls_at (holdMeans_none P false turn deep t wf HBf.out) (by with_reducible rfl) (by with_reducible rfl) ?_; rintro e wq ⟨rfl, hwq⟩; rw [hwq]; clear hwq)
    | (go_at_call 52; refine calls_at (holdLists_none P false turn deep t wf HBf.out) (by with_reducible rfl) (by with_reducible rfl) ?_; rintro e wq ⟨rfl, hwq⟩; rw [hwq]; clear hwq)
    | (go_at_call 53; refine calls_at (holdCons_none P false turn deep t wf HBf.out) (by with_reducible rfl) (by with_reducible rfl) ?_; rintro e wq ⟨rfl, hwq⟩; rw [hwq]; clear hwq)
    | (go_at_call 54; refine calls_at (holdRows_none P false turn deep t wf HBf.out) (by with_reducible rfl) (by with_reducible rfl) ?_; rintro e wq ⟨rfl, hwq⟩; rw [hwq]; clear hwq)
    | (go_at_call 55; refine calls_at (holdSteps_none P false turn deep t wf HBf.out) (by with_reducible rfl) (by with_reducible rfl) ?_; rintro e wq ⟨rfl, hwq⟩; rw [hwq]; clear hwq)
    | (go_at_call 56; refine calls_at (holdHalls_none P false turn deep t wf HBf.out) (by with_reducible rfl) (by with_reducible rfl) ?_; rintro e wq ⟨rfl, hwq⟩; rw [hwq]; clear hwq)
    | (go_at_call 57; refine calls_at (holdCauses_none P false turn deep t wf HBf.out) (by with_reducible rfl) (by with_reducible rfl) ?_; rintro e wq ⟨rfl, hwq⟩; rw [hwq]; clear hwq)
    | (go_at_call 58; refine calls_at (holdActs_none P false turn deep t wf HBf.out) (by with_reducible rfl) (by with_reducible rfl) ?_; rintro e wq ⟨rfl, hwq⟩; rw [hwq]; clear hwq))
  go_ret
  exact ⟨rfl, Hbf.out⟩

set_option maxRecDepth 100000 in
set_option maxHeartbeats 4000000 in
/-- A call of the outermost turn is at its end. -/
theorem book_done (P : Nat) (bad : Bool) (turn : Int) (t : Tx) (w : World) (h : BkAt w P bad turn 1 t) (hl : 0 ≤ turn ∧ turn ≤ 100000) (M R : World → Prop)
    (hM : ∀ w1, BkAt w1 P bad turn 0 t → w.grownBy w1 (some P) → Calls Tryz.prog 128 #[.pointer (some ⟨P, 0, none⟩)] w1 fun e w' => e = .returned (.tuple #[]) ∧ (∃ bad' t', BkAt w' P bad' turn 0 t') ∧ M w')
    (hG : ∀ w2, M w2 → ∃ bad2 t2, BkAt w2 P bad2 turn 0 t2 ∧ Calls Tryz.prog 143 #[.pointer (some ⟨P, 0, none⟩)] w2 fun e w' => e = .returned (.tuple #[]) ∧ (∃ bad' t', BkAt w' P bad' turn 0 t') ∧ R w')
    (hR : ∀ w3, R w3 → ∃ bad3 t3, BkAt w3 P bad3 turn 0 t3) :
    Calls Tryz.prog 43 #[.pointer (some ⟨P, 0, none⟩)] w fun e w' => e = .returned (.tuple #[]) ∧ ∃ w3 bad3 t3, R w3 ∧ BkAt w3 P bad3 turn 0 t3 ∧ BkAt w' P bad3 (turn + 1) 0 t3 ∧ w3.grownBy w' (some P) := by
  have k3 := h.cell 3 (.int .i64 1) rfl
  have f3 := h.free 3
  obtain ⟨W1, hW1⟩ : ∃ W, w.setCell ⟨P, 3, none⟩ (.int .i64 0) = W := ⟨_, rfl⟩
  have h1 : BkAt W1 P bad turn 0 t := by rw [← hW1]; exact h.set 3 _ rfl
  have HM : Hid (Calls Tryz.prog 81 #[.pointer (some ⟨P, 0, none⟩)] W1 fun e w' => e = .returned (.tuple #[]) ∧ M w') := marks_any P bad turn 0 t W1 h1 M (hM W1 h1 (by rw [← hW1]; exact grown_set w P 3 _))
  have HG : Hid (∀ w2, M w2 → Calls Tryz.prog 82 #[.pointer (some ⟨P, 0, none⟩)] w2 fun e w' => e = .returned (.tuple #[]) ∧ R w') := fun w2 h2 => by
    obtain ⟨bad2, t2, hb2, hg⟩ := hG w2 h2
    exact grows_any P bad2 turn 0 t2 w2 hb2 R hg
  have HR : Hid (∀ w3, R w3 → ∃ bad3 t3, BkAt w3 P bad3 turn 0 t3) := hR
  have r3 := h1.cell 3 (.int .i64 0) rfl
  have HW1 : Hid (w.setCell ⟨P, 3, none⟩ (.int .i64 0) = W1) := hW1
  have hw2 : wrap64 (turn + 1) = turn + 1 := by unfold wrap64; omega
  clear h h1 hM hG hR hW1 hl
  go_enter Tryz.func43, Tryz.ntmps43
  go_wp2_with fail
  rw [HW1.out]
  go_wp2_with fail
  refine HM.out.mono ?_
  rintro e w2 ⟨rfl, hm2⟩
  have H2 : Hid (M w2) := hm2
  clear hm2 k3 f3 r3
  go_wp2_with fail
  refine (HG.out w2 H2.out).mono ?_
  rintro e w3 ⟨rfl, hr3⟩
  obtain ⟨bad3, t3, hb3⟩ := HR.out w3 hr3
  have q2 := hb3.cell 2 (.int .i64 turn) rfl
  have p2 := hb3.free 2
  obtain ⟨W4, hW4⟩ : ∃ W, w3.setCell ⟨P, 2, none⟩ (.int .i64 (turn + 1)) = W := ⟨_, rfl⟩
  have H4 : Hid (R w3 ∧ BkAt w3 P bad3 turn 0 t3 ∧ BkAt W4 P bad3 (turn + 1) 0 t3 ∧ w3.grownBy W4 (some P)) := ⟨hr3, hb3, by rw [← hW4]; exact hb3.set 2 _ rfl, by rw [← hW4]; exact grown_set w3 P 2 _⟩
  have HW4 : Hid (w3.setCell ⟨P, 2, none⟩ (.int .i64 (turn + 1)) = W4) := hW4
  clear hr3 hb3 hW4
  go_wp2_with fail
  rw [HW4.out]
  go_end0
  exact ⟨rfl, w3, bad3, t3, H4.out⟩

end Go.Proofs.YtchpapppkmnfnaaGreatDoor
