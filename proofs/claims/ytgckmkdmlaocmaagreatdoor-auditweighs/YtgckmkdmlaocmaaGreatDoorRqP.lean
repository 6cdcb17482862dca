/-
  The document's reader: a step.
-/
import Derived.Test.YtgckmkdmlaocmaaGreatDoorJ39
import Derived.Test.YtgckmkdmlaocmaaGreatDoorRqW
namespace Go.Proofs.YtgckmkdmlaocmaaGreatDoor
open Go.RowKit

theorem qund29 : Tryz.prog.underlying 45 = some (.slice 3) := by kernel_rfl
theorem qinf3 : (Tryz.prog.info? 3).map (fun i => (i.zero, i.size, i.bytes)) = some (some (.int .i64 0), 1, 8) := by kernel_rfl
theorem src_1 {w : World} {b : Nat} {x : Value} {t : TypeId} (h : w.heap[b]? = some (.cells #[x] t (0, 0))) (h1 : x.oneCell' = true) : SrcAt w (.slice (some ⟨b, 0, none⟩) 1 1) 1 1 [x] :=
  ⟨_, _, rfl, rfl, (fun v hv => by simp at hv; rw [hv]; exact h1), (fun e => by cases e), fun ad e j v hj => by
    injection e with e
    subst e
    exact World.news_of_block h j v hj⟩
theorem lrowR_len : ∀ (n : Nat) (P : List PcL) (s : RS), (lrowR n P s).2.1.length ≤ s.1.length := by
  intro n
  induction n with
  | zero => intro P s; exact Nat.le_refl _
  | succ n ih =>
    intro P s
    unfold lrowR
    split
    · exact Nat.le_trans (ih _ _) (Nat.le_trans (lirR_len _).1 (numR_len _ _).1)
    · exact Nat.le_refl _
theorem rowR_len (s : RS) : (rowR s).2.1.length ≤ s.1.length := by
  unfold rowR
  exact Nat.le_trans (oneR_len _ _).1 (Nat.le_trans (numR_len _ _).1 (Nat.le_trans (oneR_len _ _).1 (lrowR_len _ _ _)))
def rupR (s : RS) : SL × RS := ({ SL.zero with k := 4, pcs := (rowR s).1.1, deg := (rowR s).1.2, ids := (llR (numR 1) ((rowR s).2.1.length + 1) [] (rowR s).2).1 }, (llR (numR 1) ((rowR s).2.1.length + 1) [] (rowR s).2).2)
def eqlR (s : RS) : SL × RS := ({ SL.zero with k := 12, ids := [(numR 1 s).1], pcs := (rowR (numR 1 s).2).1.1, deg := (rowR (numR 1 s).2).1.2 }, (rowR (numR 1 s).2).2)
def solR (k : Int) (s : RS) : SL × RS := ({ SL.zero with k := k, lits := (llR lirR (s.1.length + 1) [] s).1 }, (llR lirR (s.1.length + 1) [] s).2)
def delR (s : RS) : SL × RS := ({ SL.zero with k := 6, ids := (llR (numR 1) ((numR 1 (oneR [105, 100] s)).2.1.length + 1) [(numR 1 (oneR [105, 100] s)).1] (numR 1 (oneR [105, 100] s)).2).1 }, (llR (numR 1) ((numR 1 (oneR [105, 100] s)).2.1.length + 1) [(numR 1 (oneR [105, 100] s)).1] (numR 1 (oneR [105, 100] s)).2).2)
def stepW (x : List UInt8) (s : RS) : SL × RS :=
  if x = [112, 115, 101, 117, 100, 111, 45, 66, 111, 111, 108, 101, 97, 110] then ({ SL.zero with k := 1 }, wdsR [[112, 114, 111, 111, 102], [118, 101, 114, 115, 105, 111, 110], [50, 46, 48]] s)
  else if x = [102] then ({ SL.zero with k := 2, n := (numR 0 s).1 }, (numR 0 s).2)
  else if x = [112, 111, 108] then ({ SL.zero with k := 3, ops := (opsR s).1 }, (opsR s).2)
  else if x = [114, 117, 112] then rupR s
  else if x = [101] then eqlR s
  else if x = [115, 111, 108, 105] then solR 5 s
  else if x = [115, 111, 108, 120] then solR 11 s
  else if x = [100, 101, 108] then delR s
  else if x = [111, 117, 116, 112, 117, 116] then ({ SL.zero with k := 8 }, oneR [78, 79, 78, 69] s)
  else if x = [99, 111, 110, 99, 108, 117, 115, 105, 111, 110] then endsR s
  else if x = [101, 110, 100] then ({ SL.zero with k := 10 }, wdsR [[112, 115, 101, 117, 100, 111, 45, 66, 111, 111, 108, 101, 97, 110], [112, 114, 111, 111, 102]] s)
  else (SL.zero, failR 80 s)

set_option maxRecDepth 10000 in
set_option maxHeartbeats 8000000 in
theorem rstep_any {G B b : Nat} {s : RS} (x : List UInt8) (w : World) (h : RrAt G w b s) (hB : B ≤ b) (hn : s.1.length ≤ 9000000) : Calls Tryz.prog 14 #[.pointer (some ⟨b, 0, none⟩), .string (txtOf x)] w (QeOut G B b w (stepW x s)) := by
  have hbl := h.lt
  have hBw : B ≤ w.heap.size := by omega
  have HMo : Hid (∀ w' s', RrAt G w' b s' → Calls Tryz.prog 27 #[.pointer (some ⟨b, 0, none⟩)] w' fun e w2 => e = .returned (.bool (moreR s')) ∧ w2 = w') := fun w' s' h' => rmore_any w' h'
  have HN0 : Hid (∀ w' s', RrAt G w' b s' → Calls Tryz.prog 24 #[.pointer (some ⟨b, 0, none⟩), .int .i64 0] w' (LR G B b (.string (txtOf (numR 0 s').1)) (numR 0 s').2 w')) := fun w' s' h' => rnum_any 0 w' h' hB (.inr (.inl rfl))
  have HN1 : Hid (∀ w' s', RrAt G w' b s' → Calls Tryz.prog 24 #[.pointer (some ⟨b, 0, none⟩), .int .i64 1] w' (LR G B b (.string (txtOf (numR 1 s').1)) (numR 1 s').2 w')) := fun w' s' h' => rnum_any 1 w' h' hB (.inr (.inr rfl))
  have HLi : Hid (∀ w' s', RrAt G w' b s' → Calls Tryz.prog 28 #[.pointer (some ⟨b, 0, none⟩)] w' (LR G B b (.int .i64 (lirR s').1) (lirR s').2 w')) := fun w' s' h' => rlir_any w' h' hB
  have HOp : Hid (∀ w' s', RrAt G w' b s' → s'.1.length ≤ 9000000 → Calls Tryz.prog 25 #[.pointer (some ⟨b, 0, none⟩)] w' (QoOut G B b w' (opsR s'))) := fun w' s' h' hl => rops_any w' h' hB hl
  have HRw : Hid (∀ w' s', RrAt G w' b s' → s'.1.length ≤ 9000000 → Calls Tryz.prog 26 #[.pointer (some ⟨b, 0, none⟩)] w' (QwOut G B b w' (rowR s'))) := fun w' s' h' hl => rrow_any w' h' hB hl
  have HEn : Hid (∀ w' s', RrAt G w' b s' → Calls Tryz.prog 30 #[.pointer (some ⟨b, 0, none⟩)] w' (QeOut G B b w' (endsR s'))) := fun w' s' h' => rends_any w' h' hB
  have HOn : Hid (∀ y w' s', RrAt G w' b s' → Calls Tryz.prog 29 #[.pointer (some ⟨b, 0, none⟩), .string (txtOf y)] w' (LR G B b (.tuple #[]) (oneR y s') w')) := fun y w' s' h' => rone_any y w' h' hB
  have HWd : Hid (∀ (L : List (List UInt8)) (g : Nat) w' s', RrAt G w' b s' → w'.heap[g]? = some (.cells (L.map fun x => Value.string (txtOf x)).toArray 9 (0, 0)) → g ≠ b → L.length ≤ 1000 → Calls Tryz.prog 23 #[.pointer (some ⟨b, 0, none⟩), .slice (some ⟨g, 0, none⟩) L.length L.length] w' (LR G B b (.tuple #[]) (wdsR L s') w')) := fun L g w' s' h' h1 h2 h3 => rwds_any L w' h' hB h1 h2 h3
  have HFa : Hid (∀ w' s', RrAt G w' b s' → Calls Tryz.prog 22 #[.pointer (some ⟨b, 0, none⟩), .int .i64 80] w' (LR G B b (.tuple #[]) (failR 80 s') w')) := fun w' s' h' => rfail_any 80 w' h' hB
  obtain ⟨X1, hX1⟩ : ∃ X, w.alloc (.cells cs0 47) = X := ⟨_, rfl⟩
  obtain ⟨X2, hX2⟩ : ∃ X, X1.alloc (.cells cs0 47) = X := ⟨_, rfl⟩
  have s1 : X1.heap.size = w.heap.size + 1 := by rw [← hX1]; simp
  have H1 : Hid (QsAt G B b w.heap.size (w.heap.size + 1) w X2 SL.zero (.slice none 0 0) (.slice none 0 0) (.slice none 0 0) (.slice none 0 0) s) := by
    have b1 : Below w.heap.size w X1 := by rw [← hX1]; exact (Below.refl _ _).alloc (Nat.le_refl _) _
    have b2 : Below X1.heap.size X1 X2 := by rw [← hX2]; exact (Below.refl _ _).alloc (Nat.le_refl _) _
    have g3 : X2.heap[w.heap.size + 1]? = some (.cells cs0 47 (0, 0)) := by rw [← s1, ← hX2]; exact heap_alloc_new X1 _
    exact ⟨rfl, rfl, ⟨(b2.block _ (by omega)).trans (by rw [← hX1]; exact heap_alloc_new w _), rfl⟩, ⟨g3, rfl⟩, d9_own _ _ _ rfl rfl rfl rfl, h.below (bl_next b1 b2), h.gs, hbl, hB, SStp.of_below (bl_next b1 b2) hBw⟩
  have HX1 : Hid (w.alloc (.cells #[.int .i64 0, .string ⟨#[]⟩, .slice none 0 0, .slice none 0 0, .string ⟨#[]⟩, .slice none 0 0, .slice none 0 0, .int .i64 0, .string ⟨#[]⟩, .string ⟨#[]⟩] 47) = X1) := hX1
  have HX2 : Hid (X1.alloc (.cells #[.int .i64 0, .string ⟨#[]⟩, .slice none 0 0, .slice none 0 0, .string ⟨#[]⟩, .slice none 0 0, .slice none 0 0, .int .i64 0, .string ⟨#[]⟩, .string ⟨#[]⟩] 47) = X2) := hX2
  obtain ⟨R, hR⟩ : ∃ R, stepW x s = R := ⟨_, rfl⟩
  rw [hR]
  have HR : Hid (stepW x s = R) := hR
  clear h hX1 hX2 hR s1
  go_enter Tryz.func14, Tryz.ntmps14
  go_upto_block 0 with fail
  rw [HX1.out, HX2.out]
  clear HX1 HX2
  go_cut [] from 7 to 103 (fun wx => Hid (QsF G B b w wx R))
  case first =>
    have c0 : X2.cell? ⟨w.heap.size + 1, 0, none⟩ = some (.int .i64 0) := cell_of H1.out.b3.o 0
    have z0 := frozen_of H1.out.b3.o 0
    have e1 := txt_eq x [112, 115, 101, 117, 100, 111, 45, 66, 111, 111, 108, 101, 97, 110]
    have e2 := txt_eq x [102]
    have e3 := txt_eq x [112, 111, 108]
    have e4 := txt_eq x [114, 117, 112]
    have e5 := txt_eq x [101]
    have e6 := txt_eq x [115, 111, 108, 105]
    have e7 := txt_eq x [115, 111, 108, 120]
    have e8 := txt_eq x [100, 101, 108]
    have e9 := txt_eq x [111, 117, 116, 112, 117, 116]
    have e10 := txt_eq x [99, 111, 110, 99, 108, 117, 115, 105, 111, 110]
    have e11 := txt_eq x [101, 110, 100]
    have hR0 := HR.out
    unfold stepW at hR0
    clear HR
    by_cases k1 : x = [112, 115, 101, 117, 100, 111, 45, 66, 111, 111, 108, 101, 97, 110]
    · as_aux_lemma =>
        rw [if_pos k1] at hR0
        rw [decide_eq_true k1] at e1
        clear k1
        obtain ⟨W1, hW1⟩ : ∃ W, X2.setCell ⟨w.heap.size + 1, 0, none⟩ (.int .i64 1) = W := ⟨_, rfl⟩
        have H2 : Hid (QsAt G B b w.heap.size (w.heap.size + 1) w W1 { SL.zero with k := 1 } (.slice none 0 0) (.slice none 0 0) (.slice none 0 0) (.slice none 0 0) s) := by
          show QsAt _ _ _ _ _ _ _ _ _ _ _ _ _
          rw [← hW1]; exact H1.out.put 0 _ rfl (d9_own _ _ _ rfl rfl rfl rfl)
        have HRq : Hid (R = ({ SL.zero with k := 1 }, wdsR [[112, 114, 111, 111, 102], [118, 101, 114, 115, 105, 111, 110], [50, 46, 48]] s)) := hR0.symm
        obtain ⟨V, hV⟩ : ∃ V, W1.alloc (.cells #[.string ⟨#[112, 114, 111, 111, 102]⟩, .string ⟨#[118, 101, 114, 115, 105, 111, 110]⟩, .string ⟨#[50, 46, 48]⟩] 9) = V := ⟨_, rfl⟩
        have hbV : Below W1.heap.size W1 V := by rw [← hV]; exact (Below.refl _ _).alloc (Nat.le_refl _) _
        have H3 : Hid (QsAt G B b w.heap.size (w.heap.size + 1) w V { SL.zero with k := 1 } (.slice none 0 0) (.slice none 0 0) (.slice none 0 0) (.slice none 0 0) s) := H2.out.below hbV
        have HC : Hid (Calls Tryz.prog 23 #[.pointer (some ⟨b, 0, none⟩), .slice (some ⟨W1.heap.size, 0, none⟩) 3 3] V (LR G B b (.tuple #[]) (wdsR [[112, 114, 111, 111, 102], [118, 101, 114, 115, 105, 111, 110], [50, 46, 48]] s) V)) := HWd.out [[112, 114, 111, 111, 102], [118, 101, 114, 115, 105, 111, 110], [50, 46, 48]] W1.heap.size V s H3.out.ln (by rw [← hV]; exact heap_alloc_new W1 _) (by have := H2.out.ln.lt; omega) (by decide)
        clear hbV hR0
        go_wp2_with fail
        refine calls_at HC.out (by with_reducible rfl) (by with_reducible rfl) ?_
        rintro e w3 ⟨rfl, q1, q2⟩
        have HF : Hid (QsAt G B b w.heap.size (w.heap.size + 1) w w3 { SL.zero with k := 1 } (.slice none 0 0) (.slice none 0 0) (.slice none 0 0) (.slice none 0 0) (wdsR [[112, 114, 111, 111, 102], [118, 101, 114, 115, 105, 111, 110], [50, 46, 48]] s)) := H3.out.call q1 q2
        clear q1 q2
        go_wp2_with fail
        go_meet
        rw [HRq.out]
        exact ⟨_, _, _, _, HF.out⟩
    rw [if_neg k1] at hR0
    rw [decide_eq_false k1] at e1
    clear k1
    by_cases k2 : x = [102]
    · as_aux_lemma =>
        rw [if_pos k2] at hR0
        rw [decide_eq_true k2] at e2
        clear k2
        obtain ⟨W1, hW1⟩ : ∃ W, X2.setCell ⟨w.heap.size + 1, 0, none⟩ (.int .i64 2) = W := ⟨_, rfl⟩
        have H2 : Hid (QsAt G B b w.heap.size (w.heap.size + 1) w W1 { SL.zero with k := 2 } (.slice none 0 0) (.slice none 0 0) (.slice none 0 0) (.slice none 0 0) s) := by
          show QsAt _ _ _ _ _ _ _ _ _ _ _ _ _
          rw [← hW1]; exact H1.out.put 0 _ rfl (d9_own _ _ _ rfl rfl rfl rfl)
        have HRq : Hid (R = ({ SL.zero with k := 2, n := (numR 0 s).1 }, (numR 0 s).2)) := hR0.symm
        clear hR0
        go_wp2_with fail
        try rw [hW1]
        refine calls_at (HN0.out W1 s H2.out.ln) (by with_reducible rfl) (by with_reducible rfl) ?_
        rintro e w3 ⟨rfl, q1, q2⟩
        have H3 : Hid (QsAt G B b w.heap.size (w.heap.size + 1) w w3 { SL.zero with k := 2 } (.slice none 0 0) (.slice none 0 0) (.slice none 0 0) (.slice none 0 0) (numR 0 s).2) := H2.out.call q1 q2
        clear q1 q2 H2 hW1 c0 z0
        have c1 : w3.cell? ⟨w.heap.size + 1, 1, none⟩ = some (.string ⟨#[]⟩) := cell_of H3.out.b3.o 1
        have z1 := frozen_of H3.out.b3.o 1
        have HF : Hid (QsAt G B b w.heap.size (w.heap.size + 1) w (w3.setCell ⟨w.heap.size + 1, 1, none⟩ (.string (txtOf (numR 0 s).1))) { SL.zero with k := 2, n := (numR 0 s).1 } (.slice none 0 0) (.slice none 0 0) (.slice none 0 0) (.slice none 0 0) (numR 0 s).2) := H3.out.put 1 _ rfl (d9_own _ _ _ rfl rfl rfl rfl)
        go_wp2_with fail
        go_meet
        rw [HRq.out]
        exact ⟨_, _, _, _, HF.out⟩
    rw [if_neg k2] at hR0
    rw [decide_eq_false k2] at e2
    clear k2
    by_cases k3 : x = [112, 111, 108]
    · as_aux_lemma =>
        rw [if_pos k3] at hR0
        rw [decide_eq_true k3] at e3
        clear k3
        obtain ⟨W1, hW1⟩ : ∃ W, X2.setCell ⟨w.heap.size + 1, 0, none⟩ (.int .i64 3) = W := ⟨_, rfl⟩
        have H2 : Hid (QsAt G B b w.heap.size (w.heap.size + 1) w W1 { SL.zero with k := 3 } (.slice none 0 0) (.slice none 0 0) (.slice none 0 0) (.slice none 0 0) s) := by
          show QsAt _ _ _ _ _ _ _ _ _ _ _ _ _
          rw [← hW1]; exact H1.out.put 0 _ rfl (d9_own _ _ _ rfl rfl rfl rfl)
        have HRq : Hid (R = ({ SL.zero with k := 3, ops := (opsR s).1 }, (opsR s).2)) := hR0.symm
        clear hR0
        go_wp2_with fail
        try rw [hW1]
        refine calls_at (HOp.out W1 s H2.out.ln hn) (by with_reducible rfl) (by with_reducible rfl) ?_
        rintro e w3 ⟨vq, rfl, q0, q1, q2⟩
        have H3 : Hid (QsAt G B b w.heap.size (w.heap.size + 1) w w3 { SL.zero with k := 3 } (.slice none 0 0) (.slice none 0 0) (.slice none 0 0) (.slice none 0 0) (opsR s).2) := H2.out.call q1 q2
        have hsz := H2.out.sz
        obtain ⟨oa, oc, rfl⟩ := own_slice q0
        have HF : Hid (QsAt G B b w.heap.size (w.heap.size + 1) w (w3.setCell ⟨w.heap.size + 1, 2, none⟩ (.slice oa (opsR s).1.length oc)) { SL.zero with k := 3, ops := (opsR s).1 } (.slice oa (opsR s).1.length oc) (.slice none 0 0) (.slice none 0 0) (.slice none 0 0) (opsR s).2) := H3.out.put 2 _ rfl ⟨own_less q0 hsz, own_z _ _ _ _, own_z _ _ _ _, own_z _ _ _ _⟩
        have c2 : w3.cell? ⟨w.heap.size + 1, 2, none⟩ = some (.slice none 0 0) := cell_of H3.out.b3.o 2
        have z2 := frozen_of H3.out.b3.o 2
        clear q0 q1 q2 H2 hW1 c0 z0 hsz H3
        go_wp2_with fail
        go_meet
        rw [HRq.out]
        exact ⟨_, _, _, _, HF.out⟩
    rw [if_neg k3] at hR0
    rw [decide_eq_false k3] at e3
    clear k3
    by_cases k4 : x = [114, 117, 112]
    · as_aux_lemma =>
        rw [if_pos k4] at hR0
        rw [decide_eq_true k4] at e4
        clear k4
        obtain ⟨W1, hW1⟩ : ∃ W, X2.setCell ⟨w.heap.size + 1, 0, none⟩ (.int .i64 4) = W := ⟨_, rfl⟩
        have H2 : Hid (QsAt G B b w.heap.size (w.heap.size + 1) w W1 { SL.zero with k := 4 } (.slice none 0 0) (.slice none 0 0) (.slice none 0 0) (.slice none 0 0) s) := by
          show QsAt _ _ _ _ _ _ _ _ _ _ _ _ _
          rw [← hW1]; exact H1.out.put 0 _ rfl (d9_own _ _ _ rfl rfl rfl rfl)
        unfold rupR at hR0
        have hrl := rowR_len s
        have HRq : Hid (R = ({ SL.zero with k := 4, pcs := (rowR s).1.1, deg := (rowR s).1.2, ids := (llR (numR 1) ((rowR s).2.1.length + 1) [] (rowR s).2).1 }, (llR (numR 1) ((rowR s).2.1.length + 1) [] (rowR s).2).2)) := hR0.symm
        clear hR0
        go_wp2_with fail
        try rw [hW1]
        refine calls_at (HRw.out W1 s H2.out.ln hn) (by with_reducible rfl) (by with_reducible rfl) ?_
        rintro e w3 ⟨vq, rfl, q0, q1, q2⟩
        obtain ⟨P, hP⟩ : ∃ P, (rowR s).1.1 = P := ⟨_, rfl⟩
        obtain ⟨dg, hdg⟩ : ∃ P, (rowR s).1.2 = P := ⟨_, rfl⟩
        obtain ⟨s3, hs3⟩ : ∃ P, (rowR s).2 = P := ⟨_, rfl⟩
        rw [hP, hdg, hs3] at HRq
        rw [hP] at q0
        rw [hs3] at q1 hrl
        rw [hdg]
        clear hP hdg hs3
        have H3 : Hid (QsAt G B b w.heap.size (w.heap.size + 1) w w3 { SL.zero with k := 4 } (.slice none 0 0) (.slice none 0 0) (.slice none 0 0) (.slice none 0 0) s3) := H2.out.call q1 q2
        have hsz := H2.out.sz
        obtain ⟨pa, pc, rfl⟩ := own_slice q0
        obtain ⟨W4, hW4⟩ : ∃ W, (w3.setCell ⟨w.heap.size + 1, 3, none⟩ (.slice pa P.length pc)).setCell ⟨w.heap.size + 1, 4, none⟩ (.string (txtOf dg)) = W := ⟨_, rfl⟩
        have H5 : Hid (QsAt G B b w.heap.size (w.heap.size + 1) w W4 { SL.zero with k := 4, pcs := P, deg := dg, ids := [] } (.slice none 0 0) (.slice pa P.length pc) (.slice none 0 0) (.slice none 0 0) s3) := by
          show QsAt _ _ _ _ _ _ _ _ _ _ _ _ _
          rw [← hW4]
          have h5 : QsAt G B b w.heap.size (w.heap.size + 1) w (w3.setCell ⟨w.heap.size + 1, 3, none⟩ (.slice pa P.length pc)) { SL.zero with k := 4, pcs := P } (.slice none 0 0) (.slice pa P.length pc) (.slice none 0 0) (.slice none 0 0) s3 := H3.out.put 3 _ rfl ⟨own_z _ _ _ _, own_less q0 hsz, own_z _ _ _ _, own_z _ _ _ _⟩
          exact h5.put 4 _ rfl ⟨own_z _ _ _ _, h5.own.p, own_z _ _ _ _, own_z _ _ _ _⟩
        have c3 : w3.cell? ⟨w.heap.size + 1, 3, none⟩ = some (.slice none 0 0) := cell_of H3.out.b3.o 3
        have c4 : w3.cell? ⟨w.heap.size + 1, 4, none⟩ = some (.string ⟨#[]⟩) := cell_of H3.out.b3.o 4
        have z3 := frozen_of H3.out.b3.o
        clear q0 q1 q2 H2 hW1 c0 z0 hsz H3
        obtain ⟨all, hall⟩ : ∃ a, llR (numR 1) (s3.1.length + 1) [] s3 = a := ⟨_, rfl⟩
        rw [hall] at HRq
        have HM0 : Hid (QlM (numR 1) (s3.1.length + 1) s3.1.length [] s3 all) := ⟨by omega, fun _ => ⟨Nat.le_refl _, by first | (simp; done) | (simp; omega)⟩, by first | (simp; done) | (simp; omega), hall.symm⟩
        clear hall
        go_wp2_with fail
        go_loopg [] (s3.1.length + 1) (fun g wr => ∃ (L : List (List UInt8)) (v : Value) (sc : RS), Hid (QlM (numR 1) g s3.1.length L sc all) ∧ Hid (QsAt G B b w.heap.size (w.heap.size + 1) w wr { SL.zero with k := 4, pcs := P, deg := dg, ids := L } (.slice none 0 0) (.slice pa P.length pc) (.slice none 0 0) v sc))
        case atStart => exact ⟨[], _, s3, HM0.out, H5.out⟩
        case round =>
          clear HM0 H5
          obtain ⟨L, v, sc, HM, HQ⟩ := hrel
          have hos : wr.ownsRow (w.heap.size + 2) 9 1 v L.length (L.map fun x => .string (txtOf x)) := HQ.out.own.i
          obtain ⟨va, vc, hvs⟩ := own_slice hos
          clear hos
          subst hvs
          have HM1 := HMo.out wr sc HQ.out.ln
          cases hm : moreR sc with
          | false =>
            have HRs : Hid (all = (L, sc)) := qlm_stop HM.out hm
            rw [hm] at HM1
            have HM2 : Hid (Calls Tryz.prog 27 #[.pointer (some ⟨b, 0, none⟩)] wr fun e w2 => e = .returned (.bool false) ∧ w2 = wr) := HM1
            clear HM1 hm HM
            go_wp2_with fail
            refine calls_at HM2.out (by with_reducible rfl) (by with_reducible rfl) ?_
            rintro e wz ⟨rfl, hwz⟩
            rw [hwz]
            clear hwz
            go_wp2_with fail
            go_meet
            rw [HRq.out, HRs.out]
            exact ⟨_, _, _, _, HQ.out⟩
          | true =>
            cases gk with
            | zero => exact absurd HM.out.1 (by omega)
            | succ g' =>
            rw [hm] at HM1
            have HM2 : Hid (Calls Tryz.prog 27 #[.pointer (some ⟨b, 0, none⟩)] wr fun e w2 => e = .returned (.bool true) ∧ w2 = wr) := HM1
            have HMn : Hid (QlM (numR 1) g' s3.1.length (L ++ [(numR 1 sc).1]) (numR 1 sc).2 all) := qlm_next (numR_len 1) HM.out hm
            have hal : L.length ≤ 9000002 := by have := HM.out.2.2.1; omega
            clear HM1 hm HM
            go_wp2_with fail
            refine calls_at HM2.out (by with_reducible rfl) (by with_reducible rfl) ?_
            rintro e wz ⟨rfl, hwz⟩
            rw [hwz]
            clear hwz HM2
            have HC0 : Hid (True ∧ wr.drew.cell? ⟨w.heap.size + 1, 6, none⟩ = some (.slice va L.length vc)) := ⟨trivial, cell_of HQ.out.b3.o 6⟩
            go_wp2_with fail
            refine wp_region_T (fun _ => True) (fun w' => w'.cell? ⟨w.heap.size + 1, 6, none⟩ = some (.slice va L.length vc)) [7] (by kernel_rfl) HC0.out (fun hHeld => ?_)
            have HRU : Hid (QsAt G B b w.heap.size (w.heap.size + 1) w wr.drew { SL.zero with k := 4, pcs := P, deg := dg, ids := L } (.slice none 0 0) (.slice pa P.length pc) (.slice none 0 0) (.slice va L.length vc) sc) := HQ.out.drewn
            clear HC0
            generalize wr.drew = U at hHeld HRU ⊢
            refine wpAnyT_takeB (i := 0) (oi := ⟨some 35, .fieldAddr 47 (.tmp 5) 5, _, _, _, _⟩) (v := ?vAx0) rfl (by kernel_rfl) (by kernel_rfl) (by kernel_rfl) (by kernel_rfl) (fun _ _ _ h => h) (Or.inl ⟨by rfl, ?hyAx0⟩) (by assumption) ?restAx0
            case hyAx0 => (intro w hSw; (try dsimp only at hSw); go_simp; try (with_reducible rfl))
            try simp only [Act.put, List.setIfInBounds_toArray, List.set_cons_zero, List.set_cons_succ]
            refine wpAnyT_take (i := 1) (oi := ⟨some 36, .load 39 (.tmp 35), _, _, _, _⟩) (v := ?vAx1) rfl (by kernel_rfl) (by kernel_rfl) (by kernel_rfl) (by kernel_rfl) (by kernel_rfl) (fun _ _ _ h => h) (Or.inl ⟨by rfl, ?hyAx1⟩) (by assumption) ?restAx1
            case hyAx1 => (intro w hSw; (try dsimp only at hSw); go_simp; try (with_reducible rfl))
            try simp only [Act.put, List.setIfInBounds_toArray, List.set_cons_zero, List.set_cons_succ]
            refine wpAnyT_takeB (i := 2) (oi := ⟨some 37, .move (.tmp 0), _, _, _, _⟩) (v := ?vAx2) rfl (by kernel_rfl) (by kernel_rfl) (by kernel_rfl) (by kernel_rfl) (fun _ _ _ h => h) (Or.inl ⟨by rfl, ?hyAx2⟩) (by assumption) ?restAx2
            case hyAx2 => (intro w hSw; (try dsimp only at hSw); go_simp; try (with_reducible rfl))
            try simp only [Act.put, List.setIfInBounds_toArray, List.set_cons_zero, List.set_cons_succ]
            refine wpAnyT_one (i := 3) (o := ⟨some 38, .call { callee := .value (.func 24), args := #[(.tmp 37), (.const (.int .i64 1))], argTypes := #[57, 3] }, _, _, _, _⟩) (by kernel_rfl) rfl (fun K hK => ?_)
            go_simp
            refine calls_at (HN1.out U _ HRU.out.ln) (by with_reducible rfl) (by with_reducible rfl) ?_
            rintro e u3 ⟨rfl, h1, h2⟩
            go_wp2_with fail
            have HR3 : Hid (QsAt G B b w.heap.size (w.heap.size + 1) w u3 { SL.zero with k := 4, pcs := P, deg := dg, ids := L } (.slice none 0 0) (.slice pa P.length pc) (.slice none 0 0) (.slice va L.length vc) (numR 1 sc).2) := HRU.out.call h1 h2
            clear hHeld h1 h2
            have hHeld : True ∧ u3.cell? ⟨w.heap.size + 1, 6, none⟩ = some (.slice va L.length vc) := ⟨trivial, cell_of HR3.out.b3.o 6⟩
            refine hK.out _ _ ⟨trivial, fun _ => hHeld.2⟩ ?_
            clear hK K
            try simp only [Act.put, List.setIfInBounds_toArray, List.set_cons_zero, List.set_cons_succ]
            refine wpAnyT_one (i := 4) (o := ⟨some 39, .buildSlice 39 1 #[(0, (.tmp 38))], _, _, _, _⟩) (by kernel_rfl) rfl (fun K hK => ?_)
            go_simp
            obtain ⟨Y, hY⟩ : ∃ Y, u3.alloc (.cells #[.string (txtOf (numR 1 sc).1)] 9) = Y := ⟨_, rfl⟩
            have HSc2 : Hid (SrcAt Y (.slice (some ⟨u3.heap.size, 0, none⟩) 1 1) 1 1 [.string (txtOf (numR 1 sc).1)]) := src_1 (by rw [← hY]; exact heap_alloc_new u3 _) rfl
            have HY : Hid (u3.alloc (.cells #[.string (txtOf (numR 1 sc).1)] 9) = Y) := hY
            have HBY : Hid (Below u3.heap.size u3 Y) := by show Below _ _ _; rw [← hY]; exact (Below.refl _ _).alloc (Nat.le_refl _) _
            rw [hY]
            clear hY hHeld
            have hg3 := (HR3.out.below HBY.out).b3.o
            have hHeld : True ∧ Y.cell? ⟨w.heap.size + 1, 6, none⟩ = some (.slice va L.length vc) := ⟨trivial, cell_of hg3 6⟩
            clear hg3
            refine hK.out _ _ ⟨trivial, fun _ => hHeld.2⟩ ?_
            clear hK K
            try simp only [Act.put, List.setIfInBounds_toArray, List.set_cons_zero, List.set_cons_succ]
            refine wpAnyT_one (i := 5) (o := ⟨some 40, .call { callee := .builtin .append, args := #[(.tmp 36), (.tmp 39)], argTypes := #[39, 39] }, _, _, _, _⟩) (by kernel_rfl) rfl (fun K hK => ?_)
            have hown : Y.ownsRow (w.heap.size + 2) 9 1 (.slice va L.length vc) L.length (L.map fun x => .string (txtOf x)) := own_below HR3.out.own.i HBY.out
            refine op_append_src Y (.tmp 36) (.tmp 39) 39 9 (.string ⟨#[]⟩) 1 16 rfl wund winfo rfl (by decide) (w.heap.size + 2) _ _ L.length 1 (L.map fun x => .string (txtOf x)) _ (by rfl) (by rfl) hown HSc2.out (by unfold maxLen; omega) (by omega) (Nat.le_trans HR3.out.sz HBY.out.size) (by rfl) ?_
            intro v6 w6 o1 o2 o3
            have hE := HR3.out.appI (y := (numR 1 sc).1) o1 (by show (u3.alloc (.cells #[.string (txtOf (numR 1 sc).1)] 9)).grownBy w6 _; rw [HY.out]; exact o2)
            obtain ⟨a6, c6, rfl⟩ := own_slice o1
            have HR6 : Hid (QsAt G B b w.heap.size (w.heap.size + 1) w (w6.setCell ⟨w.heap.size + 1, 6, none⟩ (.slice a6 (L.length + 1) c6)) { SL.zero with k := 4, pcs := P, deg := dg, ids := (L ++ [(numR 1 sc).1]) } (.slice none 0 0) (.slice pa P.length pc) (.slice none 0 0) (.slice a6 (L.length + 1) c6) (numR 1 sc).2) := hE.2
            have c0 : w6.cell? ⟨w.heap.size + 1, 6, none⟩ = some (.slice va L.length vc) := cell_of hE.1.o 6
            have cz : ∀ i, w6.frozen? ⟨w.heap.size + 1, i, none⟩ = false := frozen_of hE.1.o
            clear hE o1 o2 o3 hown hHeld
            refine hK.out _ _ ⟨trivial, fun _ => c0⟩ ?_
            have hHeld : True ∧ _ := ⟨trivial, c0⟩
            clear hK K
            try simp only [Act.put, List.setIfInBounds_toArray, List.set_cons_zero, List.set_cons_succ]
            refine wpAnyT_takeB (i := 6) (oi := ⟨some 41, .fieldAddr 47 (.tmp 5) 5, _, _, _, _⟩) (v := ?vAx6) rfl (by kernel_rfl) (by kernel_rfl) (by kernel_rfl) (by kernel_rfl) (fun _ _ _ h => h) (Or.inl ⟨by rfl, ?hyAx6⟩) (by assumption) ?restAx6
            case hyAx6 => (intro w hSw; (try dsimp only at hSw); go_simp; try (with_reducible rfl))
            try simp only [Act.put, List.setIfInBounds_toArray, List.set_cons_zero, List.set_cons_succ]
            refine wpAnyT_late (i := 7) (o := ⟨none, .store 39 (.tmp 41) (.tmp 40), _, _, _, _⟩) (by kernel_rfl) rfl (by kernel_rfl) (fun K hK => ?_)
            go_simp
            refine hK.out _ _ ?shAx7 ?restAx7
            case shAx7 => ((try dsimp only); try exact trivial)
            clear hK K
            try simp only [Act.put, List.setIfInBounds_toArray, List.set_cons_zero, List.set_cons_succ]
            refine wpAnyT_done (by kernel_rfl) ?_ _
            obtain ⟨ZW, hZ⟩ : ∃ ZX, w6.setCell ⟨w.heap.size + 1, 6, none⟩ (.slice a6 (L.length + 1) c6) = ZX := ⟨_, rfl⟩
            rw [hZ] at HR6
            rw [hZ]
            clear hZ c0 cz hHeld HSc2 HY HBY HR3 HRU
            go_wp2_with fail
            go_roundg g'
            case measure => omega
            case rel =>
              exact ⟨_, _, _, HMn.out, HR6.out⟩
    rw [if_neg k4] at hR0
    rw [decide_eq_false k4] at e4
    clear k4
    by_cases k5 : x = [101]
    · as_aux_lemma =>
        rw [if_pos k5] at hR0
        rw [decide_eq_true k5] at e5
        clear k5
        obtain ⟨W1, hW1⟩ : ∃ W, X2.setCell ⟨w.heap.size + 1, 0, none⟩ (.int .i64 12) = W := ⟨_, rfl⟩
        have H2 : Hid (QsAt G B b w.heap.size (w.heap.size + 1) w W1 { SL.zero with k := 12 } (.slice none 0 0) (.slice none 0 0) (.slice none 0 0) (.slice none 0 0) s) := by
          show QsAt _ _ _ _ _ _ _ _ _ _ _ _ _
          rw [← hW1]; exact H1.out.put 0 _ rfl (d9_own _ _ _ rfl rfl rfl rfl)
        unfold eqlR at hR0
        have hnl := (numR_len 1 s).1
        have HRq : Hid (R = ({ SL.zero with k := 12, ids := [(numR 1 s).1], pcs := (rowR (numR 1 s).2).1.1, deg := (rowR (numR 1 s).2).1.2 }, (rowR (numR 1 s).2).2)) := hR0.symm
        clear hR0
        go_wp2_with fail
        try rw [hW1]
        refine calls_at (HN1.out W1 s H2.out.ln) (by with_reducible rfl) (by with_reducible rfl) ?_
        rintro e w4 ⟨rfl, q1, q2⟩
        have H4 : Hid (QsAt G B b w.heap.size (w.heap.size + 1) w w4 { SL.zero with k := 12 } (.slice none 0 0) (.slice none 0 0) (.slice none 0 0) (.slice none 0 0) (numR 1 s).2) := H2.out.call q1 q2
        clear q1 q2 H2 hW1 c0 z0
        obtain ⟨y, hy⟩ : ∃ y, (numR 1 s).1 = y := ⟨_, rfl⟩
        obtain ⟨s3, hs3⟩ : ∃ y, (numR 1 s).2 = y := ⟨_, rfl⟩
        rw [hy, hs3] at HRq
        rw [hs3] at H4 hnl
        rw [hy]
        clear hy hs3
        obtain ⟨V, hV⟩ : ∃ V, w4.alloc (.cells #[.string (txtOf y)] 9) = V := ⟨_, rfl⟩
        have hbV : Below w4.heap.size w4 V := by rw [← hV]; exact (Below.refl _ _).alloc (Nat.le_refl _) _
        have hI : V.ownsRow (w.heap.size + 2) 9 1 (.slice (some ⟨w4.heap.size, 0, none⟩) 1 1) 1 [.string (txtOf y)] := by rw [← hV]; exact World.ownsRow_lit w4 #[.string (txtOf y)] 1 H4.out.sz (by decide) rfl
        have H7 : Hid (QsAt G B b w.heap.size (w.heap.size + 1) w V { SL.zero with k := 12 } (.slice none 0 0) (.slice none 0 0) (.slice none 0 0) (.slice none 0 0) s3) := H4.out.below hbV
        have c6 : V.cell? ⟨w.heap.size + 1, 6, none⟩ = some (.slice none 0 0) := cell_of H7.out.b3.o 6
        have z6 := frozen_of H7.out.b3.o 6
        obtain ⟨W7, hW7⟩ : ∃ W, V.setCell ⟨w.heap.size + 1, 6, none⟩ (.slice (some ⟨w4.heap.size, 0, none⟩) 1 1) = W := ⟨_, rfl⟩
        have H8 : Hid (QsAt G B b w.heap.size (w.heap.size + 1) w W7 { SL.zero with k := 12, ids := [y] } (.slice none 0 0) (.slice none 0 0) (.slice none 0 0) (.slice (some ⟨w4.heap.size, 0, none⟩) 1 1) s3) := by
          show QsAt _ _ _ _ _ _ _ _ _ _ _ _ _
          rw [← hW7]; exact H7.out.put 6 _ rfl (d9_one _ rfl rfl rfl rfl hI)
        clear hbV hI H7 H4
        go_wp2_with fail
        try rw [hW7]
        refine calls_at (HRw.out W7 s3 H8.out.ln (by omega)) (by with_reducible rfl) (by with_reducible rfl) ?_
        rintro e w3 ⟨vq, rfl, q0, q1, q2⟩
        have H3 : Hid (QsAt G B b w.heap.size (w.heap.size + 1) w w3 { SL.zero with k := 12, ids := [y] } (.slice none 0 0) (.slice none 0 0) (.slice none 0 0) (.slice (some ⟨w4.heap.size, 0, none⟩) 1 1) (rowR s3).2) := H8.out.call q1 q2
        have hsz := H8.out.sz
        obtain ⟨pa, pc, rfl⟩ := own_slice q0
        have HF : Hid (QsAt G B b w.heap.size (w.heap.size + 1) w ((w3.setCell ⟨w.heap.size + 1, 3, none⟩ (.slice pa (rowR s3).1.1.length pc)).setCell ⟨w.heap.size + 1, 4, none⟩ (.string (txtOf (rowR s3).1.2))) { SL.zero with k := 12, ids := [y], pcs := (rowR s3).1.1, deg := (rowR s3).1.2 } (.slice none 0 0) (.slice pa (rowR s3).1.1.length pc) (.slice none 0 0) (.slice (some ⟨w4.heap.size, 0, none⟩) 1 1) (rowR s3).2) := by
          have h5 : QsAt G B b w.heap.size (w.heap.size + 1) w (w3.setCell ⟨w.heap.size + 1, 3, none⟩ (.slice pa (rowR s3).1.1.length pc)) { SL.zero with k := 12, ids := [y], pcs := (rowR s3).1.1 } (.slice none 0 0) (.slice pa (rowR s3).1.1.length pc) (.slice none 0 0) (.slice (some ⟨w4.heap.size, 0, none⟩) 1 1) (rowR s3).2 := H3.out.put 3 _ rfl ⟨own_z _ _ _ _, own_less q0 hsz, own_z _ _ _ _, H3.out.own.i⟩
          exact h5.put 4 _ rfl ⟨own_z _ _ _ _, h5.own.p, own_z _ _ _ _, h5.own.i⟩
        have c3 : w3.cell? ⟨w.heap.size + 1, 3, none⟩ = some (.slice none 0 0) := cell_of H3.out.b3.o 3
        have c4 : w3.cell? ⟨w.heap.size + 1, 4, none⟩ = some (.string ⟨#[]⟩) := cell_of H3.out.b3.o 4
        have z3 := frozen_of H3.out.b3.o
        clear q0 q1 q2 H8 hW7 hV c6 z6 hsz H3
        go_wp2_with fail
        go_meet
        rw [HRq.out]
        exact ⟨_, _, _, _, HF.out⟩
    rw [if_neg k5] at hR0
    rw [decide_eq_false k5] at e5
    clear k5
    by_cases k6 : x = [115, 111, 108, 105]
    · as_aux_lemma =>
        rw [if_pos k6] at hR0
        rw [decide_eq_true k6] at e6
        have e7f : ((txtOf x).toList == [115, 111, 108, 120]) = false := by rw [e7, k6]; decide
        clear e7
        clear k6
        obtain ⟨W1, hW1⟩ : ∃ W, X2.setCell ⟨w.heap.size + 1, 0, none⟩ (.int .i64 5) = W := ⟨_, rfl⟩
        have H2 : Hid (QsAt G B b w.heap.size (w.heap.size + 1) w W1 { SL.zero with k := 5 } (.slice none 0 0) (.slice none 0 0) (.slice none 0 0) (.slice none 0 0) s) := by
          show QsAt _ _ _ _ _ _ _ _ _ _ _ _ _
          rw [← hW1]; exact H1.out.put 0 _ rfl (d9_own _ _ _ rfl rfl rfl rfl)
        have H5 : Hid (QsAt G B b w.heap.size (w.heap.size + 1) w W1 { SL.zero with k := 5, lits := [] } (.slice none 0 0) (.slice none 0 0) (.slice none 0 0) (.slice none 0 0) s) := H2.out
        clear H2
        unfold solR at hR0
        have HRq : Hid (R = ({ SL.zero with k := 5, lits := (llR lirR (s.1.length + 1) [] s).1 }, (llR lirR (s.1.length + 1) [] s).2)) := hR0.symm
        clear hR0
        obtain ⟨all, hall⟩ : ∃ a, llR (lirR) (s.1.length + 1) [] s = a := ⟨_, rfl⟩
        rw [hall] at HRq
        have HM0 : Hid (QlM (lirR) (s.1.length + 1) s.1.length [] s all) := ⟨by omega, fun _ => ⟨Nat.le_refl _, by first | (simp; done) | (simp; omega)⟩, by first | (simp; done) | (simp; omega), hall.symm⟩
        clear hall
        go_wp2_with fail
        go_loopg [] (s.1.length + 1) (fun g wr => ∃ (L : List Int) (v : Value) (sc : RS), Hid (QlM (lirR) g s.1.length L sc all) ∧ Hid (QsAt G B b w.heap.size (w.heap.size + 1) w wr { SL.zero with k := 5, lits := L } (.slice none 0 0) (.slice none 0 0) v (.slice none 0 0) sc))
        case atStart => exact ⟨[], _, s, HM0.out, H5.out⟩
        case round =>
          clear HM0 H5
          obtain ⟨L, v, sc, HM, HQ⟩ := hrel
          have hos : wr.ownsRow (w.heap.size + 2) 3 1 v L.length (L.map (.int .i64)) := HQ.out.own.l
          obtain ⟨va, vc, hvs⟩ := own_slice hos
          clear hos
          subst hvs
          have HM1 := HMo.out wr sc HQ.out.ln
          cases hm : moreR sc with
          | false =>
            have HRs : Hid (all = (L, sc)) := qlm_stop HM.out hm
            rw [hm] at HM1
            have HM2 : Hid (Calls Tryz.prog 27 #[.pointer (some ⟨b, 0, none⟩)] wr fun e w2 => e = .returned (.bool false) ∧ w2 = wr) := HM1
            clear HM1 hm HM
            go_wp2_with fail
            refine calls_at HM2.out (by with_reducible rfl) (by with_reducible rfl) ?_
            rintro e wz ⟨rfl, hwz⟩
            rw [hwz]
            clear hwz
            go_wp2_with fail
            go_meet
            rw [HRq.out, HRs.out]
            exact ⟨_, _, _, _, HQ.out⟩
          | true =>
            cases gk with
            | zero => exact absurd HM.out.1 (by omega)
            | succ g' =>
            rw [hm] at HM1
            have HM2 : Hid (Calls Tryz.prog 27 #[.pointer (some ⟨b, 0, none⟩)] wr fun e w2 => e = .returned (.bool true) ∧ w2 = wr) := HM1
            have HMn : Hid (QlM (lirR) g' s.1.length (L ++ [(lirR sc).1]) (lirR sc).2 all) := qlm_next lirR_len HM.out hm
            have hal : L.length ≤ 9000002 := by have := HM.out.2.2.1; omega
            clear HM1 hm HM
            go_wp2_with fail
            refine calls_at HM2.out (by with_reducible rfl) (by with_reducible rfl) ?_
            rintro e wz ⟨rfl, hwz⟩
            rw [hwz]
            clear hwz HM2
            have HC0 : Hid (True ∧ wr.drew.cell? ⟨w.heap.size + 1, 5, none⟩ = some (.slice va L.length vc)) := ⟨trivial, cell_of HQ.out.b3.o 5⟩
            go_wp2_with fail
            refine wp_region_T (fun _ => True) (fun w' => w'.cell? ⟨w.heap.size + 1, 5, none⟩ = some (.slice va L.length vc)) [7] (by kernel_rfl) HC0.out (fun hHeld => ?_)
            have HRU : Hid (QsAt G B b w.heap.size (w.heap.size + 1) w wr.drew { SL.zero with k := 5, lits := L } (.slice none 0 0) (.slice none 0 0) (.slice va L.length vc) (.slice none 0 0) sc) := HQ.out.drewn
            clear HC0
            generalize wr.drew = U at hHeld HRU ⊢
            refine wpAnyT_takeB (i := 0) (oi := ⟨some 61, .fieldAddr 47 (.tmp 5) 4, _, _, _, _⟩) (v := ?vS5x0) rfl (by kernel_rfl) (by kernel_rfl) (by kernel_rfl) (by kernel_rfl) (fun _ _ _ h => h) (Or.inl ⟨by rfl, ?hyS5x0⟩) (by assumption) ?restS5x0
            case hyS5x0 => (intro w hSw; (try dsimp only at hSw); go_simp; try (with_reducible rfl))
            try simp only [Act.put, List.setIfInBounds_toArray, List.set_cons_zero, List.set_cons_succ]
            refine wpAnyT_take (i := 1) (oi := ⟨some 62, .load 45 (.tmp 61), _, _, _, _⟩) (v := ?vS5x1) rfl (by kernel_rfl) (by kernel_rfl) (by kernel_rfl) (by kernel_rfl) (by kernel_rfl) (fun _ _ _ h => h) (Or.inl ⟨by rfl, ?hyS5x1⟩) (by assumption) ?restS5x1
            case hyS5x1 => (intro w hSw; (try dsimp only at hSw); go_simp; try (with_reducible rfl))
            try simp only [Act.put, List.setIfInBounds_toArray, List.set_cons_zero, List.set_cons_succ]
            refine wpAnyT_takeB (i := 2) (oi := ⟨some 63, .move (.tmp 0), _, _, _, _⟩) (v := ?vS5x2) rfl (by kernel_rfl) (by kernel_rfl) (by kernel_rfl) (by kernel_rfl) (fun _ _ _ h => h) (Or.inl ⟨by rfl, ?hyS5x2⟩) (by assumption) ?restS5x2
            case hyS5x2 => (intro w hSw; (try dsimp only at hSw); go_simp; try (with_reducible rfl))
            try simp only [Act.put, List.setIfInBounds_toArray, List.set_cons_zero, List.set_cons_succ]
            refine wpAnyT_one (i := 3) (o := ⟨some 64, .call { callee := .value (.func 28), args := #[(.tmp 63)], argTypes := #[57] }, _, _, _, _⟩) (by kernel_rfl) rfl (fun K hK => ?_)
            go_simp
            refine calls_at (HLi.out U _ HRU.out.ln) (by with_reducible rfl) (by with_reducible rfl) ?_
            rintro e u3 ⟨rfl, h1, h2⟩
            go_wp2_with fail
            have HR3 : Hid (QsAt G B b w.heap.size (w.heap.size + 1) w u3 { SL.zero with k := 5, lits := L } (.slice none 0 0) (.slice none 0 0) (.slice va L.length vc) (.slice none 0 0) (lirR sc).2) := HRU.out.call h1 h2
            clear hHeld h1 h2
            have hHeld : True ∧ u3.cell? ⟨w.heap.size + 1, 5, none⟩ = some (.slice va L.length vc) := ⟨trivial, cell_of HR3.out.b3.o 5⟩
            refine hK.out _ _ ⟨trivial, fun _ => hHeld.2⟩ ?_
            clear hK K
            try simp only [Act.put, List.setIfInBounds_toArray, List.set_cons_zero, List.set_cons_succ]
            refine wpAnyT_one (i := 4) (o := ⟨some 65, .buildSlice 45 1 #[(0, (.tmp 64))], _, _, _, _⟩) (by kernel_rfl) rfl (fun K hK => ?_)
            go_simp
            obtain ⟨Y, hY⟩ : ∃ Y, u3.alloc (.cells #[.int .i64 (lirR sc).1] 3) = Y := ⟨_, rfl⟩
            have HSc2 : Hid (SrcAt Y (.slice (some ⟨u3.heap.size, 0, none⟩) 1 1) 1 1 [.int .i64 (lirR sc).1]) := src_1 (by rw [← hY]; exact heap_alloc_new u3 _) rfl
            have HY : Hid (u3.alloc (.cells #[.int .i64 (lirR sc).1] 3) = Y) := hY
            have HBY : Hid (Below u3.heap.size u3 Y) := by show Below _ _ _; rw [← hY]; exact (Below.refl _ _).alloc (Nat.le_refl _) _
            rw [hY]
            clear hY hHeld
            have hg3 := (HR3.out.below HBY.out).b3.o
            have hHeld : True ∧ Y.cell? ⟨w.heap.size + 1, 5, none⟩ = some (.slice va L.length vc) := ⟨trivial, cell_of hg3 5⟩
            clear hg3
            refine hK.out _ _ ⟨trivial, fun _ => hHeld.2⟩ ?_
            clear hK K
            try simp only [Act.put, List.setIfInBounds_toArray, List.set_cons_zero, List.set_cons_succ]
            refine wpAnyT_one (i := 5) (o := ⟨some 66, .call { callee := .builtin .append, args := #[(.tmp 62), (.tmp 65)], argTypes := #[45, 45] }, _, _, _, _⟩) (by kernel_rfl) rfl (fun K hK => ?_)
            have hown : Y.ownsRow (w.heap.size + 2) 3 1 (.slice va L.length vc) L.length (L.map (.int .i64)) := own_below HR3.out.own.l HBY.out
            refine op_append_src Y (.tmp 62) (.tmp 65) 45 3 (.int .i64 0) 1 8 rfl qund29 qinf3 rfl (by decide) (w.heap.size + 2) _ _ L.length 1 (L.map (.int .i64)) _ (by rfl) (by rfl) hown HSc2.out (by unfold maxLen; omega) (by omega) (Nat.le_trans HR3.out.sz HBY.out.size) (by rfl) ?_
            intro v6 w6 o1 o2 o3
            have hE := HR3.out.appL (y := (lirR sc).1) o1 (by show (u3.alloc (.cells #[.int .i64 (lirR sc).1] 3)).grownBy w6 _; rw [HY.out]; exact o2)
            obtain ⟨a6, c6, rfl⟩ := own_slice o1
            have HR6 : Hid (QsAt G B b w.heap.size (w.heap.size + 1) w (w6.setCell ⟨w.heap.size + 1, 5, none⟩ (.slice a6 (L.length + 1) c6)) { SL.zero with k := 5, lits := (L ++ [(lirR sc).1]) } (.slice none 0 0) (.slice none 0 0) (.slice a6 (L.length + 1) c6) (.slice none 0 0) (lirR sc).2) := hE.2
            have c0 : w6.cell? ⟨w.heap.size + 1, 5, none⟩ = some (.slice va L.length vc) := cell_of hE.1.o 5
            have cz : ∀ i, w6.frozen? ⟨w.heap.size + 1, i, none⟩ = false := frozen_of hE.1.o
            clear hE o1 o2 o3 hown hHeld
            refine hK.out _ _ ⟨trivial, fun _ => c0⟩ ?_
            have hHeld : True ∧ _ := ⟨trivial, c0⟩
            clear hK K
            try simp only [Act.put, List.setIfInBounds_toArray, List.set_cons_zero, List.set_cons_succ]
            refine wpAnyT_takeB (i := 6) (oi := ⟨some 67, .fieldAddr 47 (.tmp 5) 4, _, _, _, _⟩) (v := ?vS5x6) rfl (by kernel_rfl) (by kernel_rfl) (by kernel_rfl) (by kernel_rfl) (fun _ _ _ h => h) (Or.inl ⟨by rfl, ?hyS5x6⟩) (by assumption) ?restS5x6
            case hyS5x6 => (intro w hSw; (try dsimp only at hSw); go_simp; try (with_reducible rfl))
            try simp only [Act.put, List.setIfInBounds_toArray, List.set_cons_zero, List.set_cons_succ]
            refine wpAnyT_late (i := 7) (o := ⟨none, .store 45 (.tmp 67) (.tmp 66), _, _, _, _⟩) (by kernel_rfl) rfl (by kernel_rfl) (fun K hK => ?_)
            go_simp
            refine hK.out _ _ ?shS5x7 ?restS5x7
            case shS5x7 => ((try dsimp only); try exact trivial)
            clear hK K
            try simp only [Act.put, List.setIfInBounds_toArray, List.set_cons_zero, List.set_cons_succ]
            refine wpAnyT_done (by kernel_rfl) ?_ _
            obtain ⟨ZW, hZ⟩ : ∃ ZX, w6.setCell ⟨w.heap.size + 1, 5, none⟩ (.slice a6 (L.length + 1) c6) = ZX := ⟨_, rfl⟩
            rw [hZ] at HR6
            rw [hZ]
            clear hZ c0 cz hHeld HSc2 HY HBY HR3 HRU
            go_wp2_with fail
            go_roundg g'
            case measure => omega
            case rel =>
              exact ⟨_, _, _, HMn.out, HR6.out⟩
    rw [if_neg k6] at hR0
    rw [decide_eq_false k6] at e6
    clear k6
    by_cases k7 : x = [115, 111, 108, 120]
    · as_aux_lemma =>
        rw [if_pos k7] at hR0
        rw [decide_eq_true k7] at e7
        clear k7
        obtain ⟨W1, hW1⟩ : ∃ W, X2.setCell ⟨w.heap.size + 1, 0, none⟩ (.int .i64 5) = W := ⟨_, rfl⟩
        have H2 : Hid (QsAt G B b w.heap.size (w.heap.size + 1) w W1 { SL.zero with k := 5 } (.slice none 0 0) (.slice none 0 0) (.slice none 0 0) (.slice none 0 0) s) := by
          show QsAt _ _ _ _ _ _ _ _ _ _ _ _ _
          rw [← hW1]; exact H1.out.put 0 _ rfl (d9_own _ _ _ rfl rfl rfl rfl)
        have c0' : W1.cell? ⟨w.heap.size + 1, 0, none⟩ = some (.int .i64 5) := cell_of H2.out.b3.o 0
        have z0' := frozen_of H2.out.b3.o 0
        obtain ⟨W2, hW2⟩ : ∃ W, W1.setCell ⟨w.heap.size + 1, 0, none⟩ (.int .i64 11) = W := ⟨_, rfl⟩
        have H5 : Hid (QsAt G B b w.heap.size (w.heap.size + 1) w W2 { SL.zero with k := 11, lits := [] } (.slice none 0 0) (.slice none 0 0) (.slice none 0 0) (.slice none 0 0) s) := by
          show QsAt _ _ _ _ _ _ _ _ _ _ _ _ _
          rw [← hW2]; exact H2.out.put 0 _ rfl (d9_own _ _ _ rfl rfl rfl rfl)
        clear H2
        unfold solR at hR0
        have HRq : Hid (R = ({ SL.zero with k := 11, lits := (llR lirR (s.1.length + 1) [] s).1 }, (llR lirR (s.1.length + 1) [] s).2)) := hR0.symm
        clear hR0
        obtain ⟨all, hall⟩ : ∃ a, llR (lirR) (s.1.length + 1) [] s = a := ⟨_, rfl⟩
        rw [hall] at HRq
        have HM0 : Hid (QlM (lirR) (s.1.length + 1) s.1.length [] s all) := ⟨by omega, fun _ => ⟨Nat.le_refl _, by first | (simp; done) | (simp; omega)⟩, by first | (simp; done) | (simp; omega), hall.symm⟩
        clear hall
        go_wp2_with fail
        go_loopg [] (s.1.length + 1) (fun g wr => ∃ (L : List Int) (v : Value) (sc : RS), Hid (QlM (lirR) g s.1.length L sc all) ∧ Hid (QsAt G B b w.heap.size (w.heap.size + 1) w wr { SL.zero with k := 11, lits := L } (.slice none 0 0) (.slice none 0 0) v (.slice none 0 0) sc))
        case atStart => exact ⟨[], _, s, HM0.out, H5.out⟩
        case round =>
          clear HM0 H5
          obtain ⟨L, v, sc, HM, HQ⟩ := hrel
          have hos : wr.ownsRow (w.heap.size + 2) 3 1 v L.length (L.map (.int .i64)) := HQ.out.own.l
          obtain ⟨va, vc, hvs⟩ := own_slice hos
          clear hos
          subst hvs
          have HM1 := HMo.out wr sc HQ.out.ln
          cases hm : moreR sc with
          | false =>
            have HRs : Hid (all = (L, sc)) := qlm_stop HM.out hm
            rw [hm] at HM1
            have HM2 : Hid (Calls Tryz.prog 27 #[.pointer (some ⟨b, 0, none⟩)] wr fun e w2 => e = .returned (.bool false) ∧ w2 = wr) := HM1
            clear HM1 hm HM
            go_wp2_with fail
            refine calls_at HM2.out (by with_reducible rfl) (by with_reducible rfl) ?_
            rintro e wz ⟨rfl, hwz⟩
            rw [hwz]
            clear hwz
            go_wp2_with fail
            go_meet
            rw [HRq.out, HRs.out]
            exact ⟨_, _, _, _, HQ.out⟩
          | true =>
            cases gk with
            | zero => exact absurd HM.out.1 (by omega)
            | succ g' =>
            rw [hm] at HM1
            have HM2 : Hid (Calls Tryz.prog 27 #[.pointer (some ⟨b, 0, none⟩)] wr fun e w2 => e = .returned (.bool true) ∧ w2 = wr) := HM1
            have HMn : Hid (QlM (lirR) g' s.1.length (L ++ [(lirR sc).1]) (lirR sc).2 all) := qlm_next lirR_len HM.out hm
            have hal : L.length ≤ 9000002 := by have := HM.out.2.2.1; omega
            clear HM1 hm HM
            go_wp2_with fail
            refine calls_at HM2.out (by with_reducible rfl) (by with_reducible rfl) ?_
            rintro e wz ⟨rfl, hwz⟩
            rw [hwz]
            clear hwz HM2
            have HC0 : Hid (True ∧ wr.drew.cell? ⟨w.heap.size + 1, 5, none⟩ = some (.slice va L.length vc)) := ⟨trivial, cell_of HQ.out.b3.o 5⟩
            go_wp2_with fail
            refine wp_region_T (fun _ => True) (fun w' => w'.cell? ⟨w.heap.size + 1, 5, none⟩ = some (.slice va L.length vc)) [7] (by kernel_rfl) HC0.out (fun hHeld => ?_)
            have HRU : Hid (QsAt G B b w.heap.size (w.heap.size + 1) w wr.drew { SL.zero with k := 11, lits := L } (.slice none 0 0) (.slice none 0 0) (.slice va L.length vc) (.slice none 0 0) sc) := HQ.out.drewn
            clear HC0
            generalize wr.drew = U at hHeld HRU ⊢
            refine wpAnyT_takeB (i := 0) (oi := ⟨some 61, .fieldAddr 47 (.tmp 5) 4, _, _, _, _⟩) (v := ?vS11x0) rfl (by kernel_rfl) (by kernel_rfl) (by kernel_rfl) (by kernel_rfl) (fun _ _ _ h => h) (Or.inl ⟨by rfl, ?hyS11x0⟩) (by assumption) ?restS11x0
            case hyS11x0 => (intro w hSw; (try dsimp only at hSw); go_simp; try (with_reducible rfl))
            try simp only [Act.put, List.setIfInBounds_toArray, List.set_cons_zero, List.set_cons_succ]
            refine wpAnyT_take (i := 1) (oi := ⟨some 62, .load 45 (.tmp 61), _, _, _, _⟩) (v := ?vS11x1) rfl (by kernel_rfl) (by kernel_rfl) (by kernel_rfl) (by kernel_rfl) (by kernel_rfl) (fun _ _ _ h => h) (Or.inl ⟨by rfl, ?hyS11x1⟩) (by assumption) ?restS11x1
            case hyS11x1 => (intro w hSw; (try dsimp only at hSw); go_simp; try (with_reducible rfl))
            try simp only [Act.put, List.setIfInBounds_toArray, List.set_cons_zero, List.set_cons_succ]
            refine wpAnyT_takeB (i := 2) (oi := ⟨some 63, .move (.tmp 0), _, _, _, _⟩) (v := ?vS11x2) rfl (by kernel_rfl) (by kernel_rfl) (by kernel_rfl) (by kernel_rfl) (fun _ _ _ h => h) (Or.inl ⟨by rfl, ?hyS11x2⟩) (by assumption) ?restS11x2
            case hyS11x2 => (intro w hSw; (try dsimp only at hSw); go_simp; try (with_reducible rfl))
            try simp only [Act.put, List.setIfInBounds_toArray, List.set_cons_zero, List.set_cons_succ]
            refine wpAnyT_one (i := 3) (o := ⟨some 64, .call { callee := .value (.func 28), args := #[(.tmp 63)], argTypes := #[57] }, _, _, _, _⟩) (by kernel_rfl) rfl (fun K hK => ?_)
            go_simp
            refine calls_at (HLi.out U _ HRU.out.ln) (by with_reducible rfl) (by with_reducible rfl) ?_
            rintro e u3 ⟨rfl, h1, h2⟩
            go_wp2_with fail
            have HR3 : Hid (QsAt G B b w.heap.size (w.heap.size + 1) w u3 { SL.zero with k := 11, lits := L } (.slice none 0 0) (.slice none 0 0) (.slice va L.length vc) (.slice none 0 0) (lirR sc).2) := HRU.out.call h1 h2
            clear hHeld h1 h2
            have hHeld : True ∧ u3.cell? ⟨w.heap.size + 1, 5, none⟩ = some (.slice va L.length vc) := ⟨trivial, cell_of HR3.out.b3.o 5⟩
            refine hK.out _ _ ⟨trivial, fun _ => hHeld.2⟩ ?_
            clear hK K
            try simp only [Act.put, List.setIfInBounds_toArray, List.set_cons_zero, List.set_cons_succ]
            refine wpAnyT_one (i := 4) (o := ⟨some 65, .buildSlice 45 1 #[(0, (.tmp 64))], _, _, _, _⟩) (by kernel_rfl) rfl (fun K hK => ?_)
            go_simp
            obtain ⟨Y, hY⟩ : ∃ Y, u3.alloc (.cells #[.int .i64 (lirR sc).1] 3) = Y := ⟨_, rfl⟩
            have HSc2 : Hid (SrcAt Y (.slice (some ⟨u3.heap.size, 0, none⟩) 1 1) 1 1 [.int .i64 (lirR sc).1]) := src_1 (by rw [← hY]; exact heap_alloc_new u3 _) rfl
            have HY : Hid (u3.alloc (.cells #[.int .i64 (lirR sc).1] 3) = Y) := hY
            have HBY : Hid (Below u3.heap.size u3 Y) := by show Below _ _ _; rw [← hY]; exact (Below.refl _ _).alloc (Nat.le_refl _) _
            rw [hY]
            clear hY hHeld
            have hg3 := (HR3.out.below HBY.out).b3.o
            have hHeld : True ∧ Y.cell? ⟨w.heap.size + 1, 5, none⟩ = some (.slice va L.length vc) := ⟨trivial, cell_of hg3 5⟩
            clear hg3
            refine hK.out _ _ ⟨trivial, fun _ => hHeld.2⟩ ?_
            clear hK K
            try simp only [Act.put, List.setIfInBounds_toArray, List.set_cons_zero, List.set_cons_succ]
            refine wpAnyT_one (i := 5) (o := ⟨some 66, .call { callee := .builtin .append, args := #[(.tmp 62), (.tmp 65)], argTypes := #[45, 45] }, _, _, _, _⟩) (by kernel_rfl) rfl (fun K hK => ?_)
            have hown : Y.ownsRow (w.heap.size + 2) 3 1 (.slice va L.length vc) L.length (L.map (.int .i64)) := own_below HR3.out.own.l HBY.out
            refine op_append_src Y (.tmp 62) (.tmp 65) 45 3 (.int .i64 0) 1 8 rfl qund29 qinf3 rfl (by decide) (w.heap.size + 2) _ _ L.length 1 (L.map (.int .i64)) _ (by rfl) (by rfl) hown HSc2.out (by unfold maxLen; omega) (by omega) (Nat.le_trans HR3.out.sz HBY.out.size) (by rfl) ?_
            intro v6 w6 o1 o2 o3
            have hE := HR3.out.appL (y := (lirR sc).1) o1 (by show (u3.alloc (.cells #[.int .i64 (lirR sc).1] 3)).grownBy w6 _; rw [HY.out]; exact o2)
            obtain ⟨a6, c6, rfl⟩ := own_slice o1
            have HR6 : Hid (QsAt G B b w.heap.size (w.heap.size + 1) w (w6.setCell ⟨w.heap.size + 1, 5, none⟩ (.slice a6 (L.length + 1) c6)) { SL.zero with k := 11, lits := (L ++ [(lirR sc).1]) } (.slice none 0 0) (.slice none 0 0) (.slice a6 (L.length + 1) c6) (.slice none 0 0) (lirR sc).2) := hE.2
            have c0 : w6.cell? ⟨w.heap.size + 1, 5, none⟩ = some (.slice va L.length vc) := cell_of hE.1.o 5
            have cz : ∀ i, w6.frozen? ⟨w.heap.size + 1, i, none⟩ = false := frozen_of hE.1.o
            clear hE o1 o2 o3 hown hHeld
            refine hK.out _ _ ⟨trivial, fun _ => c0⟩ ?_
            have hHeld : True ∧ _ := ⟨trivial, c0⟩
            clear hK K
            try simp only [Act.put, List.setIfInBounds_toArray, List.set_cons_zero, List.set_cons_succ]
            refine wpAnyT_takeB (i := 6) (oi := ⟨some 67, .fieldAddr 47 (.tmp 5) 4, _, _, _, _⟩) (v := ?vS11x6) rfl (by kernel_rfl) (by kernel_rfl) (by kernel_rfl) (by kernel_rfl) (fun _ _ _ h => h) (Or.inl ⟨by rfl, ?hyS11x6⟩) (by assumption) ?restS11x6
            case hyS11x6 => (intro w hSw; (try dsimp only at hSw); go_simp; try (with_reducible rfl))
            try simp only [Act.put, List.setIfInBounds_toArray, List.set_cons_zero, List.set_cons_succ]
            refine wpAnyT_late (i := 7) (o := ⟨none, .store 45 (.tmp 67) (.tmp 66), _, _, _, _⟩) (by kernel_rfl) rfl (by kernel_rfl) (fun K hK => ?_)
            go_simp
            refine hK.out _ _ ?shS11x7 ?restS11x7
            case shS11x7 => ((try dsimp only); try exact trivial)
            clear hK K
            try simp only [Act.put, List.setIfInBounds_toArray, List.set_cons_zero, List.set_cons_succ]
            refine wpAnyT_done (by kernel_rfl) ?_ _
            obtain ⟨ZW, hZ⟩ : ∃ ZX, w6.setCell ⟨w.heap.size + 1, 5, none⟩ (.slice a6 (L.length + 1) c6) = ZX := ⟨_, rfl⟩
            rw [hZ] at HR6
            rw [hZ]
            clear hZ c0 cz hHeld HSc2 HY HBY HR3 HRU
            go_wp2_with fail
            go_roundg g'
            case measure => omega
            case rel =>
              exact ⟨_, _, _, HMn.out, HR6.out⟩
    rw [if_neg k7] at hR0
    rw [decide_eq_false k7] at e7
    clear k7
    by_cases k8 : x = [100, 101, 108]
    · as_aux_lemma =>
        rw [if_pos k8] at hR0
        rw [decide_eq_true k8] at e8
        clear k8
        obtain ⟨W1, hW1⟩ : ∃ W, X2.setCell ⟨w.heap.size + 1, 0, none⟩ (.int .i64 6) = W := ⟨_, rfl⟩
        have H2 : Hid (QsAt G B b w.heap.size (w.heap.size + 1) w W1 { SL.zero with k := 6 } (.slice none 0 0) (.slice none 0 0) (.slice none 0 0) (.slice none 0 0) s) := by
          show QsAt _ _ _ _ _ _ _ _ _ _ _ _ _
          rw [← hW1]; exact H1.out.put 0 _ rfl (d9_own _ _ _ rfl rfl rfl rfl)
        unfold delR at hR0
        have hnl1 := (oneR_len [105, 100] s).1
        have HRq : Hid (R = ({ SL.zero with k := 6, ids := (llR (numR 1) ((numR 1 (oneR [105, 100] s)).2.1.length + 1) [(numR 1 (oneR [105, 100] s)).1] (numR 1 (oneR [105, 100] s)).2).1 }, (llR (numR 1) ((numR 1 (oneR [105, 100] s)).2.1.length + 1) [(numR 1 (oneR [105, 100] s)).1] (numR 1 (oneR [105, 100] s)).2).2)) := hR0.symm
        have HO1 : Hid (Calls Tryz.prog 29 #[.pointer (some ⟨b, 0, none⟩), .string ⟨#[105, 100]⟩] W1 (LR G B b (.tuple #[]) (oneR [105, 100] s) W1)) := HOn.out [105, 100] W1 s H2.out.ln
        clear hR0
        go_wp2_with fail
        try rw [hW1]
        refine calls_at HO1.out (by with_reducible rfl) (by with_reducible rfl) ?_
        rintro e w4 ⟨rfl, q1, q2⟩
        have H4 : Hid (QsAt G B b w.heap.size (w.heap.size + 1) w w4 { SL.zero with k := 6, ids := [] } (.slice none 0 0) (.slice none 0 0) (.slice none 0 0) (.slice none 0 0) (oneR [105, 100] s)) := H2.out.call q1 q2
        clear q1 q2 H2 hW1 c0 z0
        obtain ⟨s2, hs2⟩ : ∃ y, oneR [105, 100] s = y := ⟨_, rfl⟩
        rw [hs2] at HRq H4 hnl1
        clear hs2
        have hnl := (numR_len 1 s2).1
        obtain ⟨va, vc, L, hva, hvc, hL⟩ : ∃ (va : Option Addr) (vc : Nat) (L : List (List UInt8)), va = none ∧ vc = 0 ∧ L = [] := ⟨_, _, _, rfl, rfl, rfl⟩
        have H5 : Hid (QsAt G B b w.heap.size (w.heap.size + 1) w w4 { SL.zero with k := 6, ids := L } (.slice none 0 0) (.slice none 0 0) (.slice none 0 0) (.slice va L.length vc) s2) := by rw [hva, hvc, hL]; exact H4.out
        have hal : L.length ≤ 9000002 := by rw [hL]; simp
        have HL : Hid (L = []) := hL
        clear hva hvc hL H4
        have HC0 : Hid (True ∧ w4.drew.cell? ⟨w.heap.size + 1, 6, none⟩ = some (.slice va L.length vc)) := ⟨trivial, cell_of H5.out.b3.o 6⟩
        go_wp2_with fail
        refine wp_region_T (fun _ => True) (fun w' => w'.cell? ⟨w.heap.size + 1, 6, none⟩ = some (.slice va L.length vc)) [7] (by kernel_rfl) HC0.out (fun hHeld => ?_)
        have HRU : Hid (QsAt G B b w.heap.size (w.heap.size + 1) w w4.drew { SL.zero with k := 6, ids := L } (.slice none 0 0) (.slice none 0 0) (.slice none 0 0) (.slice va L.length vc) s2) := H5.out.drewn
        clear HC0
        generalize w4.drew = U at hHeld HRU ⊢
        refine wpAnyT_takeB (i := 0) (oi := ⟨some 73, .fieldAddr 47 (.tmp 5) 5, _, _, _, _⟩) (v := ?vDx0) rfl (by kernel_rfl) (by kernel_rfl) (by kernel_rfl) (by kernel_rfl) (fun _ _ _ h => h) (Or.inl ⟨by rfl, ?hyDx0⟩) (by assumption) ?restDx0
        case hyDx0 => (intro w hSw; (try dsimp only at hSw); go_simp; try (with_reducible rfl))
        try simp only [Act.put, List.setIfInBounds_toArray, List.set_cons_zero, List.set_cons_succ]
        refine wpAnyT_take (i := 1) (oi := ⟨some 74, .load 39 (.tmp 73), _, _, _, _⟩) (v := ?vDx1) rfl (by kernel_rfl) (by kernel_rfl) (by kernel_rfl) (by kernel_rfl) (by kernel_rfl) (fun _ _ _ h => h) (Or.inl ⟨by rfl, ?hyDx1⟩) (by assumption) ?restDx1
        case hyDx1 => (intro w hSw; (try dsimp only at hSw); go_simp; try (with_reducible rfl))
        try simp only [Act.put, List.setIfInBounds_toArray, List.set_cons_zero, List.set_cons_succ]
        refine wpAnyT_takeB (i := 2) (oi := ⟨some 75, .move (.tmp 0), _, _, _, _⟩) (v := ?vDx2) rfl (by kernel_rfl) (by kernel_rfl) (by kernel_rfl) (by kernel_rfl) (fun _ _ _ h => h) (Or.inl ⟨by rfl, ?hyDx2⟩) (by assumption) ?restDx2
        case hyDx2 => (intro w hSw; (try dsimp only at hSw); go_simp; try (with_reducible rfl))
        try simp only [Act.put, List.setIfInBounds_toArray, List.set_cons_zero, List.set_cons_succ]
        refine wpAnyT_one (i := 3) (o := ⟨some 76, .call { callee := .value (.func 24), args := #[(.tmp 75), (.const (.int .i64 1))], argTypes := #[57, 3] }, _, _, _, _⟩) (by kernel_rfl) rfl (fun K hK => ?_)
        go_simp
        refine calls_at (HN1.out U _ HRU.out.ln) (by with_reducible rfl) (by with_reducible rfl) ?_
        rintro e u3 ⟨rfl, h1, h2⟩
        go_wp2_with fail
        have HR3 : Hid (QsAt G B b w.heap.size (w.heap.size + 1) w u3 { SL.zero with k := 6, ids := L } (.slice none 0 0) (.slice none 0 0) (.slice none 0 0) (.slice va L.length vc) (numR 1 s2).2) := HRU.out.call h1 h2
        clear hHeld h1 h2
        have hHeld : True ∧ u3.cell? ⟨w.heap.size + 1, 6, none⟩ = some (.slice va L.length vc) := ⟨trivial, cell_of HR3.out.b3.o 6⟩
        refine hK.out _ _ ⟨trivial, fun _ => hHeld.2⟩ ?_
        clear hK K
        try simp only [Act.put, List.setIfInBounds_toArray, List.set_cons_zero, List.set_cons_succ]
        refine wpAnyT_one (i := 4) (o := ⟨some 77, .buildSlice 39 1 #[(0, (.tmp 76))], _, _, _, _⟩) (by kernel_rfl) rfl (fun K hK => ?_)
        go_simp
        obtain ⟨Y, hY⟩ : ∃ Y, u3.alloc (.cells #[.string (txtOf (numR 1 s2).1)] 9) = Y := ⟨_, rfl⟩
        have HSc2 : Hid (SrcAt Y (.slice (some ⟨u3.heap.size, 0, none⟩) 1 1) 1 1 [.string (txtOf (numR 1 s2).1)]) := src_1 (by rw [← hY]; exact heap_alloc_new u3 _) rfl
        have HY : Hid (u3.alloc (.cells #[.string (txtOf (numR 1 s2).1)] 9) = Y) := hY
        have HBY : Hid (Below u3.heap.size u3 Y) := by show Below _ _ _; rw [← hY]; exact (Below.refl _ _).alloc (Nat.le_refl _) _
        rw [hY]
        clear hY hHeld
        have hg3 := (HR3.out.below HBY.out).b3.o
        have hHeld : True ∧ Y.cell? ⟨w.heap.size + 1, 6, none⟩ = some (.slice va L.length vc) := ⟨trivial, cell_of hg3 6⟩
        clear hg3
        refine hK.out _ _ ⟨trivial, fun _ => hHeld.2⟩ ?_
        clear hK K
        try simp only [Act.put, List.setIfInBounds_toArray, List.set_cons_zero, List.set_cons_succ]
        refine wpAnyT_one (i := 5) (o := ⟨some 78, .call { callee := .builtin .append, args := #[(.tmp 74), (.tmp 77)], argTypes := #[39, 39] }, _, _, _, _⟩) (by kernel_rfl) rfl (fun K hK => ?_)
        have hown : Y.ownsRow (w.heap.size + 2) 9 1 (.slice va L.length vc) L.length (L.map fun x => .string (txtOf x)) := own_below HR3.out.own.i HBY.out
        refine op_append_src Y (.tmp 74) (.tmp 77) 39 9 (.string ⟨#[]⟩) 1 16 rfl wund winfo rfl (by decide) (w.heap.size + 2) _ _ L.length 1 (L.map fun x => .string (txtOf x)) _ (by rfl) (by rfl) hown HSc2.out (by unfold maxLen; omega) (by omega) (Nat.le_trans HR3.out.sz HBY.out.size) (by rfl) ?_
        intro v6 w6 o1 o2 o3
        have hE := HR3.out.appI (y := (numR 1 s2).1) o1 (by show (u3.alloc (.cells #[.string (txtOf (numR 1 s2).1)] 9)).grownBy w6 _; rw [HY.out]; exact o2)
        obtain ⟨a6, c6, rfl⟩ := own_slice o1
        have HR6 : Hid (QsAt G B b w.heap.size (w.heap.size + 1) w (w6.setCell ⟨w.heap.size + 1, 6, none⟩ (.slice a6 (L.length + 1) c6)) { SL.zero with k := 6, ids := (L ++ [(numR 1 s2).1]) } (.slice none 0 0) (.slice none 0 0) (.slice none 0 0) (.slice a6 (L.length + 1) c6) (numR 1 s2).2) := hE.2
        have c0 : w6.cell? ⟨w.heap.size + 1, 6, none⟩ = some (.slice va L.length vc) := cell_of hE.1.o 6
        have cz : ∀ i, w6.frozen? ⟨w.heap.size + 1, i, none⟩ = false := frozen_of hE.1.o
        clear hE o1 o2 o3 hown hHeld
        refine hK.out _ _ ⟨trivial, fun _ => c0⟩ ?_
        have hHeld : True ∧ _ := ⟨trivial, c0⟩
        clear hK K
        try simp only [Act.put, List.setIfInBounds_toArray, List.set_cons_zero, List.set_cons_succ]
        refine wpAnyT_takeB (i := 6) (oi := ⟨some 79, .fieldAddr 47 (.tmp 5) 5, _, _, _, _⟩) (v := ?vDx6) rfl (by kernel_rfl) (by kernel_rfl) (by kernel_rfl) (by kernel_rfl) (fun _ _ _ h => h) (Or.inl ⟨by rfl, ?hyDx6⟩) (by assumption) ?restDx6
        case hyDx6 => (intro w hSw; (try dsimp only at hSw); go_simp; try (with_reducible rfl))
        try simp only [Act.put, List.setIfInBounds_toArray, List.set_cons_zero, List.set_cons_succ]
        refine wpAnyT_late (i := 7) (o := ⟨none, .store 39 (.tmp 79) (.tmp 78), _, _, _, _⟩) (by kernel_rfl) rfl (by kernel_rfl) (fun K hK => ?_)
        go_simp
        refine hK.out _ _ ?shDx7 ?restDx7
        case shDx7 => ((try dsimp only); try exact trivial)
        clear hK K
        try simp only [Act.put, List.setIfInBounds_toArray, List.set_cons_zero, List.set_cons_succ]
        refine wpAnyT_done (by kernel_rfl) ?_ _
        obtain ⟨ZW, hZ⟩ : ∃ ZX, w6.setCell ⟨w.heap.size + 1, 6, none⟩ (.slice a6 (L.length + 1) c6) = ZX := ⟨_, rfl⟩
        rw [hZ] at HR6
        rw [hZ]
        clear hZ c0 cz hHeld HSc2 HY HBY HR3 HRU
        obtain ⟨y, hy⟩ : ∃ y, (numR 1 s2).1 = y := ⟨_, rfl⟩
        obtain ⟨s3, hs3⟩ : ∃ y, (numR 1 s2).2 = y := ⟨_, rfl⟩
        rw [hy, hs3] at HRq HR6
        rw [hs3] at hnl
        have H6 : Hid (QsAt G B b w.heap.size (w.heap.size + 1) w ZW { SL.zero with k := 6, ids := [y] } (.slice none 0 0) (.slice none 0 0) (.slice none 0 0) (.slice a6 (L.length + 1) c6) s3) := by
          have h6 := HR6.out
          rw [HL.out] at h6
          rw [HL.out]
          exact h6
        clear hy hs3 HR6 H5
        obtain ⟨all, hall⟩ : ∃ a, llR (numR 1) (s3.1.length + 1) [y] s3 = a := ⟨_, rfl⟩
        rw [hall] at HRq
        have HM0 : Hid (QlM (numR 1) (s3.1.length + 1) (s3.1.length + 1) [y] s3 all) := ⟨by omega, fun _ => ⟨Nat.le_refl _, by first | (simp; done) | (simp; omega)⟩, by first | (simp; done) | (simp; omega), hall.symm⟩
        clear hall
        go_wp2_with fail
        go_loopg [] (s3.1.length + 1) (fun g wr => ∃ (L : List (List UInt8)) (v : Value) (sc : RS), Hid (QlM (numR 1) g (s3.1.length + 1) L sc all) ∧ Hid (QsAt G B b w.heap.size (w.heap.size + 1) w wr { SL.zero with k := 6, ids := L } (.slice none 0 0) (.slice none 0 0) (.slice none 0 0) v sc))
        case atStart => exact ⟨[y], _, s3, HM0.out, H6.out⟩
        case round =>
          clear HM0 H6
          obtain ⟨L, v, sc, HM, HQ⟩ := hrel
          have hos : wr.ownsRow (w.heap.size + 2) 9 1 v L.length (L.map fun x => .string (txtOf x)) := HQ.out.own.i
          obtain ⟨va, vc, hvs⟩ := own_slice hos
          clear hos
          subst hvs
          have HM1 := HMo.out wr sc HQ.out.ln
          cases hm : moreR sc with
          | false =>
            have HRs : Hid (all = (L, sc)) := qlm_stop HM.out hm
            rw [hm] at HM1
            have HM2 : Hid (Calls Tryz.prog 27 #[.pointer (some ⟨b, 0, none⟩)] wr fun e w2 => e = .returned (.bool false) ∧ w2 = wr) := HM1
            clear HM1 hm HM
            go_wp2_with fail
            refine calls_at HM2.out (by with_reducible rfl) (by with_reducible rfl) ?_
            rintro e wz ⟨rfl, hwz⟩
            rw [hwz]
            clear hwz
            go_wp2_with fail
            go_meet
            rw [HRq.out, HRs.out]
            exact ⟨_, _, _, _, HQ.out⟩
          | true =>
            cases gk with
            | zero => exact absurd HM.out.1 (by omega)
            | succ g' =>
            rw [hm] at HM1
            have HM2 : Hid (Calls Tryz.prog 27 #[.pointer (some ⟨b, 0, none⟩)] wr fun e w2 => e = .returned (.bool true) ∧ w2 = wr) := HM1
            have HMn : Hid (QlM (numR 1) g' (s3.1.length + 1) (L ++ [(numR 1 sc).1]) (numR 1 sc).2 all) := qlm_next (numR_len 1) HM.out hm
            have hal : L.length ≤ 9000002 := by have := HM.out.2.2.1; omega
            clear HM1 hm HM
            go_wp2_with fail
            refine calls_at HM2.out (by with_reducible rfl) (by with_reducible rfl) ?_
            rintro e wz ⟨rfl, hwz⟩
            rw [hwz]
            clear hwz HM2
            have HC0 : Hid (True ∧ wr.drew.cell? ⟨w.heap.size + 1, 6, none⟩ = some (.slice va L.length vc)) := ⟨trivial, cell_of HQ.out.b3.o 6⟩
            go_wp2_with fail
            refine wp_region_T (fun _ => True) (fun w' => w'.cell? ⟨w.heap.size + 1, 6, none⟩ = some (.slice va L.length vc)) [7] (by kernel_rfl) HC0.out (fun hHeld => ?_)
            have HRU : Hid (QsAt G B b w.heap.size (w.heap.size + 1) w wr.drew { SL.zero with k := 6, ids := L } (.slice none 0 0) (.slice none 0 0) (.slice none 0 0) (.slice va L.length vc) sc) := HQ.out.drewn
            clear HC0
            generalize wr.drew = U at hHeld HRU ⊢
            refine wpAnyT_takeB (i := 0) (oi := ⟨some 82, .fieldAddr 47 (.tmp 5) 5, _, _, _, _⟩) (v := ?vEx0) rfl (by kernel_rfl) (by kernel_rfl) (by kernel_rfl) (by kernel_rfl) (fun _ _ _ h => h) (Or.inl ⟨by rfl, ?hyEx0⟩) (by assumption) ?restEx0
            case hyEx0 => (intro w hSw; (try dsimp only at hSw); go_simp; try (with_reducible rfl))
            try simp only [Act.put, List.setIfInBounds_toArray, List.set_cons_zero, List.set_cons_succ]
            refine wpAnyT_take (i := 1) (oi := ⟨some 83, .load 39 (.tmp 82), _, _, _, _⟩) (v := ?vEx1) rfl (by kernel_rfl) (by kernel_rfl) (by kernel_rfl) (by kernel_rfl) (by kernel_rfl) (fun _ _ _ h => h) (Or.inl ⟨by rfl, ?hyEx1⟩) (by assumption) ?restEx1
            case hyEx1 => (intro w hSw; (try dsimp only at hSw); go_simp; try (with_reducible rfl))
            try simp only [Act.put, List.setIfInBounds_toArray, List.set_cons_zero, List.set_cons_succ]
            refine wpAnyT_takeB (i := 2) (oi := ⟨some 84, .move (.tmp 0), _, _, _, _⟩) (v := ?vEx2) rfl (by kernel_rfl) (by kernel_rfl) (by kernel_rfl) (by kernel_rfl) (fun _ _ _ h => h) (Or.inl ⟨by rfl, ?hyEx2⟩) (by assumption) ?restEx2
            case hyEx2 => (intro w hSw; (try dsimp only at hSw); go_simp; try (with_reducible rfl))
            try simp only [Act.put, List.setIfInBounds_toArray, List.set_cons_zero, List.set_cons_succ]
            refine wpAnyT_one (i := 3) (o := ⟨some 85, .call { callee := .value (.func 24), args := #[(.tmp 84), (.const (.int .i64 1))], argTypes := #[57, 3] }, _, _, _, _⟩) (by kernel_rfl) rfl (fun K hK => ?_)
            go_simp
            refine calls_at (HN1.out U _ HRU.out.ln) (by with_reducible rfl) (by with_reducible rfl) ?_
            rintro e u3 ⟨rfl, h1, h2⟩
            go_wp2_with fail
            have HR3 : Hid (QsAt G B b w.heap.size (w.heap.size + 1) w u3 { SL.zero with k := 6, ids := L } (.slice none 0 0) (.slice none 0 0) (.slice none 0 0) (.slice va L.length vc) (numR 1 sc).2) := HRU.out.call h1 h2
            clear hHeld h1 h2
            have hHeld : True ∧ u3.cell? ⟨w.heap.size + 1, 6, none⟩ = some (.slice va L.length vc) := ⟨trivial, cell_of HR3.out.b3.o 6⟩
            refine hK.out _ _ ⟨trivial, fun _ => hHeld.2⟩ ?_
            clear hK K
            try simp only [Act.put, List.setIfInBounds_toArray, List.set_cons_zero, List.set_cons_succ]
            refine wpAnyT_one (i := 4) (o := ⟨some 86, .buildSlice 39 1 #[(0, (.tmp 85))], _, _, _, _⟩) (by kernel_rfl) rfl (fun K hK => ?_)
            go_simp
            obtain ⟨Y, hY⟩ : ∃ Y, u3.alloc (.cells #[.string (txtOf (numR 1 sc).1)] 9) = Y := ⟨_, rfl⟩
            have HSc2 : Hid (SrcAt Y (.slice (some ⟨u3.heap.size, 0, none⟩) 1 1) 1 1 [.string (txtOf (numR 1 sc).1)]) := src_1 (by rw [← hY]; exact heap_alloc_new u3 _) rfl
            have HY : Hid (u3.alloc (.cells #[.string (txtOf (numR 1 sc).1)] 9) = Y) := hY
            have HBY : Hid (Below u3.heap.size u3 Y) := by show Below _ _ _; rw [← hY]; exact (Below.refl _ _).alloc (Nat.le_refl _) _
            rw [hY]
            clear hY hHeld
            have hg3 := (HR3.out.below HBY.out).b3.o
            have hHeld : True ∧ Y.cell? ⟨w.heap.size + 1, 6, none⟩ = some (.slice va L.length vc) := ⟨trivial, cell_of hg3 6⟩
            clear hg3
            refine hK.out _ _ ⟨trivial, fun _ => hHeld.2⟩ ?_
            clear hK K
            try simp only [Act.put, List.setIfInBounds_toArray, List.set_cons_zero, List.set_cons_succ]
            refine wpAnyT_one (i := 5) (o := ⟨some 87, .call { callee := .builtin .append, args := #[(.tmp 83), (.tmp 86)], argTypes := #[39, 39] }, _, _, _, _⟩) (by kernel_rfl) rfl (fun K hK => ?_)
            have hown : Y.ownsRow (w.heap.size + 2) 9 1 (.slice va L.length vc) L.length (L.map fun x => .string (txtOf x)) := own_below HR3.out.own.i HBY.out
            refine op_append_src Y (.tmp 83) (.tmp 86) 39 9 (.string ⟨#[]⟩) 1 16 rfl wund winfo rfl (by decide) (w.heap.size + 2) _ _ L.length 1 (L.map fun x => .string (txtOf x)) _ (by rfl) (by rfl) hown HSc2.out (by unfold maxLen; omega) (by omega) (Nat.le_trans HR3.out.sz HBY.out.size) (by rfl) ?_
            intro v6 w6 o1 o2 o3
            have hE := HR3.out.appI (y := (numR 1 sc).1) o1 (by show (u3.alloc (.cells #[.string (txtOf (numR 1 sc).1)] 9)).grownBy w6 _; rw [HY.out]; exact o2)
            obtain ⟨a6, c6, rfl⟩ := own_slice o1
            have HR6 : Hid (QsAt G B b w.heap.size (w.heap.size + 1) w (w6.setCell ⟨w.heap.size + 1, 6, none⟩ (.slice a6 (L.length + 1) c6)) { SL.zero with k := 6, ids := (L ++ [(numR 1 sc).1]) } (.slice none 0 0) (.slice none 0 0) (.slice none 0 0) (.slice a6 (L.length + 1) c6) (numR 1 sc).2) := hE.2
            have c0 : w6.cell? ⟨w.heap.size + 1, 6, none⟩ = some (.slice va L.length vc) := cell_of hE.1.o 6
            have cz : ∀ i, w6.frozen? ⟨w.heap.size + 1, i, none⟩ = false := frozen_of hE.1.o
            clear hE o1 o2 o3 hown hHeld
            refine hK.out _ _ ⟨trivial, fun _ => c0⟩ ?_
            have hHeld : True ∧ _ := ⟨trivial, c0⟩
            clear hK K
            try simp only [Act.put, List.setIfInBounds_toArray, List.set_cons_zero, List.set_cons_succ]
            refine wpAnyT_takeB (i := 6) (oi := ⟨some 88, .fieldAddr 47 (.tmp 5) 5, _, _, _, _⟩) (v := ?vEx6) rfl (by kernel_rfl) (by kernel_rfl) (by kernel_rfl) (by kernel_rfl) (fun _ _ _ h => h) (Or.inl ⟨by rfl, ?hyEx6⟩) (by assumption) ?restEx6
            case hyEx6 => (intro w hSw; (try dsimp only at hSw); go_simp; try (with_reducible rfl))
            try simp only [Act.put, List.setIfInBounds_toArray, List.set_cons_zero, List.set_cons_succ]
            refine wpAnyT_late (i := 7) (o := ⟨none, .store 39 (.tmp 88) (.tmp 87), _, _, _, _⟩) (by kernel_rfl) rfl (by kernel_rfl) (fun K hK => ?_)
            go_simp
            refine hK.out _ _ ?shEx7 ?restEx7
            case shEx7 => ((try dsimp only); try exact trivial)
            clear hK K
            try simp only [Act.put, List.setIfInBounds_toArray, List.set_cons_zero, List.set_cons_succ]
            refine wpAnyT_done (by kernel_rfl) ?_ _
            obtain ⟨ZW, hZ⟩ : ∃ ZX, w6.setCell ⟨w.heap.size + 1, 6, none⟩ (.slice a6 (L.length + 1) c6) = ZX := ⟨_, rfl⟩
            rw [hZ] at HR6
            rw [hZ]
            clear hZ c0 cz hHeld HSc2 HY HBY HR3 HRU
            go_wp2_with fail
            go_roundg g'
            case measure => omega
            case rel =>
              exact ⟨_, _, _, HMn.out, HR6.out⟩
    rw [if_neg k8] at hR0
    rw [decide_eq_false k8] at e8
    clear k8
    by_cases k9 : x = [111, 117, 116, 112, 117, 116]
    · as_aux_lemma =>
        rw [if_pos k9] at hR0
        rw [decide_eq_true k9] at e9
        clear k9
        obtain ⟨W1, hW1⟩ : ∃ W, X2.setCell ⟨w.heap.size + 1, 0, none⟩ (.int .i64 8) = W := ⟨_, rfl⟩
        have H2 : Hid (QsAt G B b w.heap.size (w.heap.size + 1) w W1 { SL.zero with k := 8 } (.slice none 0 0) (.slice none 0 0) (.slice none 0 0) (.slice none 0 0) s) := by
          show QsAt _ _ _ _ _ _ _ _ _ _ _ _ _
          rw [← hW1]; exact H1.out.put 0 _ rfl (d9_own _ _ _ rfl rfl rfl rfl)
        have HRq : Hid (R = ({ SL.zero with k := 8 }, oneR [78, 79, 78, 69] s)) := hR0.symm
        have HO1 : Hid (Calls Tryz.prog 29 #[.pointer (some ⟨b, 0, none⟩), .string ⟨#[78, 79, 78, 69]⟩] W1 (LR G B b (.tuple #[]) (oneR [78, 79, 78, 69] s) W1)) := HOn.out [78, 79, 78, 69] W1 s H2.out.ln
        clear hR0
        go_wp2_with fail
        try rw [hW1]
        refine calls_at HO1.out (by with_reducible rfl) (by with_reducible rfl) ?_
        rintro e w4 ⟨rfl, q1, q2⟩
        have HF : Hid (QsAt G B b w.heap.size (w.heap.size + 1) w w4 { SL.zero with k := 8 } (.slice none 0 0) (.slice none 0 0) (.slice none 0 0) (.slice none 0 0) (oneR [78, 79, 78, 69] s)) := H2.out.call q1 q2
        clear q1 q2
        go_wp2_with fail
        go_meet
        rw [HRq.out]
        exact ⟨_, _, _, _, HF.out⟩
    rw [if_neg k9] at hR0
    rw [decide_eq_false k9] at e9
    clear k9
    by_cases k10 : x = [99, 111, 110, 99, 108, 117, 115, 105, 111, 110]
    · skip
      rw [if_pos k10] at hR0
      rw [decide_eq_true k10] at e10
      clear k10
      have HRq : Hid (R = endsR s) := hR0.symm
      have HE := HEn.out X2 s H1.out.ln
      obtain ⟨⟨d, sd⟩, hd⟩ : ∃ r, endsR s = r := ⟨_, rfl⟩
      rw [hd] at HE HRq
      have HE2 : Hid (Calls Tryz.prog 30 #[.pointer (some ⟨b, 0, none⟩)] X2 (QeOut G B b X2 (d, sd))) := HE
      clear hR0 hd HE
      go_wp2_with fail
      refine calls_at HE2.out (by with_reducible rfl) (by with_reducible rfl) ?_
      rintro e w3 ⟨vo, vp, vl, vi, rfl, q0, q1, q2⟩
      have H3 : Hid (QsAt G B b w.heap.size (w.heap.size + 1) w w3 SL.zero (.slice none 0 0) (.slice none 0 0) (.slice none 0 0) (.slice none 0 0) sd) := H1.out.call q1 q2
      have hsz := H1.out.sz
      obtain ⟨p, hp⟩ : ∃ p, w.heap.size + 1 = p := ⟨_, rfl⟩
      have HP : Hid (w.heap.size + 1 = p) := hp
      rw [hp] at H3
      have q0' : SlOwn (w.heap.size + 2) w3 d vo vp vl vi := SlOwn.less q0 hsz
      obtain ⟨oa, oc, pa, pc, la, lc, ia, ic, rfl, rfl, rfl, rfl⟩ := own_ten q0'
      have HF : Hid (QsAt G B b w.heap.size p w ((((((((((w3.setCell ⟨p, 0, none⟩ (.int .i64 d.k)).setCell ⟨p, 1, none⟩ (.string (txtOf d.n))).setCell ⟨p, 2, none⟩ (.slice oa d.ops.length oc)).setCell ⟨p, 3, none⟩ (.slice pa d.pcs.length pc)).setCell ⟨p, 4, none⟩ (.string (txtOf d.deg))).setCell ⟨p, 5, none⟩ (.slice la d.lits.length lc)).setCell ⟨p, 6, none⟩ (.slice ia d.ids.length ic)).setCell ⟨p, 7, none⟩ (.int .i64 d.ends)).setCell ⟨p, 8, none⟩ (.string (txtOf d.low))).setCell ⟨p, 9, none⟩ (.string (txtOf d.high))) d (.slice oa d.ops.length oc) (.slice pa d.pcs.length pc) (.slice la d.lits.length lc) (.slice ia d.ids.length ic) sd) := H3.out.all (d' := d) (.int .i64 d.k) (.string (txtOf d.n)) (.slice oa d.ops.length oc) (.slice pa d.pcs.length pc) (.string (txtOf d.deg)) (.slice la d.lits.length lc) (.slice ia d.ids.length ic) (.int .i64 d.ends) (.string (txtOf d.low)) (.string (txtOf d.high)) rfl q0'
      rw [hp]
      simp only [slC]
      have g0 : w3.cell? ⟨p, 0, none⟩ = some (.int .i64 0) := cell_of H3.out.b3.o 0
      have g1 : w3.cell? ⟨p, 1, none⟩ = some (.string ⟨#[]⟩) := cell_of H3.out.b3.o 1
      have g2 : w3.cell? ⟨p, 2, none⟩ = some (.slice none 0 0) := cell_of H3.out.b3.o 2
      have g3 : w3.cell? ⟨p, 3, none⟩ = some (.slice none 0 0) := cell_of H3.out.b3.o 3
      have g4 : w3.cell? ⟨p, 4, none⟩ = some (.string ⟨#[]⟩) := cell_of H3.out.b3.o 4
      have g5 : w3.cell? ⟨p, 5, none⟩ = some (.slice none 0 0) := cell_of H3.out.b3.o 5
      have g6 : w3.cell? ⟨p, 6, none⟩ = some (.slice none 0 0) := cell_of H3.out.b3.o 6
      have g7 : w3.cell? ⟨p, 7, none⟩ = some (.int .i64 0) := cell_of H3.out.b3.o 7
      have g8 : w3.cell? ⟨p, 8, none⟩ = some (.string ⟨#[]⟩) := cell_of H3.out.b3.o 8
      have g9 : w3.cell? ⟨p, 9, none⟩ = some (.string ⟨#[]⟩) := cell_of H3.out.b3.o 9
      have z3 := frozen_of H3.out.b3.o
      clear q0 q1 q2 hsz H3 c0 z0 q0' hp
      go_wp2_with fail
      obtain ⟨ZW, hZW⟩ : ∃ Zx, ((((((((((w3.setCell ⟨p, 0, none⟩ (.int .i64 d.k)).setCell ⟨p, 1, none⟩ (.string (txtOf d.n))).setCell ⟨p, 2, none⟩ (.slice oa d.ops.length oc)).setCell ⟨p, 3, none⟩ (.slice pa d.pcs.length pc)).setCell ⟨p, 4, none⟩ (.string (txtOf d.deg))).setCell ⟨p, 5, none⟩ (.slice la d.lits.length lc)).setCell ⟨p, 6, none⟩ (.slice ia d.ids.length ic)).setCell ⟨p, 7, none⟩ (.int .i64 d.ends)).setCell ⟨p, 8, none⟩ (.string (txtOf d.low))).setCell ⟨p, 9, none⟩ (.string (txtOf d.high))) = Zx := ⟨_, rfl⟩
      rw [hZW]
      rw [hZW] at HF
      clear hZW g0 g1 g2 g3 g4 g5 g6 g7 g8 g9 z3
      rw [← HP.out]
      go_meet
      rw [HRq.out]
      have hf := HF.out
      rw [← HP.out] at hf
      exact ⟨_, _, _, _, hf⟩
    rw [if_neg k10] at hR0
    rw [decide_eq_false k10] at e10
    clear k10
    by_cases k11 : x = [101, 110, 100]
    · as_aux_lemma =>
        rw [if_pos k11] at hR0
        rw [decide_eq_true k11] at e11
        clear k11
        obtain ⟨W1, hW1⟩ : ∃ W, X2.setCell ⟨w.heap.size + 1, 0, none⟩ (.int .i64 10) = W := ⟨_, rfl⟩
        have H2 : Hid (QsAt G B b w.heap.size (w.heap.size + 1) w W1 { SL.zero with k := 10 } (.slice none 0 0) (.slice none 0 0) (.slice none 0 0) (.slice none 0 0) s) := by
          show QsAt _ _ _ _ _ _ _ _ _ _ _ _ _
          rw [← hW1]; exact H1.out.put 0 _ rfl (d9_own _ _ _ rfl rfl rfl rfl)
        have HRq : Hid (R = ({ SL.zero with k := 10 }, wdsR [[112, 115, 101, 117, 100, 111, 45, 66, 111, 111, 108, 101, 97, 110], [112, 114, 111, 111, 102]] s)) := hR0.symm
        obtain ⟨V, hV⟩ : ∃ V, W1.alloc (.cells #[.string ⟨#[112, 115, 101, 117, 100, 111, 45, 66, 111, 111, 108, 101, 97, 110]⟩, .string ⟨#[112, 114, 111, 111, 102]⟩] 9) = V := ⟨_, rfl⟩
        have hbV : Below W1.heap.size W1 V := by rw [← hV]; exact (Below.refl _ _).alloc (Nat.le_refl _) _
        have H3 : Hid (QsAt G B b w.heap.size (w.heap.size + 1) w V { SL.zero with k := 10 } (.slice none 0 0) (.slice none 0 0) (.slice none 0 0) (.slice none 0 0) s) := H2.out.below hbV
        have HC : Hid (Calls Tryz.prog 23 #[.pointer (some ⟨b, 0, none⟩), .slice (some ⟨W1.heap.size, 0, none⟩) 2 2] V (LR G B b (.tuple #[]) (wdsR [[112, 115, 101, 117, 100, 111, 45, 66, 111, 111, 108, 101, 97, 110], [112, 114, 111, 111, 102]] s) V)) := HWd.out [[112, 115, 101, 117, 100, 111, 45, 66, 111, 111, 108, 101, 97, 110], [112, 114, 111, 111, 102]] W1.heap.size V s H3.out.ln (by rw [← hV]; exact heap_alloc_new W1 _) (by have := H2.out.ln.lt; omega) (by decide)
        clear hbV hR0
        go_wp2_with fail
        refine calls_at HC.out (by with_reducible rfl) (by with_reducible rfl) ?_
        rintro e w3 ⟨rfl, q1, q2⟩
        have HF : Hid (QsAt G B b w.heap.size (w.heap.size + 1) w w3 { SL.zero with k := 10 } (.slice none 0 0) (.slice none 0 0) (.slice none 0 0) (.slice none 0 0) (wdsR [[112, 115, 101, 117, 100, 111, 45, 66, 111, 111, 108, 101, 97, 110], [112, 114, 111, 111, 102]] s)) := H3.out.call q1 q2
        clear q1 q2
        go_wp2_with fail
        go_meet
        rw [HRq.out]
        exact ⟨_, _, _, _, HF.out⟩
    rw [if_neg k11] at hR0
    rw [decide_eq_false k11] at e11
    clear k11
    have HRq : Hid (R = (SL.zero, failR 80 s)) := hR0.symm
    clear hR0
    go_wp2_with fail
    refine calls_at (HFa.out X2 s H1.out.ln) (by with_reducible rfl) (by with_reducible rfl) ?_
    rintro e w3 ⟨rfl, q1, q2⟩
    have HF : Hid (QsAt G B b w.heap.size (w.heap.size + 1) w w3 SL.zero (.slice none 0 0) (.slice none 0 0) (.slice none 0 0) (.slice none 0 0) (failR 80 s)) := H1.out.call q1 q2
    clear q1 q2
    go_wp2_with fail
    go_meet
    rw [HRq.out]
    exact ⟨_, _, _, _, HF.out⟩
  case rest =>
  obtain ⟨vo, vp, vl, vi, hQ⟩ := hcut.out
  obtain ⟨d, sf⟩ := R
  have HQ : Hid (QsAt G B b w.heap.size (w.heap.size + 1) w wc d vo vp vl vi sf) := hQ
  obtain ⟨oa, oc, pa, pc, la, lc, ia, ic, rfl, rfl, rfl, rfl⟩ := own_ten hQ.own
  clear hQ hcut H1
  have q0 : wc.cell? ⟨w.heap.size + 1, 0, none⟩ = some (.int .i64 d.k) := cell_of HQ.out.b3.o 0
  have q1 : wc.cell? ⟨w.heap.size + 1, 1, none⟩ = some (.string (txtOf d.n)) := cell_of HQ.out.b3.o 1
  have q2 : wc.cell? ⟨w.heap.size + 1, 2, none⟩ = some (.slice oa d.ops.length oc) := cell_of HQ.out.b3.o 2
  have q3 : wc.cell? ⟨w.heap.size + 1, 3, none⟩ = some (.slice pa d.pcs.length pc) := cell_of HQ.out.b3.o 3
  have q4 : wc.cell? ⟨w.heap.size + 1, 4, none⟩ = some (.string (txtOf d.deg)) := cell_of HQ.out.b3.o 4
  have q5 : wc.cell? ⟨w.heap.size + 1, 5, none⟩ = some (.slice la d.lits.length lc) := cell_of HQ.out.b3.o 5
  have q6 : wc.cell? ⟨w.heap.size + 1, 6, none⟩ = some (.slice ia d.ids.length ic) := cell_of HQ.out.b3.o 6
  have q7 : wc.cell? ⟨w.heap.size + 1, 7, none⟩ = some (.int .i64 d.ends) := cell_of HQ.out.b3.o 7
  have q8 : wc.cell? ⟨w.heap.size + 1, 8, none⟩ = some (.string (txtOf d.low)) := cell_of HQ.out.b3.o 8
  have q9 : wc.cell? ⟨w.heap.size + 1, 9, none⟩ = some (.string (txtOf d.high)) := cell_of HQ.out.b3.o 9
  have s0 : wc.cell? ⟨w.heap.size, 0, none⟩ = some (.int .i64 0) := cell_of HQ.out.b2.o 0
  have s1 : wc.cell? ⟨w.heap.size, 1, none⟩ = some (.string ⟨#[]⟩) := cell_of HQ.out.b2.o 1
  have s2 : wc.cell? ⟨w.heap.size, 2, none⟩ = some (.slice none 0 0) := cell_of HQ.out.b2.o 2
  have s3 : wc.cell? ⟨w.heap.size, 3, none⟩ = some (.slice none 0 0) := cell_of HQ.out.b2.o 3
  have s4 : wc.cell? ⟨w.heap.size, 4, none⟩ = some (.string ⟨#[]⟩) := cell_of HQ.out.b2.o 4
  have s5 : wc.cell? ⟨w.heap.size, 5, none⟩ = some (.slice none 0 0) := cell_of HQ.out.b2.o 5
  have s6 : wc.cell? ⟨w.heap.size, 6, none⟩ = some (.slice none 0 0) := cell_of HQ.out.b2.o 6
  have s7 : wc.cell? ⟨w.heap.size, 7, none⟩ = some (.int .i64 0) := cell_of HQ.out.b2.o 7
  have s8 : wc.cell? ⟨w.heap.size, 8, none⟩ = some (.string ⟨#[]⟩) := cell_of HQ.out.b2.o 8
  have s9 : wc.cell? ⟨w.heap.size, 9, none⟩ = some (.string ⟨#[]⟩) := cell_of HQ.out.b2.o 9
  have kz := frozen_of HQ.out.b2.o
  go_wp2_with fail
  have hE := HQ.out.out (.int .i64 d.k) (.string (txtOf d.n)) (.slice oa d.ops.length oc) (.slice pa d.pcs.length pc) (.string (txtOf d.deg)) (.slice la d.lits.length lc) (.slice ia d.ids.length ic) (.int .i64 d.ends) (.string (txtOf d.low)) (.string (txtOf d.high)) rfl
  have m0 := cell_of hE.2.o 0
  have m1 := cell_of hE.2.o 1
  have m2 := cell_of hE.2.o 2
  have m3 := cell_of hE.2.o 3
  have m4 := cell_of hE.2.o 4
  have m5 := cell_of hE.2.o 5
  have m6 := cell_of hE.2.o 6
  have m7 := cell_of hE.2.o 7
  have m8 := cell_of hE.2.o 8
  have m9 := cell_of hE.2.o 9
  simp only [slC] at m0 m1 m2 m3 m4 m5 m6 m7 m8 m9
  exact bodyPost_ret (v := .agg (slC d (.slice oa d.ops.length oc) (.slice pa d.pcs.length pc) (.slice la d.lits.length lc) (.slice ia d.ids.length ic))) (by simp [results, Tryz.results14, go_sem, m0, m1, m2, m3, m4, m5, m6, m7, m8, m9]; rfl) rfl hE.1
end Go.Proofs.YtgckmkdmlaocmaaGreatDoor
