/-
  A constraint with room, within a list.
-/
import Derived.Test.YtjanpglnahagdaaGreatDoorJ06
namespace Go.Proofs.YtjanpglnahagdaaGreatDoor
open Go.RowKit

/-- What con leaves. -/
structure LaidC4 (base R : Nat) (S : Lab) (F : Nat → List Value) (w : World) (c : Md.Cn) (e : Ending) (w' : World) : Prop where
  out : ∃ (bT bX bB bL cT cX cB cL : Nat) (S' : Lab) (F' : Nat → List Value) (D : List Row1) (M : List Nat),
    e = .returned (cnVal c (.slice (some ⟨bT, 0, none⟩) c.terms.length (c.terms.length + 4)) (.slice (some ⟨bX, 0, none⟩) c.xs.length (c.xs.length + 4)) (.slice (some ⟨bB, 0, none⟩) c.table.length (c.table.length + 4)) (.slice (some ⟨bL, 0, none⟩) c.rows.length (c.rows.length + 4))) ∧
    RoomAt ety base R S' F' w' ∧ Agree S S' w w' ∧ DataT S' w' bT c.terms 4 ∧ DataI S' w' bX c.xs 4 ∧ DataI S' w' bB c.table 4 ∧ DataL S' w' bL c.rows D M 4 ∧
    F' 0 = F 0 ++ [.slice (some ⟨bX, 0, none⟩) (c.xs.length + 4) cX, .slice (some ⟨bB, 0, none⟩) (c.table.length + 4) cB] ++ D.map Row1.ent ∧ F' 1 = F 1 ++ [.int .i64 (c.xs.length : Int), .int .i64 (c.table.length : Int)] ++ D.map Row1.at_ ∧
    F' 4 = F 4 ++ [.slice (some ⟨bT, 0, none⟩) (c.terms.length + 4) cT] ∧ F' 5 = F 5 ++ [.int .i64 (c.terms.length : Int)] ∧ F' 16 = F 16 ++ [.slice (some ⟨bL, 0, none⟩) (c.rows.length + 4) cL] ∧ F' 17 = F 17 ++ [.int .i64 (c.rows.length : Int)] ∧
    (∀ j, j ≠ 0 → j ≠ 1 → j ≠ 4 → j ≠ 5 → j ≠ 16 → j ≠ 17 → F' j = F j) ∧ ∀ k, k < w.heap.size → 150 ≤ S k → w'.heap[k]? = w.heap[k]?

theorem layInts_4 (base R : Nat) (S : Lab) (F : Nat → List Value) (v : Value) (l : List Int) (w : World) (hR : RoomAt ety base R S F w) (hv : IntsAt w v l) (hl : l.length ≤ 100000) (hF0 : (F 0).length ≤ 1000000) (hF1 : (F 1).length ≤ 1000000) :
    Calls Tryz.prog 117 #[.pointer (some ⟨R, 0, none⟩), v, .int .i64 4] w (LaidI base R S F w l 4) := layInts_any base R S F v l 4 w hR hv hl (by decide) (by decide) hF0 hF1
theorem layTerms_4 (base R : Nat) (S : Lab) (F : Nat → List Value) (v : Value) (l : List (Int × Int)) (w : World) (hR : RoomAt ety base R S F w) (hv : TermsAt w v l) (hl : l.length ≤ 100000) (hF0 : (F 4).length ≤ 1000000) (hF1 : (F 5).length ≤ 1000000) :
    Calls Tryz.prog 45 #[.pointer (some ⟨R, 0, none⟩), v, .int .i64 4] w (LaidT base R S F w l 4) := layTerms_any base R S F v l 4 w hR hv hl (by decide) (by decide) hF0 hF1
theorem layLists_4 (base R : Nat) (S : Lab) (F : Nat → List Value) (v : Value) (l : List (List Int)) (w : World) (hR : RoomAt ety base R S F w) (hv : ∀ wr S', Agree S S' w wr → RowsAt wr v l) (hl : l.length ≤ 100000) (hlr : ∀ r ∈ l, r.length ≤ 100000)
    (hF0 : (F 0).length + l.length ≤ 900000) (hF1 : (F 1).length + l.length ≤ 900000) (hF16 : (F 16).length ≤ 900000) (hF17 : (F 17).length ≤ 900000) :
    Calls Tryz.prog 118 #[.pointer (some ⟨R, 0, none⟩), v, .int .i64 4] w (LaidL base R S F w l 4) := layLists_any base R S F v l 4 w hR hv hl hlr (by decide) (by decide) hF0 hF1 hF16 hF17
theorem con_high {S Sv : Lab} {w V w2 V' : World} {i : Nat} {v : Value} (h : ∀ k, k < w.heap.size → 150 ≤ S k → V.heap[k]? = w.heap[k]?) (hA : Agree S Sv w V) (hh : ∀ k, k < V.heap.size → 150 ≤ Sv k → w2.heap[k]? = V.heap[k]?) (hV : w2.setCell ⟨w.heap.size, i, none⟩ v = V') : ∀ k, k < w.heap.size → 150 ≤ S k → V'.heap[k]? = w.heap[k]? := by
  intro k hk hS
  subst hV
  exact (Below.heap_setCell w2 ⟨w.heap.size, i, none⟩ v k (fun e => by simp at e; omega)).trans ((hh k (Nat.lt_of_lt_of_le hk hA.size) (by rw [hA.lab k hk]; exact hS)).trans (h k hk hS))
theorem high_set {S : Lab} {w V : World} {i N : Nat} {v : Value} (h : ∀ k, k < w.heap.size → 150 ≤ S k → V.heap[k]? = w.heap[k]?) (hN : w.heap.size ≤ N) : ∀ k, k < w.heap.size → 150 ≤ S k → (V.setCell ⟨N, i, none⟩ v).heap[k]? = w.heap[k]? := by
  intro k hk hS
  exact (Below.heap_setCell V ⟨N, i, none⟩ v k (fun e => by simp at e; omega)).trans (h k hk hS)

set_option maxRecDepth 10000 in
set_option maxHeartbeats 4000000 in
theorem con4_any (base R : Nat) (S : Lab) (F : Nat → List Value) (c : Md.Cn) (vt vx vb vr : Value) (w : World) (hR : RoomAt ety base R S F w) (hC : ∀ wr S', Agree S S' w wr → CnAt wr c vt vx vb vr) (hs : c.terms.length ≤ 100000 ∧ c.xs.length ≤ 100000 ∧ c.table.length ≤ 100000 ∧ c.rows.length ≤ 100000 ∧ ∀ r ∈ c.rows, r.length ≤ 100000)
    (hF : (F 0).length ≤ 700000 ∧ (F 1).length ≤ 700000 ∧ (F 4).length ≤ 700000 ∧ (F 5).length ≤ 700000 ∧ (F 16).length ≤ 700000 ∧ (F 17).length ≤ 700000) :
    Calls Tryz.prog 62 #[.pointer (some ⟨R, 0, none⟩), cnVal c vt vx vb vr] w (LaidC4 base R S F w c) := by
  have HC : Hid (∀ wr S', Agree S S' w wr → CnAt wr c vt vx vb vr) := hC
  have h0 := hC w S (Agree.refl _ _)
  obtain ⟨ta, tc, rfl, _⟩ := id h0.t
  obtain ⟨xa, xc, rfl, _⟩ := id h0.x
  obtain ⟨ba, bc, rfl, _⟩ := id h0.b
  obtain ⟨ra, rc, rfl, _⟩ := id h0.r
  have HS : Hid (c.terms.length ≤ 100000 ∧ c.xs.length ≤ 100000 ∧ c.table.length ≤ 100000 ∧ c.rows.length ≤ 100000 ∧ ∀ r ∈ c.rows, r.length ≤ 100000) := hs
  have HF : Hid ((F 0).length ≤ 700000 ∧ (F 1).length ≤ 700000 ∧ (F 4).length ≤ 700000 ∧ (F 5).length ≤ 700000 ∧ (F 16).length ≤ 700000 ∧ (F 17).length ≤ 700000) := hF
  obtain ⟨W, hW⟩ : ∃ W, (w.alloc (.cells #[.int .i64 c.kind, .int .i64 c.op, .slice ta c.terms.length tc, .int .i64 c.k, .int .i64 c.v, .int .i64 c.x, .int .i64 c.y, .slice xa c.xs.length xc, .slice ba c.table.length bc, .slice ra c.rows.length rc] 64)).alloc (.cells #[.int .i64 0, .int .i64 0, .slice none 0 0, .int .i64 0, .int .i64 0, .int .i64 0, .int .i64 0, .slice none 0 0, .slice none 0 0, .slice none 0 0] 64) = W := ⟨_, rfl⟩
  have hbW : Below w.heap.size w W := by rw [← hW]; exact ((Below.refl _ _).alloc (Nat.le_refl _) _).alloc (by simp) _
  have hsz : W.heap.size = w.heap.size + 1 + 1 := by rw [← hW]; simp
  have hN : W.heap[w.heap.size]? = some (.cells #[.int .i64 c.kind, .int .i64 c.op, .slice ta c.terms.length tc, .int .i64 c.k, .int .i64 c.v, .int .i64 c.x, .int .i64 c.y, .slice xa c.xs.length xc, .slice ba c.table.length bc, .slice ra c.rows.length rc] 64) := by
    rw [← hW, Below.heap_alloc _ _ _ (by simp)]; exact heap_alloc_new w _
  have hZ : W.heap[w.heap.size + 1]? = some (.cells #[.int .i64 0, .int .i64 0, .slice none 0 0, .int .i64 0, .int .i64 0, .int .i64 0, .int .i64 0, .slice none 0 0, .slice none 0 0, .slice none 0 0] 64) := by
    rw [← hW]
    have := heap_alloc_new (w.alloc (.cells #[.int .i64 c.kind, .int .i64 c.op, .slice ta c.terms.length tc, .int .i64 c.k, .int .i64 c.v, .int .i64 c.x, .int .i64 c.y, .slice xa c.xs.length xc, .slice ba c.table.length bc, .slice ra c.rows.length rc] 64)) (.cells #[.int .i64 0, .int .i64 0, .slice none 0 0, .int .i64 0, .int .i64 0, .int .i64 0, .int .i64 0, .slice none 0 0, .slice none 0 0, .slice none 0 0] 64)
    simpa using this
  have HR1 : Hid (RoomAt ety base R (lab2 S w.heap.size) F W) := (hR.kept hbW).lab2 (by omega) hR.bas (hR.top _ (Nat.le_refl _)) (hR.top _ (by omega))
  have HA1 : Hid (Agree S (lab2 S w.heap.size) w W) := agree_lab2 hbW
  have HLb : Hid (150 ≤ lab2 S w.heap.size w.heap.size ∧ 150 ≤ lab2 S w.heap.size (w.heap.size + 1)) := by
    show _ ∧ _
    unfold lab2; simp
  have HZ : Hid (W.heap[w.heap.size + 1]? = some (.cells #[.int .i64 0, .int .i64 0, .slice none 0 0, .int .i64 0, .int .i64 0, .int .i64 0, .int .i64 0, .slice none 0 0, .slice none 0 0, .slice none 0 0] 64)) := hZ
  have HN : Hid (W.heap[w.heap.size]? = some (.cells #[.int .i64 c.kind, .int .i64 c.op, .slice ta c.terms.length tc, .int .i64 c.k, .int .i64 c.v, .int .i64 c.x, .int .i64 c.y, .slice xa c.xs.length xc, .slice ba c.table.length bc, .slice ra c.rows.length rc] 64)) := hN
  have hNI : w.heap.size + 1 < W.heap.size := by omega
  have HH1 : Hid (∀ k, k < w.heap.size → 150 ≤ S k → W.heap[k]? = w.heap[k]?) := fun k hk _ => hbW.block k hk
  obtain ⟨⟨p0, p1, p2, p3, p4, p5, p6, p7, p8, p9⟩, hfz⟩ := box10 hN
  generalize lab2 S w.heap.size = S1 at *
  clear hR hC h0 hs hF hbW hsz hN hZ
  unfold cnVal
  go_enter Tryz.func62, Tryz.ntmps62
  go_wp2_with (first
    | (go_at_call 45; refine calls_at (layTerms_4 base R S1 F _ c.terms _ HR1.out (HC.out _ _ HA1.out).t HS.out.1 (by have := HF.out; omega) (by have := HF.out; omega)) (by with_reducible rfl) (by with_reducible rfl) ?_; rintro e w2 ⟨⟨bT, cT, S2, F2, he, hbT, hbT1, hST, hR2, f4, f5, fo2, hA2, hcT, hh2⟩⟩; subst he;
       obtain ⟨V2, hV2⟩ : ∃ V, w2.setCell ⟨w.heap.size, 2, none⟩ (.slice (some ⟨bT, 0, none⟩) c.terms.length (c.terms.length + 4)) = V := ⟨_, rfl⟩;
       obtain ⟨hNp, hRn, hAn, hAx, hAy, hNn, hZn, hLn⟩ := con_step HA1.out hA2 hR2 hh2 HN.out HZ.out HLb.out 2 _ hV2;
       have HR2 : Hid (RoomAt ety base R S2 F2 V2) := hRn;
       have HH2 : Hid (∀ k, k < w.heap.size → 150 ≤ S k → V2.heap[k]? = w.heap[k]?) := con_high HH1.out HA1.out hh2 hV2;
       have HA2 : Hid (Agree S S2 w V2) := hAn;
       have HN2 : Hid (V2.heap[w.heap.size]? = some (.cells #[.int .i64 c.kind, .int .i64 c.op, .slice (some ⟨bT, 0, none⟩) c.terms.length (c.terms.length + 4), .int .i64 c.k, .int .i64 c.v, .int .i64 c.x, .int .i64 c.y, .slice xa c.xs.length xc, .slice ba c.table.length bc, .slice ra c.rows.length rc] 64)) := hNn;
       have HZ2 : Hid (V2.heap[w.heap.size + 1]? = some (.cells #[.int .i64 0, .int .i64 0, .slice none 0 0, .int .i64 0, .int .i64 0, .int .i64 0, .int .i64 0, .slice none 0 0, .slice none 0 0, .slice none 0 0] 64)) := hZn;
       have HL2 : Hid (150 ≤ S2 w.heap.size ∧ 150 ≤ S2 (w.heap.size + 1)) := hLn;
       have HDT : Hid (DataT S2 V2 bT c.terms 4) := DataT.agree ⟨hST, hbT1, hcT⟩ hAx;
       have HF2 : Hid (F2 4 = F 4 ++ [.slice (some ⟨bT, 0, none⟩) (c.terms.length + 4) cT] ∧ F2 5 = F 5 ++ [.int .i64 (c.terms.length : Int)] ∧ ∀ j, j ≠ 4 → j ≠ 5 → F2 j = F j) := ⟨f4, f5, fo2⟩;
       clear p0 p1 p2 p3 p4 p5 p6 p7 p8 p9 hfz hRn hAn hAx hAy hNn hZn hLn hbT hbT1 hST hR2 f4 f5 fo2 hA2 hcT hh2 hNI;
       obtain ⟨⟨q0, q1, q2, q3, q4, q5, q6, q7, q8, q9⟩, hfq⟩ := box10 hNp;
       obtain ⟨⟨p0, p1, p2, p3, p4, p5, p6, p7, p8, p9⟩, hfz⟩ := box10 HN2.out;
       have hNI : w.heap.size + 1 < V2.heap.size := (Array.getElem?_eq_some_iff.1 HZ2.out).1)
    | (go_at_call 117; refine calls_at (layInts_4 base R S2 F2 _ c.xs _ HR2.out (HC.out _ _ HA2.out).x HS.out.2.1 (by rw [HF2.out.2.2 0 (by decide) (by decide)]; have := HF.out; omega) (by rw [HF2.out.2.2 1 (by decide) (by decide)]; have := HF.out; omega)) (by with_reducible rfl) (by with_reducible rfl) ?_; rintro e w3 ⟨⟨bX, cX, S3, F3, he, hbT, hbT1, hST, hR2, f4, f5, fo2, hA2, hcT, hh2⟩⟩; subst he;
       obtain ⟨V3, hV3⟩ : ∃ V, w3.setCell ⟨w.heap.size, 7, none⟩ (.slice (some ⟨bX, 0, none⟩) c.xs.length (c.xs.length + 4)) = V := ⟨_, rfl⟩;
       obtain ⟨hNp, hRn, hAn, hAx, hAy, hNn, hZn, hLn⟩ := con_step HA2.out hA2 hR2 hh2 HN2.out HZ2.out HL2.out 7 _ hV3;
       have HR3 : Hid (RoomAt ety base R S3 F3 V3) := hRn;
       have HH3 : Hid (∀ k, k < w.heap.size → 150 ≤ S k → V3.heap[k]? = w.heap[k]?) := con_high HH2.out HA2.out hh2 hV3;
       have HA3 : Hid (Agree S S3 w V3) := hAn;
       have HN3 : Hid (V3.heap[w.heap.size]? = some (.cells #[.int .i64 c.kind, .int .i64 c.op, .slice (some ⟨bT, 0, none⟩) c.terms.length (c.terms.length + 4), .int .i64 c.k, .int .i64 c.v, .int .i64 c.x, .int .i64 c.y, .slice (some ⟨bX, 0, none⟩) c.xs.length (c.xs.length + 4), .slice ba c.table.length bc, .slice ra c.rows.length rc] 64)) := hNn;
       have HZ3 : Hid (V3.heap[w.heap.size + 1]? = some (.cells #[.int .i64 0, .int .i64 0, .slice none 0 0, .int .i64 0, .int .i64 0, .int .i64 0, .int .i64 0, .slice none 0 0, .slice none 0 0, .slice none 0 0] 64)) := hZn;
       have HL3 : Hid (150 ≤ S3 w.heap.size ∧ 150 ≤ S3 (w.heap.size + 1)) := hLn;
       have HDX : Hid (DataI S3 V3 bX c.xs 4) := DataI.agree ⟨hST, hbT1, hcT⟩ hAx;
       have HDT3 : Hid (DataT S3 V3 bT c.terms 4) := HDT.out.agree hAy;
       have HF3 : Hid (F3 0 = F2 0 ++ [.slice (some ⟨bX, 0, none⟩) (c.xs.length + 4) cX] ∧ F3 1 = F2 1 ++ [.int .i64 (c.xs.length : Int)] ∧ ∀ j, j ≠ 0 → j ≠ 1 → F3 j = F2 j) := ⟨f4, f5, fo2⟩;
       clear p0 p1 p2 p3 p4 p5 p6 p7 p8 p9 q0 q1 q2 q3 q4 q5 q6 q7 q8 q9 hfz hfq hRn hAn hAx hAy hNn hZn hLn hbT hbT1 hST hR2 f4 f5 fo2 hA2 hcT hh2 hNI HR2 HN2 HZ2 HL2;
       obtain ⟨⟨q0, q1, q2, q3, q4, q5, q6, q7, q8, q9⟩, hfq⟩ := box10 hNp;
       obtain ⟨⟨p0, p1, p2, p3, p4, p5, p6, p7, p8, p9⟩, hfz⟩ := box10 HN3.out;
       have hNI : w.heap.size + 1 < V3.heap.size := (Array.getElem?_eq_some_iff.1 HZ3.out).1)
    | (go_at_call 117; refine calls_at (layInts_4 base R S3 F3 _ c.table _ HR3.out (HC.out _ _ HA3.out).b HS.out.2.2.1 (by rw [HF3.out.1, HF2.out.2.2 0 (by decide) (by decide)]; have := HF.out; simp; omega) (by rw [HF3.out.2.1, HF2.out.2.2 1 (by decide) (by decide)]; have := HF.out; simp; omega)) (by with_reducible rfl) (by with_reducible rfl) ?_; rintro e w4 ⟨⟨bB, cB, S4, F4, he, hbT, hbT1, hST, hR2, f4, f5, fo2, hA2, hcT, hh2⟩⟩; subst he;
       obtain ⟨V4, hV4⟩ : ∃ V, w4.setCell ⟨w.heap.size, 8, none⟩ (.slice (some ⟨bB, 0, none⟩) c.table.length (c.table.length + 4)) = V := ⟨_, rfl⟩;
       obtain ⟨hNp, hRn, hAn, hAx, hAy, hNn, hZn, hLn⟩ := con_step HA3.out hA2 hR2 hh2 HN3.out HZ3.out HL3.out 8 _ hV4;
       have HR4 : Hid (RoomAt ety base R S4 F4 V4) := hRn;
       have HH4 : Hid (∀ k, k < w.heap.size → 150 ≤ S k → V4.heap[k]? = w.heap[k]?) := con_high HH3.out HA3.out hh2 hV4;
       have HA4 : Hid (Agree S S4 w V4) := hAn;
       have HN4 : Hid (V4.heap[w.heap.size]? = some (.cells #[.int .i64 c.kind, .int .i64 c.op, .slice (some ⟨bT, 0, none⟩) c.terms.length (c.terms.length + 4), .int .i64 c.k, .int .i64 c.v, .int .i64 c.x, .int .i64 c.y, .slice (some ⟨bX, 0, none⟩) c.xs.length (c.xs.length + 4), .slice (some ⟨bB, 0, none⟩) c.table.length (c.table.length + 4), .slice ra c.rows.length rc] 64)) := hNn;
       have HZ4 : Hid (V4.heap[w.heap.size + 1]? = some (.cells #[.int .i64 0, .int .i64 0, .slice none 0 0, .int .i64 0, .int .i64 0, .int .i64 0, .int .i64 0, .slice none 0 0, .slice none 0 0, .slice none 0 0] 64)) := hZn;
       have HL4 : Hid (150 ≤ S4 w.heap.size ∧ 150 ≤ S4 (w.heap.size + 1)) := hLn;
       have HDB : Hid (DataI S4 V4 bB c.table 4) := DataI.agree ⟨hST, hbT1, hcT⟩ hAx;
       have HDX4 : Hid (DataI S4 V4 bX c.xs 4) := HDX.out.agree hAy;
       have HDT4 : Hid (DataT S4 V4 bT c.terms 4) := HDT3.out.agree hAy;
       have HF4 : Hid (F4 0 = F3 0 ++ [.slice (some ⟨bB, 0, none⟩) (c.table.length + 4) cB] ∧ F4 1 = F3 1 ++ [.int .i64 (c.table.length : Int)] ∧ ∀ j, j ≠ 0 → j ≠ 1 → F4 j = F3 j) := ⟨f4, f5, fo2⟩;
       clear p0 p1 p2 p3 p4 p5 p6 p7 p8 p9 q0 q1 q2 q3 q4 q5 q6 q7 q8 q9 hfz hfq hRn hAn hAx hAy hNn hZn hLn hbT hbT1 hST hR2 f4 f5 fo2 hA2 hcT hh2 hNI HR3 HN3 HZ3 HL3 HDX HDT3;
       obtain ⟨⟨q0, q1, q2, q3, q4, q5, q6, q7, q8, q9⟩, hfq⟩ := box10 hNp;
       obtain ⟨⟨p0, p1, p2, p3, p4, p5, p6, p7, p8, p9⟩, hfz⟩ := box10 HN4.out;
       have hNI : w.heap.size + 1 < V4.heap.size := (Array.getElem?_eq_some_iff.1 HZ4.out).1)
    | (go_at_call 118; refine calls_at (layLists_4 base R S4 F4 _ c.rows _ HR4.out (fun wr S' h => (HC.out _ _ (HA4.out.trans h)).r) HS.out.2.2.2.1 HS.out.2.2.2.2 (by rw [HF4.out.1, HF3.out.1, HF2.out.2.2 0 (by decide) (by decide)]; have := HF.out; have := HS.out.2.2.2.1; simp; omega) (by rw [HF4.out.2.1, HF3.out.2.1, HF2.out.2.2 1 (by decide) (by decide)]; have := HF.out; have := HS.out.2.2.2.1; simp; omega)
         (by rw [HF4.out.2.2 16 (by decide) (by decide), HF3.out.2.2 16 (by decide) (by decide), HF2.out.2.2 16 (by decide) (by decide)]; have := HF.out; omega) (by rw [HF4.out.2.2 17 (by decide) (by decide), HF3.out.2.2 17 (by decide) (by decide), HF2.out.2.2 17 (by decide) (by decide)]; have := HF.out; omega)) (by with_reducible rfl) (by with_reducible rfl) ?_; rintro e w5 ⟨⟨bL, cL, S5, F5, D, M, he, hR2, hA2, hbT, hbT1, hST, hrows, hok, hML, hMk, hcL, f0, f1, f16, f17, fo2, hh2⟩⟩; subst he;
       obtain ⟨V5, hV5⟩ : ∃ V, w5.setCell ⟨w.heap.size, 9, none⟩ (.slice (some ⟨bL, 0, none⟩) c.rows.length (c.rows.length + 4)) = V := ⟨_, rfl⟩;
       obtain ⟨hNp, hRn, hAn, hAx, hAy, hNn, hZn, hLn⟩ := con_step HA4.out hA2 hR2 hh2 HN4.out HZ4.out HL4.out 9 _ hV5;
       have HR5 : Hid (RoomAt ety base R S5 F5 V5) := hRn;
       have HH5 : Hid (∀ k, k < w.heap.size → 150 ≤ S k → V5.heap[k]? = w.heap[k]?) := con_high HH4.out HA4.out hh2 hV5;
       have HA5 : Hid (Agree S S5 w V5) := hAn;
       have HN5 : Hid (V5.heap[w.heap.size]? = some (.cells #[.int .i64 c.kind, .int .i64 c.op, .slice (some ⟨bT, 0, none⟩) c.terms.length (c.terms.length + 4), .int .i64 c.k, .int .i64 c.v, .int .i64 c.x, .int .i64 c.y, .slice (some ⟨bX, 0, none⟩) c.xs.length (c.xs.length + 4), .slice (some ⟨bB, 0, none⟩) c.table.length (c.table.length + 4), .slice (some ⟨bL, 0, none⟩) c.rows.length (c.rows.length + 4)] 64)) := hNn;
       have HZ5 : Hid (V5.heap[w.heap.size + 1]? = some (.cells #[.int .i64 0, .int .i64 0, .slice none 0 0, .int .i64 0, .int .i64 0, .int .i64 0, .int .i64 0, .slice none 0 0, .slice none 0 0, .slice none 0 0] 64)) := hZn;
       have HL5 : Hid (150 ≤ S5 w.heap.size ∧ 150 ≤ S5 (w.heap.size + 1)) := hLn;
       have HDL : Hid (DataL S5 V5 bL c.rows D M 4) := DataL.agree ⟨hST, hbT1, hrows, fun r hr => ⟨(hok r hr).lab, (hok r hr).lt, (hok r hr).cells⟩, hML, fun i hi => ⟨(hMk i hi).lab, (hMk i hi).lt, (hMk i hi).cell⟩, hcL⟩ hAx;
       have HDB5 : Hid (DataI S5 V5 bB c.table 4) := HDB.out.agree hAy;
       have HDX5 : Hid (DataI S5 V5 bX c.xs 4) := HDX4.out.agree hAy;
       have HDT5 : Hid (DataT S5 V5 bT c.terms 4) := HDT4.out.agree hAy;
       have HF5 : Hid (F5 0 = F4 0 ++ D.map Row1.ent ∧ F5 1 = F4 1 ++ D.map Row1.at_ ∧ F5 16 = F4 16 ++ [.slice (some ⟨bL, 0, none⟩) (c.rows.length + 4) cL] ∧ F5 17 = F4 17 ++ [.int .i64 (c.rows.length : Int)] ∧ ∀ j, j ≠ 0 → j ≠ 1 → j ≠ 16 → j ≠ 17 → F5 j = F4 j) := ⟨f0, f1, f16, f17, fo2⟩;
       clear p0 p1 p2 p3 p4 p5 p6 p7 p8 p9 q0 q1 q2 q3 q4 q5 q6 q7 q8 q9 hfz hfq hRn hAn hAx hAy hNn hZn hLn hbT hbT1 hST hR2 f0 f1 f16 f17 fo2 hA2 hrows hok hML hMk hcL hh2 hNI HR4 HN4 HZ4 HL4 HDX4 HDT4 HDB;
       obtain ⟨⟨q0, q1, q2, q3, q4, q5, q6, q7, q8, q9⟩, hfq⟩ := box10 hNp;
       obtain ⟨⟨p0, p1, p2, p3, p4, p5, p6, p7, p8, p9⟩, hfz⟩ := box10 HN5.out;
       obtain ⟨⟨z0, z1, z2, z3, z4, z5, z6, z7, z8, z9⟩, hfzz⟩ := box10 HZ5.out;
       have hNI : w.heap.size + 1 < V5.heap.size := (Array.getElem?_eq_some_iff.1 HZ5.out).1))
  refine bodyPost_ret (v := .agg #[.int .i64 c.kind, .int .i64 c.op, .slice (some ⟨bT, 0, none⟩) c.terms.length (c.terms.length + 4), .int .i64 c.k, .int .i64 c.v, .int .i64 c.x, .int .i64 c.y, .slice (some ⟨bX, 0, none⟩) c.xs.length (c.xs.length + 4), .slice (some ⟨bB, 0, none⟩) c.table.length (c.table.length + 4), .slice (some ⟨bL, 0, none⟩) c.rows.length (c.rows.length + 4)]) (by simp [results, Tryz.results62, go_sem, World.cell?, World.setCell, Array.getElem?_modify, HZ5.out]) rfl ⟨⟨bT, bX, bB, bL, cT, cX, cB, cL, S5, F5, D, M, rfl, ((((((((((HR5.out).set HL5.out.2 0 _).set HL5.out.2 1 _).set HL5.out.2 2 _).set HL5.out.2 3 _).set HL5.out.2 4 _).set HL5.out.2 5 _).set HL5.out.2 6 _).set HL5.out.2 7 _).set HL5.out.2 8 _).set HL5.out.2 9 _, ((((((((((HA5.out).set HL5.out.2 0 _).set HL5.out.2 1 _).set HL5.out.2 2 _).set HL5.out.2 3 _).set HL5.out.2 4 _).set HL5.out.2 5 _).set HL5.out.2 6 _).set HL5.out.2 7 _).set HL5.out.2 8 _).set HL5.out.2 9 _, ?_, ?_, ?_, ?_, ?_, ?_, ?_, ?_, ?_, ?_, ?_, ?_⟩⟩
  · exact HDT5.out.agree (((((((((((Agree.refl S5 V5).set HL5.out.2 0 _).set HL5.out.2 1 _).set HL5.out.2 2 _).set HL5.out.2 3 _).set HL5.out.2 4 _).set HL5.out.2 5 _).set HL5.out.2 6 _).set HL5.out.2 7 _).set HL5.out.2 8 _).set HL5.out.2 9 _)
  · exact HDX5.out.agree (((((((((((Agree.refl S5 V5).set HL5.out.2 0 _).set HL5.out.2 1 _).set HL5.out.2 2 _).set HL5.out.2 3 _).set HL5.out.2 4 _).set HL5.out.2 5 _).set HL5.out.2 6 _).set HL5.out.2 7 _).set HL5.out.2 8 _).set HL5.out.2 9 _)
  · exact HDB5.out.agree (((((((((((Agree.refl S5 V5).set HL5.out.2 0 _).set HL5.out.2 1 _).set HL5.out.2 2 _).set HL5.out.2 3 _).set HL5.out.2 4 _).set HL5.out.2 5 _).set HL5.out.2 6 _).set HL5.out.2 7 _).set HL5.out.2 8 _).set HL5.out.2 9 _)
  · exact HDL.out.agree (((((((((((Agree.refl S5 V5).set HL5.out.2 0 _).set HL5.out.2 1 _).set HL5.out.2 2 _).set HL5.out.2 3 _).set HL5.out.2 4 _).set HL5.out.2 5 _).set HL5.out.2 6 _).set HL5.out.2 7 _).set HL5.out.2 8 _).set HL5.out.2 9 _)
  · rw [HF5.out.1, HF4.out.1, HF3.out.1, HF2.out.2.2 0 (by decide) (by decide)]; simp
  · rw [HF5.out.2.1, HF4.out.2.1, HF3.out.2.1, HF2.out.2.2 1 (by decide) (by decide)]; simp
  · rw [HF5.out.2.2.2.2 4 (by decide) (by decide) (by decide) (by decide), HF4.out.2.2 4 (by decide) (by decide), HF3.out.2.2 4 (by decide) (by decide), HF2.out.1]
  · rw [HF5.out.2.2.2.2 5 (by decide) (by decide) (by decide) (by decide), HF4.out.2.2 5 (by decide) (by decide), HF3.out.2.2 5 (by decide) (by decide), HF2.out.2.1]
  · rw [HF5.out.2.2.1, HF4.out.2.2 16 (by decide) (by decide), HF3.out.2.2 16 (by decide) (by decide), HF2.out.2.2 16 (by decide) (by decide)]
  · rw [HF5.out.2.2.2.1, HF4.out.2.2 17 (by decide) (by decide), HF3.out.2.2 17 (by decide) (by decide), HF2.out.2.2 17 (by decide) (by decide)]
  · intro j h0 h1 h4 h5 h16 h17
    rw [HF5.out.2.2.2.2 j h0 h1 h16 h17, HF4.out.2.2 j h0 h1, HF3.out.2.2 j h0 h1, HF2.out.2.2 j h4 h5]
  · exact high_set (high_set (high_set (high_set (high_set (high_set (high_set (high_set (high_set (high_set HH5.out (by omega)) (by omega)) (by omega)) (by omega)) (by omega)) (by omega)) (by omega)) (by omega)) (by omega)) (by omega)
end Go.Proofs.YtjanpglnahagdaaGreatDoor
