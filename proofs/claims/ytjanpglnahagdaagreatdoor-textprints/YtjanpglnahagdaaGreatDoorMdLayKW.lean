/-
  A room's lists: layCons, walked.
-/
import Derived.Test.YtjanpglnahagdaaGreatDoorJ34
import Derived.Test.YtjanpglnahagdaaGreatDoorMdMade
namespace Go.Proofs.YtjanpglnahagdaaGreatDoor
open Go.RowKit

theorem und23 : Tryz.prog.underlying 23 = some (.slice 64) := by kernel_rfl
theorem und39 : Tryz.prog.underlying 42 = some (.slice 23) := by kernel_rfl
theorem info23 : (Tryz.prog.info? 23).map (fun i => (i.zero, i.size, i.bytes)) = some (some (.slice none 0 0), 1, 24) := by kernel_rfl
theorem info62 : (Tryz.prog.info? 64).map (fun i => (i.zero, i.size, i.bytes)) = some (some (.agg #[.int .i64 0, .int .i64 0, .slice none 0 0, .int .i64 0, .int .i64 0, .int .i64 0, .int .i64 0, .slice none 0 0, .slice none 0 0, .slice none 0 0]), 10, 144) := by kernel_rfl
theorem costK_mem {l : List Md.Cn} {c : Md.Cn} (h : c ∈ l) : costC c ≤ costK l := by
  induction l with
  | nil => simp at h
  | cons x l ih =>
    rcases List.mem_cons.1 h with rfl | h
    · simp only [costK]; omega
    · have h1 := ih h
      simp only [costK]; omega
def lab160 (S : Lab) (N : Nat) : Lab := fun k => if k = N then 160 else S k
theorem RoomAt.lab160 {base R : Nat} {S : Lab} {F : Nat → List Value} {w : World} (h : RoomAt ety base R S F w) {N : Nat} (hN : N < w.heap.size) (hb : base ≤ N) (h0 : S N = 0) : RoomAt ety base R (lab160 S N) F w := by
  refine ⟨?_, fun k hk => ?_, fun k hk => ?_, h.bas, h.blk, fun f hf => ?_⟩
  · have : R ≠ N := fun e => by rw [← e, h.lab] at h0; omega
    simp [Go.Proofs.YtjanpglnahagdaaGreatDoor.lab160, this, h.lab]
  · have : k ≠ N := by omega
    simp [Go.Proofs.YtjanpglnahagdaaGreatDoor.lab160, this]; exact h.top k hk
  · have : k ≠ N := by omega
    simp [Go.Proofs.YtjanpglnahagdaaGreatDoor.lab160, this]; exact h.low k hk
  · obtain ⟨v, h1, h2, h3⟩ := h.field f hf
    refine ⟨v, h1, h2, fun g hg => ?_⟩
    have a := h3 g hg
    have : g ≠ N := fun e => by rw [← e, a] at h0; omega
    simp [Go.Proofs.YtjanpglnahagdaaGreatDoor.lab160, this, a]
theorem agree_lab160 {S : Lab} {w w1 : World} (hb : Below w.heap.size w w1) : Agree S (lab160 S w.heap.size) w w1 :=
  ⟨hb.os, hb.tape, hb.output, hb.size, fun k hk => by unfold lab160; rw [if_neg (by omega)], fun k hk _ => hb.block k hk⟩
theorem con_cells1 (c : Md.Cn) (bT bX bB bL : Nat) : ∀ u ∈ [Value.int .i64 c.kind, .int .i64 c.op, .slice (some ⟨bT, 0, none⟩) c.terms.length (c.terms.length + 4), .int .i64 c.k, .int .i64 c.v, .int .i64 c.x, .int .i64 c.y, .slice (some ⟨bX, 0, none⟩) c.xs.length (c.xs.length + 4), .slice (some ⟨bB, 0, none⟩) c.table.length (c.table.length + 4), .slice (some ⟨bL, 0, none⟩) c.rows.length (c.rows.length + 4)], u.oneCell' = true := by
  intro u hu
  simp only [List.mem_cons, List.not_mem_nil, or_false] at hu
  rcases hu with rfl | rfl | rfl | rfl | rfl | rfl | rfl | rfl | rfl | rfl <;> rfl
theorem kmark_cells (k2 : Nat) : ∀ u ∈ [Value.int .i64 0, .int .i64 0, .slice none 0 0, .int .i64 0, .int .i64 0, .int .i64 (lotI k2), .int .i64 0, .slice none 0 0, .slice none 0 0, .slice none 0 0], u.oneCell' = true := by
  intro u hu
  simp only [List.mem_cons, List.not_mem_nil, or_false] at hu
  rcases hu with rfl | rfl | rfl | rfl | rfl | rfl | rfl | rfl | rfl | rfl <;> rfl


/-- What layCons leaves. -/
structure LaidK (base R : Nat) (S : Lab) (F : Nat → List Value) (w : World) (l : List Md.Cn) (room : Nat) (e : Ending) (w' : World) : Prop where
  out : ∃ (b cap : Nat) (S' : Lab) (F' : Nat → List Value) (D : List Con1), e = .returned (.slice (some ⟨b, 0, none⟩) l.length (l.length + room)) ∧ RoomAt ety base R S' F' w' ∧ Agree S S' w w' ∧ b < w'.heap.size ∧ S' b = 0 ∧
    D.map Con1.c = l ∧ (∀ d ∈ D, d.Ok S' w') ∧ (∀ j u, (consCells D ++ kMarks room)[j]? = some u → w'.cell? ⟨b, j, none⟩ = some u) ∧
    (F' 0 = F 0 ++ D.flatMap Con1.entI ∧ F' 1 = F 1 ++ D.flatMap Con1.atI ∧ F' 4 = F 4 ++ D.map Con1.entT ∧ F' 5 = F 5 ++ D.map Con1.atT ∧ F' 16 = F 16 ++ D.map Con1.entL ∧ F' 17 = F 17 ++ D.map Con1.atL ∧ F' 18 = F 18 ++ [.slice (some ⟨b, 0, none⟩) (l.length + room) cap] ∧ F' 19 = F 19 ++ [.int .i64 (l.length : Int)]) ∧
    (∀ j, j ≠ 0 → j ≠ 1 → j ≠ 4 → j ≠ 5 → j ≠ 16 → j ≠ 17 → j ≠ 18 → j ≠ 19 → F' j = F j) ∧ ∀ k, k < w.heap.size → 150 ≤ S k → w'.heap[k]? = w.heap[k]?

set_option maxRecDepth 10000 in
set_option maxHeartbeats 4000000 in
theorem layCons_any (base R : Nat) (S : Lab) (F : Nat → List Value) (v : Value) (l : List Md.Cn) (room : Nat) (w w0 : World) (hR : RoomAt ety base R S F w) (h0 : ConsAt w0 v l) (hbw : ∀ wr S', Agree S S' w wr → Below w0.heap.size w0 wr) (hc : costK l ≤ 20000) (hr0 : 0 < room) (hr : room ≤ 40)
    (hF : ∀ j, (F j).length ≤ 100000) :
    Calls Tryz.prog 44 #[.pointer (some ⟨R, 0, none⟩), v, .int .i64 (room : Int)] w (LaidK base R S F w l room) := by
  obtain ⟨a, cap, rfl, hm, ho⟩ := h0
  have HO : Hid (0 < l.length → ∃ b off, a = some ⟨b, off, none⟩ ∧ b < w0.heap.size ∧ ∀ j (h : j < l.length), ∃ vt vx vb vr, CnAt w0 l[j] vt vx vb vr ∧ CnCells w0 b (off + j * 10) l[j] vt vx vb vr) := ho
  have HBW : Hid (∀ wr S', Agree S S' w wr → Below w0.heap.size w0 wr) := hbw
  have HB : Hid (base ≤ w.heap.size) := hR.bas
  have HF : Hid (∀ j, (F j).length ≤ 100000) := hF
  have HC : Hid (costK l ≤ 20000) := hc
  have hll : l.length ≤ 20000 := by
    have h1 : ∀ l : List Md.Cn, l.length ≤ costK l := by
      intro l
      induction l with
      | nil => simp
      | cons c l ih => simp only [costK, costC, List.length_cons]; omega
    have := h1 l; omega
  have HCs : Hid (∀ c ∈ l, c.terms.length ≤ 100000 ∧ c.xs.length ≤ 100000 ∧ c.table.length ≤ 100000 ∧ c.rows.length ≤ 100000 ∧ ∀ r ∈ c.rows, r.length ≤ 100000) := fun c hcl => (costC_bounds (n := 0) (by have := costK_mem hcl; omega)).1
  have hb0 : Below w.heap.size w (w.alloc (.cells #[] 64)) := (Below.refl _ _).alloc (Nat.le_refl _) _
  obtain ⟨W0, hW0⟩ : ∃ W, w.alloc (.cells #[] 64) = W := ⟨_, rfl⟩
  have H1 : Hid (∃ S1, LK1 base R S F w l 0 (.slice (some ⟨w.heap.size, 0, none⟩) 0 0) S1 F [] W0) := by
    rw [← hW0]
    refine ⟨lab160 S w.heap.size, (hR.kept hb0).lab160 (by simp) hR.bas (hR.top _ (Nat.le_refl _)), agree_lab160 hb0, World.ownsRow_made w #[] 0 (Nat.le_refl _) (by unfold maxLen; omega) rfl, fun g hg => by simp [Value.ownBlock] at hg; subst hg; simp [lab160], by simp, fun d hd => by simp at hd, by simp, by simp, by simp, by simp, by simp, by simp, fun _ _ _ _ _ _ _ => rfl, fun q hq _ => hb0.block q hq⟩
  clear hR ho hbw hF hc hb0
  go_enter Tryz.func44, Tryz.ntmps44
  go_wp2_with fail
  go_loopw [7, 8] (fun fv iv wr => ∃ (k : Nat) (S1 : Lab) (F1 : Nat → List Value) (D : List Con1), iv = .int .i64 (k : Int) ∧ k ≤ l.length ∧ Hid (LK1 base R S F w l k fv S1 F1 D wr)) (fun _ iv _ => l.length - (intOf iv).toNat)
  case atStart =>
    obtain ⟨S1, h1⟩ := H1.out
    exact ⟨0, S1, F, [], rfl, Nat.zero_le _, h1⟩
  case round =>
    obtain ⟨k, S1, F1, D, rfl, hk, hH⟩ := hrel
    clear H1
    by_cases hlt : k < l.length
    · have hkI : (k : Int) < (l.length : Int) := by omega
      have hDl := hH.out.len hk
      obtain ⟨b0, o0, rfl, hb0, hcs⟩ := HO.out (by omega)
      obtain ⟨vt, vx, vb, vr, hcn, hcl⟩ := hcs k hlt
      have hbr := HBW.out _ S1 hH.out.agree
      obtain ⟨e0, e1, e2, e3, e4, e5, e6, e7, e8, e9⟩ := hcl.below hbr
      obtain ⟨ta, tc, rfl, _⟩ := hcn.t.form
      obtain ⟨xa, xc, rfl, _⟩ := hcn.x.form
      obtain ⟨ba, bc, rfl, _⟩ := hcn.b.form
      obtain ⟨ra, rc, rfl, _⟩ := hcn.r.form
      obtain ⟨z1, z2, z3⟩ := hH.out.sizes HC.out
      have hDI : D.length ≤ 20000 := z3
      have HL : Hid (Calls Tryz.prog 62 #[.pointer (some ⟨R, 0, none⟩), cnVal l[k] (.slice ta l[k].terms.length tc) (.slice xa l[k].xs.length xc) (.slice ba l[k].table.length bc) (.slice ra l[k].rows.length rc)] _ (LaidC4 base R S1 F1 _ l[k])) :=
        con4_any base R S1 F1 l[k] _ _ _ _ _ hH.out.room (fun wr' S' hA => hcn.below (HBW.out _ _ (hH.out.agree.trans hA))) (HCs.out _ (List.getElem_mem hlt)) ⟨by rw [hH.out.f0]; simp only [List.length_append]; have := HF.out 0; omega, by rw [hH.out.f1]; simp only [List.length_append]; have := HF.out 1; omega, by rw [hH.out.f4]; simp; have := HF.out 4; omega, by rw [hH.out.f5]; simp; have := HF.out 5; omega, by rw [hH.out.f16]; simp; have := HF.out 16; omega, by rw [hH.out.f17]; simp; have := HF.out 17; omega⟩
      unfold cnVal at HL
      obtain ⟨fa, fc, hfv⟩ := own_form hH.out.own
      subst hfv
      have HK : Hid (l[k] = l[k]) := rfl
      generalize hcc : l[k] = c at HL e0 e1 e2 e3 e4 e5 e6 e7 e8 e9
      have HCC : Hid (l[k] = c) := hcc
      clear hcs hcn hcl hDl hbr z1 z2 z3 hcc HK
      go_wp2_with fail
      refine calls_at HL.out (by with_reducible rfl) (by with_reducible rfl) ?_
      rintro e w1 ⟨⟨bT, bX, bB, bL, cT, cX, cB, cL, S2, F2, D2, M2, he, hR2, hA2, dT, dX, dB, dL, f0, f1, f4, f5, f16, f17, fn, hh2⟩⟩
      subst he
      unfold cnVal
      have HO1 : Hid (w1.ownsRow w.heap.size 64 10 (.slice fa D.length fc) D.length (consCells D)) := ownsRow_same hH.out.own (fun g hg => hh2 g (hH.out.own.lt g hg).2 (by rw [hH.out.lab g hg]; decide))
      have HN : Hid (∀ fv' W1 w2, Below w1.heap.size w1 W1 → w2.ownsRow w.heap.size 64 10 fv' (D.length + 1) (consCells D ++ [.int .i64 c.kind, .int .i64 c.op, .slice (some ⟨bT, 0, none⟩) c.terms.length (c.terms.length + 4), .int .i64 c.k, .int .i64 c.v, .int .i64 c.x, .int .i64 c.y, .slice (some ⟨bX, 0, none⟩) c.xs.length (c.xs.length + 4), .slice (some ⟨bB, 0, none⟩) c.table.length (c.table.length + 4), .slice (some ⟨bL, 0, none⟩) c.rows.length (c.rows.length + 4)]) → W1.grownBy w2 (Value.ownBlock (.slice fa D.length fc)) → (fv'.ownBlock = Value.ownBlock (.slice fa D.length fc) ∨ ∃ g, fv'.ownBlock = some g ∧ w1.heap.size ≤ g) → ∃ S3, LK1 base R S F w l (k + 1) fv' S3 F2 (D ++ [⟨bT, bX, bB, bL, cT, cX, cB, cL, D2, M2, c⟩]) w2) := fun fv' W1 w2 q1 q2 q3 q4 =>
        LK1.next (d := ⟨bT, bX, bB, bL, cT, cX, cB, cL, D2, M2, c⟩) hH.out hlt HCC.out.symm hR2 hA2 ⟨dT, dX, dB, dL⟩ (by rw [f0]; simp [Con1.entI]) (by rw [f1]; simp [Con1.atI]) f4 f5 f16 f17 fn hh2 HB.out q1 q2 q3 q4
      have HBS : Hid (w.heap.size ≤ w1.heap.size) := Nat.le_trans hH.out.agree.size hA2.size
      clear hR2 hA2 dT dX dB dL f0 f1 f4 f5 f16 f17 fn hh2 e0 e1 e2 e3 e4 e5 e6 e7 e8 e9
      go_wp2_with (at_builtin; refine append_els w1 [.int .i64 c.kind, .int .i64 c.op, .slice (some ⟨bT, 0, none⟩) c.terms.length (c.terms.length + 4), .int .i64 c.k, .int .i64 c.v, .int .i64 c.x, .int .i64 c.y, .slice (some ⟨bX, 0, none⟩) c.xs.length (c.xs.length + 4), .slice (some ⟨bB, 0, none⟩) c.table.length (c.table.length + 4), .slice (some ⟨bL, 0, none⟩) c.rows.length (c.rows.length + 4)] 10 rfl (by decide) rfl (.tmp 17) (.tmp 24) 23 64 (.agg #[.int .i64 0, .int .i64 0, .slice none 0 0, .int .i64 0, .int .i64 0, .int .i64 0, .int .i64 0, .slice none 0 0, .slice none 0 0, .slice none 0 0]) 144 rfl und23 info62 rfl w.heap.size _ _ _ (by rfl) HO1.out (con_cells1 c bT bX bB bL) _ rfl (by rfl) (by unfold maxLen; omega) (by omega) HBS.out ?_; intro v2 w2 ho2 hg2 hn2)
      obtain ⟨S3, hX⟩ := HN.out v2 _ w2 ((Below.refl _ _).alloc (Nat.le_refl _) _) ho2 hg2 (hn2.imp id (fun h => ⟨_, h, Nat.le_succ _⟩))
      have HX : Hid (LK1 base R S F w l (k + 1) v2 S3 F2 (D ++ [⟨bT, bX, bB, bL, cT, cX, cB, cL, D2, M2, c⟩]) w2) := hX
      clear ho2 hg2 hn2 HN hX
      go_wp2_with fail
      go_roundw
      case rel => exact ⟨k + 1, S3, F2, _, by go_num, by omega, HX⟩
      case measure => simp [intOf]; omega
    · have hkI : ¬ (k : Int) < (l.length : Int) := by omega
      have hkl : k = l.length := by omega
      have hDl := hH.out.len hk
      have HP : Hid (D.map Con1.c = l ∧ (F1 0 = F 0 ++ D.flatMap Con1.entI ∧ F1 1 = F 1 ++ D.flatMap Con1.atI ∧ F1 4 = F 4 ++ D.map Con1.entT ∧ F1 5 = F 5 ++ D.map Con1.atT ∧ F1 16 = F 16 ++ D.map Con1.entL ∧ F1 17 = F 17 ++ D.map Con1.atL) ∧ ∀ j, j ≠ 0 → j ≠ 1 → j ≠ 4 → j ≠ 5 → j ≠ 16 → j ≠ 17 → F1 j = F j) := ⟨by rw [hH.out.rows, hkl, List.take_length], ⟨hH.out.f0, hH.out.f1, hH.out.f4, hH.out.f5, hH.out.f16, hH.out.f17⟩, hH.out.f⟩
      have H2 : Hid (LK2 base R S w l 0 _ S1 F1 D _) := ⟨hH.out.room, hH.out.agree, by have := hH.out.own; rw [hDl, hkl] at this; simpa [kMarks] using this, hH.out.lab, hH.out.ok, hH.out.high⟩
      clear hH hkl hDl
      go_wp2_with fail
      go_loopw [7, 9] (fun fv iv wr => ∃ (k : Nat) (S2 : Lab), iv = .int .i64 (k : Int) ∧ k ≤ room ∧ Hid (LK2 base R S w l k fv S2 F1 D wr)) (fun _ iv _ => room - (intOf iv).toNat)
      case atStart => exact ⟨0, S1, rfl, Nat.zero_le _, H2⟩
      case round =>
        obtain ⟨k2, S2, rfl, hk2, hH⟩ := hrel
        clear H2
        by_cases hlt2 : k2 < room
        · have hkI2 : (k2 : Int) < (room : Int) := by omega
          obtain ⟨fa, fc, hfv⟩ := own_form hH.out.own
          subst hfv
          rename World => wq
          go_wp2_with (first
            | (go_at_call 60; refine (lot_any k2 _).mono ?_; rintro e w' ⟨rfl, hww⟩; rw [hww]; clear hww)
            | (at_builtin; refine append_els wq [.int .i64 0, .int .i64 0, .slice none 0 0, .int .i64 0, .int .i64 0, .int .i64 (lotI k2), .int .i64 0, .slice none 0 0, .slice none 0 0, .slice none 0 0] 10 rfl (by decide) rfl (.tmp 31) (.tmp 35) 23 64 (.agg #[.int .i64 0, .int .i64 0, .slice none 0 0, .int .i64 0, .int .i64 0, .int .i64 0, .int .i64 0, .slice none 0 0, .slice none 0 0, .slice none 0 0]) 144 rfl und23 info62 rfl w.heap.size _ _ _ (by rfl) hH.out.own (kmark_cells k2) _ rfl (by rfl) (by unfold maxLen; omega) (by omega) hH.out.agree.size ?_; intro v2 w2 ho2 hg2 hn2))
          obtain ⟨S3, hX⟩ := hH.out.next HB.out ((Below.refl _ _).alloc (Nat.le_refl _) _) ho2 hg2 (hn2.imp id (fun h => ⟨_, h, Nat.le_succ _⟩))
          have HX : Hid (LK2 base R S w l (k2 + 1) v2 S3 F1 D w2) := hX
          clear ho2 hg2 hn2 hX
          go_roundw
          case rel => exact ⟨k2 + 1, S3, by go_num, by omega, HX⟩
          case measure => simp [intOf]; omega
        · have hkI2 : ¬ (k2 : Int) < (room : Int) := by omega
          obtain rfl : k2 = room := by omega
          rename World => wq
          have hRw := hH.out.room
          obtain ⟨v0, hv0, ho0, hl0⟩ := hRw.field 18 (by decide)
          obtain ⟨b, cp, cur, hfv, hbb, hbg, hbc, hbm, hbs, hbt⟩ : ∃ b cp cur, _ = Value.slice (some ⟨b, 0, none⟩) (l.length + k2) cp ∧ w.heap.size ≤ b ∧ wq.heap[b]? = some (.cells cur 64 (0, 0)) ∧ l.length + k2 ≤ cp ∧ cp ≤ maxLen ∧ cur.size = cp * 10 ∧ cur.toList.take ((l.length + k2) * 10) = consCells D ++ kMarks k2 := by
            rcases hH.out.own.2 with ⟨_, hn⟩ | h
            · omega
            · exact h
          subst hfv
          have hSb : S2 b = 160 := hH.out.lab b rfl
          have hbw : b < wq.heap.size := (Array.getElem?_eq_some_iff.1 hbg).1
          have HCB : Hid (∀ j u, (consCells D ++ kMarks k2)[j]? = some u → wq.cell? ⟨b, j, none⟩ = some u) := fun j u hj => by
            have := hH.out.own.cells (g := b) rfl j u hj
            rwa [addr_none, Nat.zero_add] at this
          have HRW : Hid (RoomAt ety base R S2 F1 wq) := hRw
          have HO0 : Hid (wq.ownsRow base (ety 18) 1 v0 (F1 18).length (F1 18)) := ho0
          have HFL : Hid ((F1 18).length ≤ 100000 ∧ (F1 19).length ≤ 100000) := by
            rw [HP.out.2.2 18 (by decide) (by decide) (by decide) (by decide) (by decide) (by decide), HP.out.2.2 19 (by decide) (by decide) (by decide) (by decide) (by decide) (by decide)]
            exact ⟨HF.out 18, HF.out 19⟩
          have hcpI : (l.length : Int) + (k2 : Int) ≤ (cp : Int) := by omega
          unfold maxLen at hbm
          clear ho0 hl0 hRw hbg hbs hbt
          go_wp2_with (first
            | (at_builtin; refine append_one wq (.slice (some ⟨b, 0, none⟩) (l.length + k2) cp) rfl (.tmp 41) (.tmp 43) 42 23 (.slice none 0 0) 24 rfl und39 info23 rfl base v0 _ _ (by rfl) HO0.out rfl _ rfl (by rfl) (by have := HFL.out.1; unfold maxLen; omega) (by have := HFL.out.1; omega) HRW.out.bas ?_; intro v1 w1 ho1 hg1 hn1;
               obtain ⟨a1, c1, hf1⟩ := own_form ho1;
               subst hf1;
               have hW1 : Below wq.heap.size wq (wq.alloc (.cells #[.slice (some ⟨b, 0, none⟩) (l.length + k2) cp] 23)) := (Below.refl _ _).alloc (Nat.le_refl _) _;
               obtain ⟨hcR, hfR⟩ := HRW.out.after (f := 18) (by decide) hW1 hv0 hg1;
               obtain ⟨S3, hR2, hA2, hz2⟩ := HRW.out.push (f := 18) (by decide) hW1 hv0 ho1 hg1 (by simpa using hn1);
               have hh2 := HRW.out.push_high (v' := .slice a1 ((F1 18).length + 1) c1) (f := 18) (by decide) hW1 hv0 hg1;
               have q0 := (hcR 18).trans hv0;
               have q1 := hfR 18;
               obtain ⟨w2, hw2⟩ : ∃ w2, w1.setCell ⟨R, 18, none⟩ (.slice a1 ((F1 18).length + 1) c1) = w2 := ⟨_, rfl⟩;
               rw [hw2] at hR2 hA2 hh2;
               have HH2 : Hid (∀ k, k < wq.heap.size → 150 ≤ S2 k → w2.heap[k]? = wq.heap[k]?) := hh2;
               have HR2 : Hid (RoomAt ety base R S3 (fun j => if j = 18 then F1 18 ++ [.slice (some ⟨b, 0, none⟩) (l.length + k2) cp] else F1 j) w2) := hR2;
               have HA2 : Hid (Agree S2 S3 wq w2) := hA2;
               clear ho1 hg1 hn1 hW1 hcR hfR hA2 hz2 hh2;
               obtain ⟨vA, hvA, hoA, hlA⟩ := hR2.field 19 (by decide);
               have HOA : Hid (w2.ownsRow base 3 1 vA (F1 19).length (F1 19)) := hoA;
               clear hR2 hoA hlA)
            | (at_builtin; refine append_one w2 (.int .i64 (l.length : Int)) rfl (.tmp 51) (.tmp 54) 33 3 (.int .i64 0) 8 rfl und27 info3 rfl base vA _ _ (by rfl) HOA.out rfl _ rfl (by rfl) (by have := HFL.out.2; unfold maxLen; omega) (by have := HFL.out.2; omega) HR2.out.bas ?_; intro v3 w3 ho3 hg3 hn3;
               obtain ⟨a3, c3, hf3⟩ := own_form ho3;
               subst hf3;
               have hW3 : Below w2.heap.size w2 (w2.alloc (.cells #[.int .i64 (l.length : Int)] 3)) := (Below.refl _ _).alloc (Nat.le_refl _) _;
               obtain ⟨hcR3, hfR3⟩ := HR2.out.after (f := 19) (by decide) hW3 hvA hg3;
               obtain ⟨S4, hR3, hA3, hz3⟩ := HR2.out.push (f := 19) (by decide) hW3 hvA ho3 hg3 (by simpa using hn3);
               have hh3 := HR2.out.push_high (v' := .slice a3 ((F1 19).length + 1) c3) (f := 19) (by decide) hW3 hvA hg3;
               have q3 := (hcR3 19).trans hvA;
               have q4 := hfR3 19;
               obtain ⟨w4, hw4⟩ : ∃ w4, w3.setCell ⟨R, 19, none⟩ (.slice a3 ((F1 19).length + 1) c3) = w4 := ⟨_, rfl⟩;
               rw [hw4] at hR3 hA3 hh3;
               have HH3 : Hid (∀ k, k < w2.heap.size → 150 ≤ S3 k → w4.heap[k]? = w2.heap[k]?) := hh3;
               have HR3 : Hid (RoomAt ety base R S4 (fun j => if j = 19 then F1 19 ++ [.int .i64 (l.length : Int)] else if j = 18 then F1 18 ++ [.slice (some ⟨b, 0, none⟩) (l.length + k2) cp] else F1 j) w4) := hR3;
               have HA3 : Hid (Agree S3 S4 w2 w4) := hA3;
               clear ho3 hg3 hn3 hW3 hcR3 hfR3 hR3 hA3 hz3 hh3))
          go_ret
          have hA := HA2.out.trans HA3.out
          have hS3b : S3 b = 160 := (HA2.out.lab b hbw).trans hSb
          have hS4b : S4 b = 160 := (HA3.out.lab b (Nat.lt_of_lt_of_le hbw HA2.out.size)).trans hS3b
          have hfr : ∀ k, S4 k = 0 → (if k = b then 0 else S4 k) = 0 := fun k h => by split <;> simp_all
          have hblk : w4.heap[b]? = wq.heap[b]? := (HH3.out b (Nat.lt_of_lt_of_le hbw HA2.out.size) (by rw [hS3b]; decide)).trans (HH2.out b hbw (by rw [hSb]; decide))
          refine ⟨⟨b, cp, fun k => if k = b then 0 else S4 k, _, D, rfl, HR3.out.free hS4b, ?_, Nat.lt_of_lt_of_le hbw hA.size, by simp, HP.out.1, fun d hd => ((hH.out.ok d hd).agree hA).free hfr, fun j u hj => (World.cell?_of_block (a := ⟨b, j, none⟩) hblk).trans (HCB.out j u hj), ⟨HP.out.2.1.1, HP.out.2.1.2.1, HP.out.2.1.2.2.1, HP.out.2.1.2.2.2.1, HP.out.2.1.2.2.2.2.1, HP.out.2.1.2.2.2.2.2, ?_, ?_⟩, ?_, ?_⟩⟩
          · have hAA := hH.out.agree.trans hA
            refine ⟨hAA.os, hAA.tape, hAA.output, hAA.size, fun q hq => ?_, hAA.block⟩
            have : q ≠ b := by omega
            simp [this]; exact hAA.lab q hq
          · show F1 18 ++ _ = _
            rw [HP.out.2.2 18 (by decide) (by decide) (by decide) (by decide) (by decide) (by decide)]
          · show F1 19 ++ _ = _
            rw [HP.out.2.2 19 (by decide) (by decide) (by decide) (by decide) (by decide) (by decide)]
          · intro j a0 a1 a4 a5 a16 a17 a18 a19
            simp only [a18, a19, if_false]
            exact HP.out.2.2 j a0 a1 a4 a5 a16 a17
          · intro q hq hS
            have hq1 : q < wq.heap.size := Nat.lt_of_lt_of_le hq hH.out.agree.size
            have hS1 : 150 ≤ S2 q := by rw [hH.out.agree.lab q hq]; exact hS
            exact (HH3.out q (Nat.lt_of_lt_of_le hq1 HA2.out.size) (by rw [HA2.out.lab q hq1]; exact hS1)).trans ((HH2.out q hq1 hS1).trans (hH.out.high q hq hS))
end Go.Proofs.YtjanpglnahagdaaGreatDoor
