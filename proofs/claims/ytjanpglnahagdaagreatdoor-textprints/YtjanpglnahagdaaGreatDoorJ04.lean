/-
  Put together: MdLayM, MdCon0, MdCon.
-/
import Derived.Test.YtjanpglnahagdaaGreatDoorJ03
namespace Go.Proofs.YtjanpglnahagdaaGreatDoor
open Go.RowKit

theorem und38 : Tryz.prog.underlying 41 = some (.slice 32) := by kernel_rfl
theorem info30 : (Tryz.prog.info? 32).map (fun i => (i.zero, i.size, i.bytes)) = some (some (.slice none 0 0), 1, 24) := by kernel_rfl

/-- What layLists leaves. -/
structure LaidL (base R : Nat) (S : Lab) (F : Nat → List Value) (w : World) (l : List (List Int)) (room : Nat) (e : Ending) (w' : World) : Prop where
  out : ∃ (b cap : Nat) (S' : Lab) (F' : Nat → List Value) (D : List Row1) (M : List Nat), e = .returned (.slice (some ⟨b, 0, none⟩) l.length (l.length + room)) ∧ RoomAt ety base R S' F' w' ∧ Agree S S' w w' ∧ w.heap.size ≤ b ∧ b < w'.heap.size ∧ S' b = 0 ∧
    D.map Row1.l = l ∧ (∀ r ∈ D, r.Ok S' w' w.heap.size none) ∧ M.length = room ∧ (∀ i (h : i < M.length), MarkOk S' w' none M[i] (lotI i)) ∧
    (∀ j u, (D.map Row1.val ++ M.map markVal)[j]? = some u → w'.cell? ⟨b, j, none⟩ = some u) ∧
    F' 0 = F 0 ++ D.map Row1.ent ∧ F' 1 = F 1 ++ D.map Row1.at_ ∧ F' 16 = F 16 ++ [.slice (some ⟨b, 0, none⟩) (l.length + room) cap] ∧ F' 17 = F 17 ++ [.int .i64 (l.length : Int)] ∧ (∀ j, j ≠ 0 → j ≠ 1 → j ≠ 16 → j ≠ 17 → F' j = F j) ∧ ∀ k, k < w.heap.size → 150 ≤ S k → w'.heap[k]? = w.heap[k]?

set_option maxRecDepth 10000 in
set_option maxHeartbeats 4000000 in
theorem layLists_any (base R : Nat) (S : Lab) (F : Nat → List Value) (v : Value) (l : List (List Int)) (room : Nat) (w : World) (hR : RoomAt ety base R S F w) (hv : ∀ wr S', Agree S S' w wr → RowsAt wr v l) (hl : l.length ≤ 100000) (hlr : ∀ r ∈ l, r.length ≤ 100000) (hr0 : 0 < room) (hr : room ≤ 40)
    (hF0 : (F 0).length + l.length ≤ 900000) (hF1 : (F 1).length + l.length ≤ 900000) (hF16 : (F 16).length ≤ 900000) (hF17 : (F 17).length ≤ 900000) :
    Calls Tryz.prog 118 #[.pointer (some ⟨R, 0, none⟩), v, .int .i64 (room : Int)] w (LaidL base R S F w l room) := by
  have HV : Hid (∀ wr S', Agree S S' w wr → RowsAt wr v l) := hv
  obtain ⟨a, cap, rfl, hm⟩ := (hv w S (Agree.refl _ _)).form
  have hb0 : Below w.heap.size w (w.alloc (.cells #[] 33)) := (Below.refl _ _).alloc (Nat.le_refl _) _
  have H1 : Hid (LL1 base R S F w l 0 (.slice (some ⟨w.heap.size, 0, none⟩) 0 0) S F [] (w.alloc (.cells #[] 33))) :=
    ⟨hR.kept hb0, Agree.of_below S hb0, World.ownsRow_made w #[] 0 (Nat.le_refl _) (by unfold maxLen; omega) rfl, fun g hg => by simp [Value.ownBlock] at hg; subst hg; exact hR.top _ (Nat.le_refl _), by simp, fun r hr => by simp at hr, by simp, by simp, fun _ _ _ => rfl, fun q hq _ => hb0.block q hq⟩
  have HF : Hid ((F 0).length + l.length ≤ 900000 ∧ (F 1).length + l.length ≤ 900000 ∧ (F 16).length ≤ 900000 ∧ (F 17).length ≤ 900000 ∧ ∀ r ∈ l, r.length ≤ 100000) := ⟨hF0, hF1, hF16, hF17, hlr⟩
  clear hR hv hb0 hF0 hF1 hF16 hF17 hlr
  go_enter Tryz.func118, Tryz.ntmps118
  go_wp2_with fail
  go_loopw [7, 8] (fun fv iv wr => ∃ (k : Nat) (S1 : Lab) (F1 : Nat → List Value) (D : List Row1), iv = .int .i64 (k : Int) ∧ k ≤ l.length ∧ Hid (LL1 base R S F w l k fv S1 F1 D wr)) (fun _ iv _ => l.length - (intOf iv).toNat)
  case atStart => exact ⟨0, S, F, [], rfl, Nat.zero_le _, H1⟩
  case round =>
    obtain ⟨k, S1, F1, D, rfl, hk, hH⟩ := hrel
    clear H1
    by_cases hlt : k < l.length
    · have hkI : (k : Int) < (l.length : Int) := by omega
      have hDl := hH.out.len hk
      obtain ⟨ra, rc, hre, _, hro⟩ := HV.out _ S1 hH.out.agree
      injection hre with e1 e2 e3
      subst e1 e3
      obtain ⟨b0, o0, ha, hb0, hcs⟩ := hro (by omega)
      subst ha
      obtain ⟨u, hcell, hu⟩ := hcs k hlt
      have HL : Hid (Calls Tryz.prog 117 #[.pointer (some ⟨R, 0, none⟩), u, .int .i64 4] _ (LaidI base R S1 F1 _ l[k] 4)) :=
        layInts_any base R S1 F1 u l[k] 4 _ hH.out.room hu (HF.out.2.2.2.2 _ (List.getElem_mem hlt)) (by decide) (by decide)
          (by rw [hH.out.f0]; simp; have := HF.out.1; omega) (by rw [hH.out.f1]; simp; have := HF.out.2.1; omega)
      obtain ⟨ua, uc, rfl, _⟩ := hu.form
      obtain ⟨fa, fc, hfv⟩ := own_form hH.out.own
      subst hfv
      have hDI : D.length ≤ 100000 := by omega
      clear hro hcs hu e2 hDl
      go_wp2_with (first
        | (go_at_call 117; refine calls_at HL.out (by with_reducible rfl) (by with_reducible rfl) ?_; rintro e w1 ⟨⟨b, cp, S2, F2, he, hb, hb1, hS2, hR2, h0, h1, hF2, hA2, hc2, hh2⟩⟩; subst he;
           have ho1 : w1.ownsRow w.heap.size 33 1 (.slice fa D.length fc) D.length (D.map Row1.val) := ownsRow_same hH.out.own (fun g hg => hA2.block g (hH.out.own.lt g hg).2 (hH.out.lab g hg));
           have HO1 : Hid (w1.ownsRow w.heap.size 33 1 (.slice fa D.length fc) D.length (D.map Row1.val)) := ho1;
           have HN : Hid (∀ fv' W1 w2, Below w1.heap.size w1 W1 → w2.ownsRow w.heap.size 33 1 fv' (D.length + 1) (D.map Row1.val ++ [.slice (some ⟨b, 0, none⟩) (l[k]).length ((l[k]).length + 4)]) → W1.grownBy w2 (Value.ownBlock (.slice fa D.length fc)) → (fv'.ownBlock = Value.ownBlock (.slice fa D.length fc) ∨ ∃ g, fv'.ownBlock = some g ∧ w1.heap.size ≤ g) → LL1 base R S F w l (k + 1) fv' S2 F2 (D ++ [⟨b, cp, l[k]⟩]) w2) := fun fv' W1 w2 q1 q2 q3 q4 => hH.out.next hlt hb hb1 hS2 hR2 h0 h1 hF2 hA2 hc2 hh2 q1 q2 q3 q4;
           have HBS : Hid (w.heap.size ≤ w1.heap.size) := Nat.le_trans hH.out.agree.size hA2.size;
           clear ho1 hb hb1 hS2 hR2 h0 h1 hF2 hA2 hc2 hh2)
        | (at_builtin; refine append_one w1 (.slice (some ⟨b, 0, none⟩) (l[k]).length ((l[k]).length + 4)) rfl (.tmp 17) (.tmp 24) 32 33 (.slice none 0 0) 24 rfl und30 info27 rfl w.heap.size _ _ _ (by rfl) HO1.out rfl _ rfl (by rfl) (by unfold maxLen; omega) (by omega) HBS.out ?_; intro v2 w2 ho2 hg2 hn2))
      have HX : Hid (LL1 base R S F w l (k + 1) v2 S2 F2 (D ++ [⟨b, cp, l[k]⟩]) w2) := HN.out v2 _ w2 ((Below.refl _ _).alloc (Nat.le_refl _) _) ho2 hg2 (hn2.imp id (fun h => ⟨_, h, Nat.le_succ _⟩))
      clear ho2 hg2 hn2 HN
      go_wp2_with fail
      go_roundw
      case rel => exact ⟨k + 1, S2, F2, _, by go_num, by omega, HX⟩
      case measure => simp [intOf]; omega
    · have hkI : ¬ (k : Int) < (l.length : Int) := by omega
      have H2 : Hid (LL2 base R S F w l 0 _ S1 F1 D [] _) := hH.out.done (by omega)
      clear hH
      go_wp2_with fail
      go_loopw [7, 9] (fun fv iv wr => ∃ (k : Nat) (M : List Nat), iv = .int .i64 (k : Int) ∧ k ≤ room ∧ Hid (LL2 base R S F w l k fv S1 F1 D M wr)) (fun _ iv _ => room - (intOf iv).toNat)
      case atStart => exact ⟨0, [], rfl, Nat.zero_le _, H2⟩
      case round =>
        obtain ⟨k2, M, rfl, hk2, hH⟩ := hrel
        clear H2
        by_cases hlt2 : k2 < room
        · have hkI2 : (k2 : Int) < (room : Int) := by omega
          obtain ⟨fa, fc, hfv⟩ := own_form hH.out.own
          subst hfv
          have HOA : Hid ((World.alloc _ (.cells #[.int .i64 (lotI k2)] 3)).ownsRow w.heap.size 33 1 (.slice fa (l.length + k2) fc) (l.length + k2) (D.map Row1.val ++ M.map markVal)) := hH.out.own.alloc _
          rename World => wq
          go_wp2_with (first
            | (go_at_call 60; refine (lot_any k2 _).mono ?_; rintro e w' ⟨rfl, hww⟩; rw [hww]; clear hww)
            | (at_builtin; refine append_one (wq.alloc (.cells #[.int .i64 (lotI k2)] 3)) (.slice (some ⟨wq.heap.size, 0, none⟩) 1 1) rfl (.tmp 31) (.tmp 35) 32 33 (.slice none 0 0) 24 rfl und30 info27 rfl w.heap.size _ _ _ (by rfl) HOA.out rfl _ rfl (by simp; rfl) (by unfold maxLen; omega) (by omega) (by have := hH.out.agree.size; simp; omega) ?_; intro v2 w2 ho2 hg2 hn2))
          have HX : Hid (LL2 base R S F w l (k2 + 1) v2 S1 F1 D (M ++ [wq.heap.size]) w2) :=
            hH.out.next (W1 := (wq.alloc (.cells #[.int .i64 (lotI k2)] 3)).alloc (.cells #[.slice (some ⟨wq.heap.size, 0, none⟩) 1 1] 33)) (((Below.refl _ _).alloc (Nat.le_refl _) _).alloc (by simp) _) (by simp; omega) (by simp) ho2 hg2 (hn2.imp id (fun h => ⟨_, h, by simp⟩))
          clear ho2 hg2 hn2
          go_roundw
          case rel => exact ⟨k2 + 1, _, by go_num, by omega, HX⟩
          case measure => simp [intOf]; omega
        · have hkI2 : ¬ (k2 : Int) < (room : Int) := by omega
          obtain rfl : k2 = room := by omega
          rename World => wq
          have hRw := hH.out.room
          obtain ⟨v0, hv0, ho0, hl0⟩ := hRw.field 16 (by decide)
          obtain ⟨b, cp, cur, hfv, hbb, hbg, hbc, hbm, hbs, hbt⟩ : ∃ b cp cur, _ = Value.slice (some ⟨b, 0, none⟩) (l.length + k2) cp ∧ w.heap.size ≤ b ∧ wq.heap[b]? = some (.cells cur 33 (0, 0)) ∧ l.length + k2 ≤ cp ∧ cp ≤ maxLen ∧ cur.size = cp * 1 ∧ cur.toList.take ((l.length + k2) * 1) = D.map Row1.val ++ M.map markVal := by
            rcases hH.out.own.2 with ⟨_, hn⟩ | h
            · omega
            · exact h
          subst hfv
          have hSb : S1 b = 0 := hH.out.lab b rfl
          have hbw : b < wq.heap.size := (Array.getElem?_eq_some_iff.1 hbg).1
          have HCB : Hid (∀ j u, (D.map Row1.val ++ M.map markVal)[j]? = some u → wq.cell? ⟨b, j, none⟩ = some u) := fun j u hj => by
            have := hH.out.own.cells (g := b) rfl j u hj
            rwa [addr_none, Nat.zero_add] at this
          have HRW : Hid (RoomAt ety base R S1 F1 wq) := hRw
          have HO0 : Hid (wq.ownsRow base (ety 16) 1 v0 (F1 16).length (F1 16)) := ho0
          have HFL : Hid ((F1 16).length ≤ 900000 ∧ (F1 17).length ≤ 900000) := by
            rw [hH.out.f 16 (by decide) (by decide), hH.out.f 17 (by decide) (by decide)]
            exact ⟨HF.out.2.2.1, HF.out.2.2.2.1⟩
          have hcpI : (l.length : Int) + (k2 : Int) ≤ (cp : Int) := by omega
          unfold maxLen at hbm
          clear ho0 hl0 hRw hbg hbs hbt
          go_wp2_with (first
            | (at_builtin; refine append_one wq (.slice (some ⟨b, 0, none⟩) (l.length + k2) cp) rfl (.tmp 41) (.tmp 43) 41 32 (.slice none 0 0) 24 rfl und38 info30 rfl base v0 _ _ (by rfl) HO0.out rfl _ rfl (by rfl) (by have := HFL.out.1; unfold maxLen; omega) (by have := HFL.out.1; omega) HRW.out.bas ?_; intro v1 w1 ho1 hg1 hn1;
               obtain ⟨a1, c1, hf1⟩ := own_form ho1;
               subst hf1;
               have hW1 : Below wq.heap.size wq (wq.alloc (.cells #[.slice (some ⟨b, 0, none⟩) (l.length + k2) cp] 32)) := (Below.refl _ _).alloc (Nat.le_refl _) _;
               obtain ⟨hcR, hfR⟩ := HRW.out.after (f := 16) (by decide) hW1 hv0 hg1;
               obtain ⟨S2, hR2, hA2, hz2⟩ := HRW.out.push (f := 16) (by decide) hW1 hv0 ho1 hg1 (by simpa using hn1);
               have hh2 := HRW.out.push_high (v' := .slice a1 ((F1 16).length + 1) c1) (f := 16) (by decide) hW1 hv0 hg1;
               have q0 := (hcR 16).trans hv0;
               have q1 := hfR 16;
               obtain ⟨w2, hw2⟩ : ∃ w2, w1.setCell ⟨R, 16, none⟩ (.slice a1 ((F1 16).length + 1) c1) = w2 := ⟨_, rfl⟩;
               rw [hw2] at hR2 hA2 hh2;
               have HH2 : Hid (∀ k, k < wq.heap.size → 150 ≤ S1 k → w2.heap[k]? = wq.heap[k]?) := hh2;
               have HR2 : Hid (RoomAt ety base R S2 (fun j => if j = 16 then F1 16 ++ [.slice (some ⟨b, 0, none⟩) (l.length + k2) cp] else F1 j) w2) := hR2;
               have HA2 : Hid (Agree S1 S2 wq w2) := hA2;
               clear ho1 hg1 hn1 hW1 hcR hfR hA2 hz2 hh2;
               obtain ⟨vA, hvA, hoA, hlA⟩ := hR2.field 17 (by decide);
               have HOA : Hid (w2.ownsRow base 3 1 vA (F1 17).length (F1 17)) := hoA;
               clear hR2 hoA hlA)
            | (at_builtin; refine append_one w2 (.int .i64 (l.length : Int)) rfl (.tmp 51) (.tmp 54) 33 3 (.int .i64 0) 8 rfl und27 info3 rfl base vA _ _ (by rfl) HOA.out rfl _ rfl (by rfl) (by have := HFL.out.2; unfold maxLen; omega) (by have := HFL.out.2; omega) HR2.out.bas ?_; intro v3 w3 ho3 hg3 hn3;
               obtain ⟨a3, c3, hf3⟩ := own_form ho3;
               subst hf3;
               have hW3 : Below w2.heap.size w2 (w2.alloc (.cells #[.int .i64 (l.length : Int)] 3)) := (Below.refl _ _).alloc (Nat.le_refl _) _;
               obtain ⟨hcR3, hfR3⟩ := HR2.out.after (f := 17) (by decide) hW3 hvA hg3;
               obtain ⟨S3, hR3, hA3, hz3⟩ := HR2.out.push (f := 17) (by decide) hW3 hvA ho3 hg3 (by simpa using hn3);
               have hh3 := HR2.out.push_high (v' := .slice a3 ((F1 17).length + 1) c3) (f := 17) (by decide) hW3 hvA hg3;
               have q3 := (hcR3 17).trans hvA;
               have q4 := hfR3 17;
               obtain ⟨w4, hw4⟩ : ∃ w4, w3.setCell ⟨R, 17, none⟩ (.slice a3 ((F1 17).length + 1) c3) = w4 := ⟨_, rfl⟩;
               rw [hw4] at hR3 hA3 hh3;
               have HH3 : Hid (∀ k, k < w2.heap.size → 150 ≤ S2 k → w4.heap[k]? = w2.heap[k]?) := hh3;
               have HR3 : Hid (RoomAt ety base R S3 (fun j => if j = 17 then F1 17 ++ [.int .i64 (l.length : Int)] else if j = 16 then F1 16 ++ [.slice (some ⟨b, 0, none⟩) (l.length + k2) cp] else F1 j) w4) := hR3;
               have HA3 : Hid (Agree S2 S3 w2 w4) := hA3;
               clear ho3 hg3 hn3 hW3 hcR3 hfR3 hR3 hA3 hz3 hh3))
          go_ret
          have hA := HA2.out.trans HA3.out
          refine ⟨⟨b, cp, S3, _, D, M, rfl, HR3.out, hH.out.agree.trans hA, hbb, Nat.lt_of_lt_of_le hbw hA.size, (hA.lab b hbw).trans hSb, hH.out.rows, ?_, hH.out.len, ?_, ?_, ?_, ?_, ?_, ?_, ?_, ?_⟩⟩
          · intro r hr
            have h := (hH.out.ok r hr).agree hA
            exact ⟨h.ge, h.lt, h.lab, by simp, h.cells⟩
          · intro i hi
            have h := (hH.out.marks i hi).agree hA
            exact ⟨h.lt, h.lab, by simp, h.cell⟩
          · exact fun j u hj => (hA.cell (a := ⟨b, j, none⟩) hbw hSb).trans (HCB.out j u hj)
          · exact hH.out.f0
          · exact hH.out.f1
          · show F1 16 ++ _ = _
            rw [hH.out.f 16 (by decide) (by decide)]
          · show F1 17 ++ _ = _
            rw [hH.out.f 17 (by decide) (by decide)]
          · intro j h0 h1 h16 h17
            simp only [h16, h17, if_false]
            exact hH.out.f j h0 h1
          · intro q hq hS
            have hq1 : q < wq.heap.size := Nat.lt_of_lt_of_le hq hH.out.agree.size
            have hS1 : 150 ≤ S1 q := by rw [hH.out.agree.lab q hq]; exact hS
            exact (HH3.out q (Nat.lt_of_lt_of_le hq1 HA2.out.size) (by rw [HA2.out.lab q hq1]; exact hS1)).trans ((HH2.out q hq1 hS1).trans (hH.out.high q hq hS))
end Go.Proofs.YtjanpglnahagdaaGreatDoor

namespace Go.Proofs.YtjanpglnahagdaaGreatDoor
open Go.RowKit

theorem RoomAt.set {ety : Nat → TypeId} {base R : Nat} {S : Lab} {F : Nat → List Value} {w : World} (h : RoomAt ety base R S F w) {N : Nat} (hN : 150 ≤ S N) (i : Nat) (v : Value) : RoomAt ety base R S F (w.setCell ⟨N, i, none⟩ v) := by
  have hsz : (w.setCell ⟨N, i, none⟩ v).heap.size = w.heap.size := by simp [World.setCell]
  have hb : ∀ k, k ≠ N → (w.setCell ⟨N, i, none⟩ v).heap[k]? = w.heap[k]? := fun k hk => Below.heap_setCell w ⟨N, i, none⟩ v k hk
  have hRN : R ≠ N := fun e => by rw [← e, h.lab] at hN; omega
  refine ⟨h.lab, fun k hk => h.top k (by rwa [hsz] at hk), h.low, by rw [hsz]; exact h.bas, ?_, fun f hf => ?_⟩
  · obtain ⟨cs, t, h1, h2⟩ := h.blk
    exact ⟨cs, t, (hb R hRN).trans h1, h2⟩
  · obtain ⟨u, h1, h2, h3⟩ := h.field f hf
    exact ⟨u, (World.cell?_of_block (a := ⟨R, f, none⟩) (hb R hRN)).trans h1, ownsRow_same h2 (fun g hg' => hb g (fun e => by have := h3 g hg'; rw [e] at this; omega)), h3⟩
theorem Agree.set {S S' : Lab} {w w1 : World} (h : Agree S S' w w1) {N : Nat} (hN : 150 ≤ S' N) (i : Nat) (v : Value) : Agree S S' w (w1.setCell ⟨N, i, none⟩ v) := by
  refine ⟨h.os, h.tape, h.output, by simpa [World.setCell] using h.size, h.lab, fun k hk h0 => ?_⟩
  have hkN : k ≠ N := fun e => by have := h.lab k hk; rw [e] at this h0; omega
  exact (Below.heap_setCell w1 ⟨N, i, none⟩ v k hkN).trans (h.block k hk h0)
/-- Two blocks of the call's own get a label. -/
def lab2 (S : Lab) (N : Nat) : Lab := fun k => if k = N ∨ k = N + 1 then 150 else S k
theorem RoomAt.lab2 {ety : Nat → TypeId} {base R : Nat} {S : Lab} {F : Nat → List Value} {w : World} (h : RoomAt ety base R S F w) {N : Nat} (hN : N + 1 < w.heap.size) (hb : base ≤ N) (h0 : S N = 0) (h1 : S (N + 1) = 0) : RoomAt ety base R (lab2 S N) F w := by
  have hne : ∀ k, S k ≠ 0 → Go.Proofs.YtjanpglnahagdaaGreatDoor.lab2 S N k = S k := fun k hk => if_neg (fun e => by rcases e with rfl | rfl <;> contradiction)
  refine ⟨(hne R (by rw [h.lab]; decide)).trans h.lab, fun k hk => ?_, fun k hk => ?_, h.bas, h.blk, fun f hf => ?_⟩
  · unfold Go.Proofs.YtjanpglnahagdaaGreatDoor.lab2
    rw [if_neg (by omega)]; exact h.top k hk
  · unfold Go.Proofs.YtjanpglnahagdaaGreatDoor.lab2
    rw [if_neg (by omega)]; exact h.low k hk
  · obtain ⟨v, h1', h2, h3⟩ := h.field f hf
    exact ⟨v, h1', h2, fun g hg => (hne g (by rw [h3 g hg]; omega)).trans (h3 g hg)⟩
theorem agree_lab2 {S : Lab} {w w1 : World} (hb : Below w.heap.size w w1) : Agree S (lab2 S w.heap.size) w w1 :=
  ⟨hb.os, hb.tape, hb.output, hb.size, fun k hk => by unfold lab2; rw [if_neg (by omega)], fun k hk _ => hb.block k hk⟩

theorem box10 {w : World} {N : Nat} {a0 a1 a2 a3 a4 a5 a6 a7 a8 a9 : Value} {t : TypeId} (h : w.heap[N]? = some (.cells #[a0, a1, a2, a3, a4, a5, a6, a7, a8, a9] t (0, 0))) :
    (w.cell? ⟨N, 0, none⟩ = some a0 ∧ w.cell? ⟨N, 1, none⟩ = some a1 ∧ w.cell? ⟨N, 2, none⟩ = some a2 ∧ w.cell? ⟨N, 3, none⟩ = some a3 ∧ w.cell? ⟨N, 4, none⟩ = some a4 ∧ w.cell? ⟨N, 5, none⟩ = some a5 ∧ w.cell? ⟨N, 6, none⟩ = some a6 ∧ w.cell? ⟨N, 7, none⟩ = some a7 ∧ w.cell? ⟨N, 8, none⟩ = some a8 ∧ w.cell? ⟨N, 9, none⟩ = some a9) ∧ ∀ j, w.frozen? ⟨N, j, none⟩ = false := by
  refine ⟨⟨?_, ?_, ?_, ?_, ?_, ?_, ?_, ?_, ?_, ?_⟩, fun j => ?_⟩ <;> simp [World.cell?, World.frozen?, h]

/-- A list of ints that was laid with room. -/
structure DataI (S : Lab) (w : World) (b : Nat) (l : List Int) (room : Nat) : Prop where
  lab : S b = 0
  lt : b < w.heap.size
  cells : ∀ j u, (laidInts l room)[j]? = some u → w.cell? ⟨b, j, none⟩ = some u
theorem DataI.agree {S S' : Lab} {w w' : World} {b : Nat} {l : List Int} {room : Nat} (h : DataI S w b l room) (ha : Agree S S' w w') : DataI S' w' b l room :=
  ⟨(ha.lab b h.lt).trans h.lab, Nat.lt_of_lt_of_le h.lt ha.size, fun j u hj => (ha.cell (a := ⟨b, j, none⟩) h.lt h.lab).trans (h.cells j u hj)⟩
structure DataT (S : Lab) (w : World) (b : Nat) (l : List (Int × Int)) (room : Nat) : Prop where
  lab : S b = 0
  lt : b < w.heap.size
  cells : ∀ j u, (laidTerms l room)[j]? = some u → w.cell? ⟨b, j, none⟩ = some u
theorem DataT.agree {S S' : Lab} {w w' : World} {b : Nat} {l : List (Int × Int)} {room : Nat} (h : DataT S w b l room) (ha : Agree S S' w w') : DataT S' w' b l room :=
  ⟨(ha.lab b h.lt).trans h.lab, Nat.lt_of_lt_of_le h.lt ha.size, fun j u hj => (ha.cell (a := ⟨b, j, none⟩) h.lt h.lab).trans (h.cells j u hj)⟩
structure DataL (S : Lab) (w : World) (b : Nat) (l : List (List Int)) (D : List Row1) (M : List Nat) (room : Nat) : Prop where
  lab : S b = 0
  lt : b < w.heap.size
  rows : D.map Row1.l = l
  ok : ∀ r ∈ D, DataI S w r.b r.l 4
  len : M.length = room
  marks : ∀ i (h : i < M.length), S M[i] = 0 ∧ M[i] < w.heap.size ∧ w.cell? ⟨M[i], 0, none⟩ = some (.int .i64 (lotI i))
  cells : ∀ j u, (D.map Row1.val ++ M.map markVal)[j]? = some u → w.cell? ⟨b, j, none⟩ = some u
theorem DataL.agree {S S' : Lab} {w w' : World} {b : Nat} {l : List (List Int)} {D : List Row1} {M : List Nat} {room : Nat} (h : DataL S w b l D M room) (ha : Agree S S' w w') : DataL S' w' b l D M room :=
  ⟨(ha.lab b h.lt).trans h.lab, Nat.lt_of_lt_of_le h.lt ha.size, h.rows, fun r hr => (h.ok r hr).agree ha, h.len, fun i hi => ⟨(ha.lab _ (h.marks i hi).2.1).trans (h.marks i hi).1, Nat.lt_of_lt_of_le (h.marks i hi).2.1 ha.size, (ha.cell (a := ⟨M[i], 0, none⟩) (h.marks i hi).2.1 (h.marks i hi).1).trans (h.marks i hi).2.2⟩,
    fun j u hj => (ha.cell (a := ⟨b, j, none⟩) h.lt h.lab).trans (h.cells j u hj)⟩

theorem DataI.ints {S : Lab} {w : World} {b : Nat} {l : List Int} {room : Nat} (h : DataI S w b l room) (hl : l.length ≤ 100000) : IntsAt w (.slice (some ⟨b, 0, none⟩) l.length (l.length + room)) l := by
  refine ⟨_, _, rfl, by unfold maxLen; omega, fun _ => ⟨b, 0, rfl, h.lt, fun j hj => ?_⟩⟩
  rw [Nat.zero_add]
  refine h.cells j _ ?_
  unfold laidInts
  rw [List.getElem?_append_left (by simpa using hj), List.getElem?_map, List.getElem?_eq_getElem hj]; rfl
theorem DataT.terms {S : Lab} {w : World} {b : Nat} {l : List (Int × Int)} {room : Nat} (h : DataT S w b l room) (hl : l.length ≤ 100000) : TermsAt w (.slice (some ⟨b, 0, none⟩) l.length (l.length + room)) l := by
  refine ⟨_, _, rfl, by unfold maxLen; omega, fun _ => ⟨b, 0, rfl, h.lt, fun j hj => ?_⟩⟩
  have hg := termCells_get l j hj
  have hlen := termCells_length l
  rw [Nat.zero_add]
  refine ⟨h.cells _ _ ?_, h.cells _ _ ?_⟩
  · unfold laidTerms
    rw [List.getElem?_append_left (by omega)]; exact hg.1
  · unfold laidTerms
    rw [List.getElem?_append_left (by omega)]; exact hg.2
theorem DataL.rowsAt {S : Lab} {w : World} {b : Nat} {l : List (List Int)} {D : List Row1} {M : List Nat} {room : Nat} (h : DataL S w b l D M room) (hl : l.length ≤ 100000) (hlr : ∀ r ∈ l, r.length ≤ 100000) : RowsAt w (.slice (some ⟨b, 0, none⟩) l.length (l.length + room)) l := by
  have hD : D.length = l.length := by have := congrArg List.length h.rows; simpa using this
  refine ⟨_, _, rfl, by unfold maxLen; omega, fun _ => ⟨b, 0, rfl, h.lt, fun j hj => ?_⟩⟩
  have hjD : j < D.length := by omega
  refine ⟨(D[j]).val, ?_, ?_⟩
  · rw [Nat.zero_add]
    refine h.cells j _ ?_
    rw [List.getElem?_append_left (by simpa using hjD), List.getElem?_map, List.getElem?_eq_getElem hjD]; rfl
  · have e : (D[j]).l = l[j] := by
      have h1 : (D.map Row1.l)[j]'(by simpa using hjD) = l[j] := by simp only [h.rows]
      simpa using h1
    have := (h.ok _ (List.getElem_mem hjD)).ints (by rw [e]; exact hlr _ (List.getElem_mem hj))
    rw [e] at this
    unfold Row1.val
    rw [e]; exact this

set_option maxHeartbeats 400000 in
theorem roomTerms_any (base R : Nat) (S : Lab) (F : Nat → List Value) (v : Value) (l : List (Int × Int)) (w : World) (hR : RoomAt ety base R S F w) (hv : TermsAt w v l) (hl : l.length ≤ 100000) (hF0 : (F 4).length ≤ 1000000) (hF1 : (F 5).length ≤ 1000000) :
    Calls Tryz.prog 17 #[.pointer (some ⟨R, 0, none⟩), v] w (LaidT base R S F w l 40) := by
  have HL : Hid (Calls Tryz.prog 45 #[.pointer (some ⟨R, 0, none⟩), v, .int .i64 40] w (LaidT base R S F w l 40)) := layTerms_any base R S F v l 40 w hR hv hl (by decide) (by decide) hF0 hF1
  obtain ⟨a, cap, rfl, _⟩ := hv.form
  clear hR hv
  go_enter Tryz.func17, Tryz.ntmps17
  go_wp2_with (go_at_call 45; refine calls_at HL.out (by with_reducible rfl) (by with_reducible rfl) ?_; rintro e w1 ⟨⟨b, cp, S1, F1, he, h⟩⟩; subst he)
  go_ret
  exact ⟨⟨b, cp, S1, F1, rfl, h⟩⟩
end Go.Proofs.YtjanpglnahagdaaGreatDoor

namespace Go.Proofs.YtjanpglnahagdaaGreatDoor
open Go.RowKit

/-- What Con leaves. -/
structure LaidC (base R : Nat) (S : Lab) (F : Nat → List Value) (w : World) (c : Md.Cn) (e : Ending) (w' : World) : Prop where
  out : ∃ (bT bX bB bL cT cX cB cL : Nat) (S' : Lab) (F' : Nat → List Value) (D : List Row1) (M : List Nat),
    e = .returned (cnVal c (.slice (some ⟨bT, 0, none⟩) c.terms.length (c.terms.length + 40)) (.slice (some ⟨bX, 0, none⟩) c.xs.length (c.xs.length + 40)) (.slice (some ⟨bB, 0, none⟩) c.table.length (c.table.length + 40)) (.slice (some ⟨bL, 0, none⟩) c.rows.length (c.rows.length + 40))) ∧
    RoomAt ety base R S' F' w' ∧ Agree S S' w w' ∧ DataT S' w' bT c.terms 40 ∧ DataI S' w' bX c.xs 40 ∧ DataI S' w' bB c.table 40 ∧ DataL S' w' bL c.rows D M 40 ∧
    F' 0 = F 0 ++ [.slice (some ⟨bX, 0, none⟩) (c.xs.length + 40) cX, .slice (some ⟨bB, 0, none⟩) (c.table.length + 40) cB] ++ D.map Row1.ent ∧ F' 1 = F 1 ++ [.int .i64 (c.xs.length : Int), .int .i64 (c.table.length : Int)] ++ D.map Row1.at_ ∧
    F' 4 = F 4 ++ [.slice (some ⟨bT, 0, none⟩) (c.terms.length + 40) cT] ∧ F' 5 = F 5 ++ [.int .i64 (c.terms.length : Int)] ∧ F' 16 = F 16 ++ [.slice (some ⟨bL, 0, none⟩) (c.rows.length + 40) cL] ∧ F' 17 = F 17 ++ [.int .i64 (c.rows.length : Int)] ∧
    ∀ j, j ≠ 0 → j ≠ 1 → j ≠ 4 → j ≠ 5 → j ≠ 16 → j ≠ 17 → F' j = F j

theorem con_step {base R N : Nat} {S S1 S2 : Lab} {F2 : Nat → List Value} {w W w2 : World} {cs : Array Value} {z : Obj} (hA1 : Agree S S1 w W) (hA2 : Agree S1 S2 W w2) (hR2 : RoomAt ety base R S2 F2 w2) (hh2 : ∀ k, k < W.heap.size → 150 ≤ S1 k → w2.heap[k]? = W.heap[k]?)
    (hN : W.heap[N]? = some (.cells cs 64 (0, 0))) (hZ : W.heap[N + 1]? = some z) (hL : 150 ≤ S1 N ∧ 150 ≤ S1 (N + 1)) (i : Nat) (v : Value) {V : World} (hV : w2.setCell ⟨N, i, none⟩ v = V) :
    w2.heap[N]? = some (.cells cs 64 (0, 0)) ∧ RoomAt ety base R S2 F2 V ∧ Agree S S2 w V ∧ Agree S2 S2 w2 V ∧ Agree S1 S2 W V ∧ V.heap[N]? = some (.cells (cs.setIfInBounds i v) 64 (0, 0)) ∧ V.heap[N + 1]? = some z ∧ (150 ≤ S2 N ∧ 150 ≤ S2 (N + 1)) := by
  subst hV
  have hNl : N < W.heap.size := (Array.getElem?_eq_some_iff.1 hN).1
  have hZl : N + 1 < W.heap.size := (Array.getElem?_eq_some_iff.1 hZ).1
  have hL2 : 150 ≤ S2 N ∧ 150 ≤ S2 (N + 1) := ⟨by rw [hA2.lab N hNl]; exact hL.1, by rw [hA2.lab _ hZl]; exact hL.2⟩
  have h1 : w2.heap[N]? = some (.cells cs 64 (0, 0)) := (hh2 N hNl hL.1).trans hN
  have h2 : w2.heap[N + 1]? = some z := (hh2 _ hZl hL.2).trans hZ
  refine ⟨h1, hR2.set hL2.1 i v, (hA1.trans hA2).set hL2.1 i v, (Agree.refl _ _).set hL2.1 i v, hA2.set hL2.1 i v, ?_, ?_, hL2⟩
  · simp [World.setCell, Array.getElem?_modify, h1]
  · exact (Below.heap_setCell w2 ⟨N, i, none⟩ v (N + 1) (by simp)).trans h2

end Go.Proofs.YtjanpglnahagdaaGreatDoor
