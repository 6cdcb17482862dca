/-
  DomBack's walk.
-/
import Derived.Test.YtakdboddbgihpaaDoorJ45
import Derived.Test.YtakdboddbgihpaaDoorJ43
import Derived.Test.YtakdboddbgihpaaDoorDmCopied
namespace Go.Proofs.YtakdboddbgihpaaDoor
open Go.RowKit

/-- A script in memory. -/
def OpsAt (w : World) (v : Value) (L : List Cl) : Prop :=
  ∃ a cap, v = .slice a L.length cap ∧ L.length ≤ maxLen ∧ ∀ j (h : j < L.length), ∃ b off, a = some ⟨b, off, none⟩ ∧ b < w.heap.size ∧ w.cell? ⟨b, off + j * 5, none⟩ = some (.int .i64 L[j].kind) ∧ w.cell? ⟨b, off + j * 5 + 1, none⟩ = some (.int .i64 L[j].ck) ∧ w.cell? ⟨b, off + j * 5 + 2, none⟩ = some (.int .i64 L[j].cx) ∧ w.cell? ⟨b, off + j * 5 + 3, none⟩ = some (.int .i64 L[j].cv) ∧ w.cell? ⟨b, off + j * 5 + 4, none⟩ = some (.int .i64 L[j].n)
/-- The store goes on beside its copy. -/
structure Two (B B2 T p p2 : Nat) (nv nv2 mv2 mv : Value) (s a : St) (w : World) : Prop where
  s : StAt B w p nv mv s
  a : StAt B2 w p2 nv2 mv2 a
  own : ∀ k, Own p nv mv k → k < B2 ∨ T ≤ k
  was : ∀ k, Own p2 nv2 mv2 k → B2 ≤ k ∧ k < T
  t : T ≤ w.heap.size
theorem Two.step {B B2 T p p2 : Nat} {nv nv2 mv2 mv mv' : Value} {s s' a : St} {w w' : World} (h : Two B B2 T p p2 nv nv2 mv2 mv s a w) (h1 : StAt B w' p nv mv' s') (h2 : Stp B p nv mv w w') (h3 : ∀ k, mv'.ownBlock = some k → mv.ownBlock = some k ∨ w.heap.size ≤ k) : Two B B2 T p p2 nv nv2 mv2 mv' s' a w' := by
  refine ⟨h1, h.a.keep (fun k hk ho => h2.off.block k hk (fun e => ?_)), fun k hk => ?_, h.was, Nat.le_trans h.t h2.off.size⟩
  · have := h.was k ho
    rcases h.own k e with e | e <;> omega
  · rcases hk with hk | hk | hk
    · exact h.own k (.inl hk)
    · exact h.own k (.inr (.inl hk))
    · rcases h3 k hk with e | e
      · exact h.own k (.inr (.inr e))
      · exact .inr (Nat.le_trans h.t e)

set_option maxRecDepth 10000 in
set_option maxHeartbeats 4000000 in
theorem domBack_walk (m : Md.Mo) (vv vc vg lv lv2 : Value) (L L2 : List Cl) (w : World) (h : MoAt w m vv vc vg) (hL : OpsAt w lv L) (hL2 : OpsAt w lv2 L2) (hf : ∀ c ∈ m.cons, c.terms.length * 16 ≤ 140737488355328 ∧ c.xs.length * 8 ≤ 140737488355328 ∧ c.table.length * 8 ≤ 140737488355328) (hT : Tz w) (hs : 0 < w.heap.size) : Calls Tryd.prog 4 #[moVal m vv vc vg, lv, lv2] w fun e w' => e = .returned (.bool true) ∧ Below w.heap.size w w' := by
  obtain ⟨la, lc, rfl, hlm, hlo⟩ := hL
  obtain ⟨ka, kc, rfl, hkm, hko⟩ := hL2
  have HL1 : Hid (∀ w', Below w.heap.size w w' → ∀ j (h : j < L.length), ∃ b off, la = some ⟨b, off, none⟩ ∧ w'.cell? ⟨b, off + j * 5, none⟩ = some (.int .i64 L[j].kind) ∧ w'.cell? ⟨b, off + j * 5 + 1, none⟩ = some (.int .i64 L[j].ck) ∧ w'.cell? ⟨b, off + j * 5 + 2, none⟩ = some (.int .i64 L[j].cx) ∧ w'.cell? ⟨b, off + j * 5 + 3, none⟩ = some (.int .i64 L[j].cv) ∧ w'.cell? ⟨b, off + j * 5 + 4, none⟩ = some (.int .i64 L[j].n)) := fun w' hb j hj => by
    obtain ⟨b, off, e1, e2, f0, f1, f2, f3, f4⟩ := hlo j hj
    exact ⟨b, off, e1, (hb.cell (p := ⟨b, _, none⟩) e2).trans f0, (hb.cell (p := ⟨b, _, none⟩) e2).trans f1, (hb.cell (p := ⟨b, _, none⟩) e2).trans f2, (hb.cell (p := ⟨b, _, none⟩) e2).trans f3, (hb.cell (p := ⟨b, _, none⟩) e2).trans f4⟩
  have HL2 : Hid (∀ w', Below w.heap.size w w' → ∀ j (h : j < L2.length), ∃ b off, ka = some ⟨b, off, none⟩ ∧ w'.cell? ⟨b, off + j * 5, none⟩ = some (.int .i64 L2[j].kind) ∧ w'.cell? ⟨b, off + j * 5 + 1, none⟩ = some (.int .i64 L2[j].ck) ∧ w'.cell? ⟨b, off + j * 5 + 2, none⟩ = some (.int .i64 L2[j].cx) ∧ w'.cell? ⟨b, off + j * 5 + 3, none⟩ = some (.int .i64 L2[j].cv) ∧ w'.cell? ⟨b, off + j * 5 + 4, none⟩ = some (.int .i64 L2[j].n)) := fun w' hb j hj => by
    obtain ⟨b, off, e1, e2, f0, f1, f2, f3, f4⟩ := hko j hj
    exact ⟨b, off, e1, (hb.cell (p := ⟨b, _, none⟩) e2).trans f0, (hb.cell (p := ⟨b, _, none⟩) e2).trans f1, (hb.cell (p := ⟨b, _, none⟩) e2).trans f2, (hb.cell (p := ⟨b, _, none⟩) e2).trans f3, (hb.cell (p := ⟨b, _, none⟩) e2).trans f4⟩
  obtain ⟨W, hW⟩ : ∃ W, w.alloc (.cells #[vv, vc, .bool m.has, vg] 26) = W := ⟨_, rfl⟩
  have hb0 : Below w.heap.size w W := by rw [← hW]; exact (Below.refl _ _).alloc (Nat.le_refl _) _
  have g0 : W.heap[w.heap.size]? = some (.cells #[vv, vc, .bool m.has, vg] 26 (0, 0)) := by rw [← hW]; exact heap_alloc_new w _
  have hlt := (Array.getElem?_eq_some_iff.1 g0).1
  have hsW : 0 < W.heap.size := Nat.lt_of_lt_of_le hs hb0.size
  have HB : Hid (Below w.heap.size w W) := hb0
  have HM : Hid (∀ w', Below W.heap.size W w' → w'.cell? ⟨w.heap.size, 0, none⟩ = some vv ∧ w'.cell? ⟨w.heap.size, 1, none⟩ = some vc ∧ w'.cell? ⟨w.heap.size, 2, none⟩ = some (.bool m.has) ∧ w'.cell? ⟨w.heap.size, 3, none⟩ = some vg ∧ MoAt w' m vv vc vg) := fun w' hb => by
    have g1 := (hb.block _ hlt).trans g0
    exact ⟨cell_of g1 0, cell_of g1 1, cell_of g1 2, cell_of g1 3, (h.below hb0).below hb⟩
  have HTz : Hid (∀ w', Below W.heap.size W w' → Tz w') := fun w' hb => (hT.below hb0 hs).below hb hsW
  have HK : Hid (Calls Tryd.prog 5 #[] W fun e w' => e = .returned (.bool true) ∧ Below W.heap.size W w') := known_any W (hT.below hb0 hs) hsW
  have HF : Hid (∀ c ∈ m.cons, c.terms.length * 16 ≤ 140737488355328 ∧ c.xs.length * 8 ≤ 140737488355328 ∧ c.table.length * 8 ≤ 140737488355328) := hf
  clear hb0 g0 hlt h hlo hko hT hf
  unfold moVal
  go_enter Tryd.func4, Tryd.ntmps4
  go_wp2_with fail
  refine calls_at HK.out (by with_reducible rfl) (by with_reducible rfl) ?_
  rintro e w1 ⟨rfl, hb1⟩
  have HB1 : Hid (Below W.heap.size W w1) := hb1
  obtain ⟨c0, c1, c2, c3, hMo⟩ := HM.out w1 hb1
  have HS1 : Hid (Calls Tryd.prog 6 #[.agg #[vv, vc, .bool m.has, vg], .slice la L.length lc] w1 (SmOut m L.length w1)) := small_any m vv vc vg la L.length lc w1 hMo
  clear hb1 hMo hW
  go_wp2_with fail
  refine calls_at HS1.out (by with_reducible rfl) (by with_reducible rfl) ?_
  rintro e w2 ⟨⟨sb1, rfl, hsb1⟩, hb2⟩
  have HB2 : Hid (Below W.heap.size W w2) := bl_next HB1.out hb2
  clear hb2 c0 c1 c2 c3
  cases sb1 with
  | false =>
    clear hsb1
    go_wp2_with fail
    go_ret
    exact ⟨rfl, HB.out.trans (HB2.out.mono HB.out.size)⟩
  | true =>
  obtain ⟨c0, c1, c2, c3, hMo⟩ := HM.out w2 HB2.out
  have HS2 : Hid (Calls Tryd.prog 6 #[.agg #[vv, vc, .bool m.has, vg], .slice ka L2.length kc] w2 (SmOut m L2.length w2)) := small_any m vv vc vg ka L2.length kc w2 hMo
  have HSm : Hid (m.vars.length ≤ 300 ∧ m.cons.length ≤ 300 ∧ m.goal.length ≤ 300 ∧ L.length ≤ 300) := hsb1 rfl
  clear hMo hsb1
  go_wp2_with fail
  refine calls_at HS2.out (by with_reducible rfl) (by with_reducible rfl) ?_
  rintro e w3 ⟨⟨sb2, rfl, hsb2⟩, hb3⟩
  have HB3 : Hid (Below W.heap.size W w3) := bl_next HB2.out hb3
  clear hb3 c0 c1 c2 c3
  cases sb2 with
  | false =>
    clear hsb2
    go_wp2_with fail
    go_ret
    exact ⟨rfl, HB.out.trans (HB3.out.mono HB.out.size)⟩
  | true =>
  obtain ⟨c0, c1, c2, c3, hMo⟩ := HM.out w3 HB3.out
  have hl2 := (hsb2 rfl).2.2.2
  have hl1 := HSm.out.2.2.2
  have HCd : Hid (Calls Tryd.prog 8 #[.agg #[vv, vc, .bool m.has, vg]] w3 (CdOut m w3)) := copied_any m vv vc vg w3 hMo ⟨HSm.out.1, HSm.out.2.1, HSm.out.2.2.1, HF.out⟩
  clear hMo hsb2
  go_wp2_with fail
  refine calls_at HCd.out (by with_reducible rfl) (by with_reducible rfl) ?_
  rintro e w4 ⟨vv2, vc2, vg2, rfl, hM4, hb4⟩
  have HB4 : Hid (Below W.heap.size W w4) := bl_next HB3.out hb4
  have HNw : Hid (Calls Tryd.prog 7 #[.agg #[vv2, vc2, .bool m.has, vg2]] w4 (NewOut m w4)) := new_any m vv2 vc2 vg2 w4 hM4 (Nat.lt_of_lt_of_le hsW HB4.out.size)
  clear hM4 hb4 c0 c1 c2 c3
  unfold moVal
  go_wp2_with fail
  refine calls_at HNw.out (by with_reducible rfl) (by with_reducible rfl) ?_
  rintro e w5 ⟨p, nv, mv, rfl, hA5, hb5⟩
  have HA5 : Hid (StAt w4.heap.size w5 p nv mv (newS m)) := hA5
  have HB5 : Hid (Below W.heap.size W w5) := bl_next HB4.out hb5
  have HW4 : Hid (W.heap.size ≤ w4.heap.size) := HB4.out.size
  have HNm : Hid ((newS m).marks = 0) := by show _ = _; unfold newS; split <;> rfl
  clear hA5 hb5
  go_wp2_with fail
  go_loopw [8] (fun iv wr => ∃ (k : Nat) (mv : Value) (s : St), iv = .int .i64 (k : Int) ∧ k ≤ L.length ∧ Hid (StAt w4.heap.size wr p nv mv s) ∧ Hid (s.marks ≤ k) ∧ Hid (Below W.heap.size W wr)) (fun iv _ => L.length - (intOf iv).toNat)
  case atStart => exact ⟨0, mv, newS m, rfl, Nat.zero_le _, HA5, by rw [HNm.out]; exact Nat.le_refl 0, HB5⟩
  case round =>
    obtain ⟨k, mv, s, rfl, hk, HAr, HMr, HBr⟩ := hrel
    by_cases hkn : k < L.length
    · have hkI : (k : Int) < (L.length : Int) := by omega
      obtain ⟨b, off, rfl, f0, f1, f2, f3, f4⟩ := HL1.out wr (HB.out.trans (HBr.out.mono HB.out.size)) k hkn
      have HD := does_any w4.heap.size p nv mv s L[k] 0 wr HAr.out (by have := HMr.out; omega)
      have HDm := does_marks s L[k] 0
      obtain ⟨o, ho⟩ : ∃ o, L[k] = o := ⟨_, rfl⟩
      rw [ho] at f0 f1 f2 f3 f4 HD HDm
      unfold clVal at HD
      have HD' : Hid (Calls Tryd.prog 13 #[.pointer (some ⟨p, 0, none⟩), .agg #[.int .i64 o.kind, .int .i64 o.ck, .int .i64 o.cx, .int .i64 o.cv, .int .i64 o.n], .int .i64 0] wr (DoOut w4.heap.size p nv mv (s.does o 0) wr)) := HD
      clear HD ho
      go_wp2_with fail
      refine calls_at HD'.out (by with_reducible rfl) (by with_reducible rfl) ?_
      rintro e w6 ⟨mv', rfl, hA6, hS6, _⟩
      have HA6 : Hid (StAt w4.heap.size w6 p nv mv' (s.does o 0)) := hA6
      have HB6 : Hid (Below W.heap.size W w6) := HBr.out.trans (hS6.below.mono HW4.out)
      have HM6 : Hid ((s.does o 0).marks ≤ k + 1) := by have := HMr.out; show _ ≤ _; omega
      clear hA6 hS6 HDm
      go_wp2_with fail
      go_roundw
      case rel => exact ⟨k + 1, mv', s.does o 0, by go_num, hkn, HA6, HM6, HB6⟩
      case measure => simp [intOf]; omega
    · have hke : k = L.length := by omega
      subst hke
      have hkI : ¬ (L.length : Int) < (L.length : Int) := by omega
      have HCp : Hid (Calls Tryd.prog 14 #[.pointer (some ⟨p, 0, none⟩)] wr (CopyOut s wr)) := copy_any w4.heap.size p nv mv s wr HAr.out
      go_wp2_with fail
      refine calls_at HCp.out (by with_reducible rfl) (by with_reducible rfl) ?_
      rintro e w6 ⟨p2, nv2, mv2, rfl, hA6, hb6⟩
      have HTw : Hid (Two w4.heap.size wr.heap.size w6.heap.size p p2 nv nv2 mv2 mv s s w6) := by
        refine ⟨HAr.out.below hb6, hA6, fun j hj => .inl ?_, fun j hj => ?_, Nat.le_refl _⟩
        · rcases hj with hj | hj | hj
          · rw [hj]; exact HAr.out.lt
          · exact (row_lt HAr.out.n hj).2
          · exact (row_lt HAr.out.m hj).2
        · rcases hj with hj | hj | hj
          · rw [hj]; exact ⟨hA6.p1, hA6.lt⟩
          · exact row_lt hA6.n hj
          · exact row_lt hA6.m hj
      have HB6 : Hid (Below W.heap.size W w6) := bl_next HBr.out hb6
      have HMk : Hid (Calls Tryd.prog 15 #[.pointer (some ⟨p, 0, none⟩)] w6 (MarkOut w4.heap.size p nv mv s w6)) := mark_any w4.heap.size p nv mv s w6 HTw.out.s (by have := HMr.out; omega)
      have HLe : Hid (s.noted.length = s.marks * s.now.length) := HAr.out.len
      have hmI : (s.marks : Int) ≤ 300 := by have := HMr.out; omega
      clear hA6 hb6
      go_wp2_with fail
      refine calls_at HMk.out (by with_reducible rfl) (by with_reducible rfl) ?_
      rintro e w7 ⟨mv7, rfl, hA7, hS7, hn7⟩
      have HT7 : Hid (Two w4.heap.size wr.heap.size w6.heap.size p p2 nv nv2 mv2 mv7 s.mark s w7) := HTw.out.step hA7 hS7 hn7
      have HB7 : Hid (Below W.heap.size W w7) := HB6.out.trans (hS7.below.mono HW4.out)
      obtain ⟨T, hT⟩ : ∃ T, w6.heap.size = T := ⟨_, rfl⟩
      obtain ⟨B2, hB2⟩ : ∃ B2, wr.heap.size = B2 := ⟨_, rfl⟩
      rw [hT, hB2] at HT7
      have HSi : Hid (Since s s.mark) := since_mark HLe.out
      have HM7 : Hid (s.mark.marks ≤ 301 + 0) := by have := HMr.out; show s.marks + 1 ≤ _; omega
      clear hA7 hS7 hn7 hT hB2
      go_wp2_with fail
      go_loopw [11] (fun iv wr => ∃ (k : Nat) (mv : Value) (t : St), iv = .int .i64 (k : Int) ∧ k ≤ L2.length ∧ Hid (Two w4.heap.size B2 T p p2 nv nv2 mv2 mv t s wr) ∧ Hid (Since s t) ∧ Hid (t.marks ≤ 301 + k) ∧ Hid (Below W.heap.size W wr)) (fun iv _ => L2.length - (intOf iv).toNat)
      case atStart => exact ⟨0, mv7, s.mark, rfl, Nat.zero_le _, HT7, HSi, HM7, HB7⟩
      case round =>
        obtain ⟨k, mvq, t, rfl, hk2, HTr, HSr, HMq, HBq⟩ := hrel
        by_cases hkn2 : k < L2.length
        · have hkI2 : (k : Int) < (L2.length : Int) := by omega
          obtain ⟨b, off, rfl, f0, f1, f2, f3, f4⟩ := HL2.out wr (HB.out.trans (HBq.out.mono HB.out.size)) k hkn2
          have HD := does_any w4.heap.size p nv mvq t L2[k] ((s.marks : Int) + 1) wr HTr.out.s (by have := HMq.out; omega)
          have HDm := does_marks t L2[k] ((s.marks : Int) + 1)
          have HDs := since_does HLe.out HSr.out L2[k]
          obtain ⟨o, ho⟩ : ∃ o, L2[k] = o := ⟨_, rfl⟩
          rw [ho] at f0 f1 f2 f3 f4 HD HDm HDs
          unfold clVal at HD
          have HD' : Hid (Calls Tryd.prog 13 #[.pointer (some ⟨p, 0, none⟩), .agg #[.int .i64 o.kind, .int .i64 o.ck, .int .i64 o.cx, .int .i64 o.cv, .int .i64 o.n], .int .i64 ((s.marks : Int) + 1)] wr (DoOut w4.heap.size p nv mvq (t.does o ((s.marks : Int) + 1)) wr)) := HD
          have HDs' : Hid (Since s (t.does o ((s.marks : Int) + 1))) := HDs
          clear HD ho HDs
          go_wp2_with fail
          refine calls_at HD'.out (by with_reducible rfl) (by with_reducible rfl) ?_
          rintro e w8 ⟨mv8, rfl, hA8, hS8, hn8⟩
          have HT8 : Hid (Two w4.heap.size B2 T p p2 nv nv2 mv2 mv8 (t.does o ((s.marks : Int) + 1)) s w8) := HTr.out.step hA8 hS8 hn8
          have HB8 : Hid (Below W.heap.size W w8) := HBq.out.trans (hS8.below.mono HW4.out)
          have HM8 : Hid ((t.does o ((s.marks : Int) + 1)).marks ≤ 301 + (k + 1)) := by have := HMq.out; show _ ≤ _; omega
          clear hA8 hS8 hn8 HDm
          go_wp2_with fail
          go_roundw
          case rel => exact ⟨k + 1, mv8, t.does o ((s.marks : Int) + 1), by go_num, hkn2, HT8, HDs', HM8, HB8⟩
          case measure => simp [intOf]; omega
        · have hke2 : k = L2.length := by omega
          subst hke2
          have hkI2 : ¬ (L2.length : Int) < (L2.length : Int) := by omega
          obtain ⟨hsb, hsn, hsf⟩ := since_back HLe.out HSr.out
          have HBk : Hid (Calls Tryd.prog 16 #[.pointer (some ⟨p, 0, none⟩), .int .i64 (s.marks : Int)] wr fun e w' => ∃ mv', e = .returned (.bool true) ∧ StAt w4.heap.size w' p nv mv' (t.back s.marks) ∧ Stp w4.heap.size p nv mvq wr w' ∧ ∀ g, mv'.ownBlock = some g → mvq.ownBlock = some g) := by
            have := back_any w4.heap.size p nv mvq t (s.marks : Int) wr HTr.out.s
            unfold BackOut at this
            rw [hsb] at this
            exact this
          have HSN : Hid (s.now = (t.back s.marks).now) := hsn.symm
          have HSF : Hid ((t.back s.marks).backB (s.marks : Int) = false) := hsf
          clear hsb hsn hsf
          go_wp2_with fail
          refine calls_at HBk.out (by with_reducible rfl) (by with_reducible rfl) ?_
          rintro e w8 ⟨mv8, rfl, hA8, hS8, hn8⟩
          have HT8 : Hid (Two w4.heap.size B2 T p p2 nv nv2 mv2 mv8 (t.back s.marks) s w8) := HTr.out.step hA8 hS8 (fun g e => .inl (hn8 g e))
          have HB8 : Hid (Below W.heap.size W w8) := HBq.out.trans (hS8.below.mono HW4.out)
          clear hA8 hS8 hn8
          go_wp2_with fail
          refine calls_at (same_any _ p _ p2 _ _ _ _ _ _ w8 HT8.out.s HT8.out.a HSN.out (HTz.out _ HB8.out)) (by with_reducible rfl) (by with_reducible rfl) ?_
          rintro e w9 ⟨rfl, hb9⟩
          have HA9 : Hid (StAt w4.heap.size w9 p nv mv8 (t.back s.marks)) := HT8.out.s.below hb9
          have HB9 : Hid (Below W.heap.size W w9) := bl_next HB8.out hb9
          have HBk2 : Hid (Calls Tryd.prog 16 #[.pointer (some ⟨p, 0, none⟩), .int .i64 (s.marks : Int)] w9 fun e w' => e = .returned (.bool false) ∧ Below w4.heap.size w9 w') := (back_any w4.heap.size p nv mv8 (t.back s.marks) (s.marks : Int) w9 HA9.out).mono fun e w' ⟨_, h1, _, h3, _⟩ => ⟨by rw [h1, HSF.out], h3.below⟩
          clear hb9
          go_wp2_with fail
          refine calls_at HBk2.out (by with_reducible rfl) (by with_reducible rfl) ?_
          rintro e wz ⟨rfl, hbz⟩
          have HBz : Hid (Below W.heap.size W wz) := HB9.out.trans (hbz.mono HW4.out)
          clear hbz
          go_wp2_with fail
          go_ret
          exact ⟨rfl, HB.out.trans (HBz.out.mono HB.out.size)⟩
end Go.Proofs.YtakdboddbgihpaaDoor
