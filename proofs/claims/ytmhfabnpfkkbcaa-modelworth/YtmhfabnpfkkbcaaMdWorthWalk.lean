/-
  ModelWorth, as it runs.
-/
import Derived.Test.YtmhfabnpfkkbcaaMdKnown
import Derived.Test.YtmhfabnpfkkbcaaMdWStep
import Derived.Test.YtmhfabnpfkkbcaaMdRowI
import Derived.Deep.RegionHeld3
import Derived.Test.YtmhfabnpfkkbcaaMdRegT
namespace Go.Proofs.Ytmhfabnpfkkbcaa
open Go.RowKit

theorem goal_places {m : Md.Mo} (h : Md.Right m) (hg : m.has = true) : ∀ t ∈ m.goal, 0 ≤ t.2 ∧ t.2 < (m.vars.length : Int) := by
  have h1 := h.goal
  intro t ht
  unfold Md.goalFault at h1
  rw [if_neg (by rw [hg]; simp)] at h1
  split at h1
  · cases h1
  split at h1
  · cases h1
  rename_i h2
  simp only [Bool.not_eq_true', Bool.not_eq_false, List.all_eq_true] at h2
  have h3 := h2 t ht
  simpa [Md.plB] using h3
theorem Bx.next {W w1 w2 : World} {N : Nat} {a b c d : Value} (h : w1.cell? ⟨N, 0, none⟩ = some a ∧ w1.cell? ⟨N, 1, none⟩ = some b ∧ w1.cell? ⟨N, 2, none⟩ = some c ∧ w1.cell? ⟨N, 3, none⟩ = some d ∧ Below W.heap.size W w1) (hb : Below w1.heap.size w1 w2) : w2.cell? ⟨N, 0, none⟩ = some a ∧ w2.cell? ⟨N, 1, none⟩ = some b ∧ w2.cell? ⟨N, 2, none⟩ = some c ∧ w2.cell? ⟨N, 3, none⟩ = some d ∧ Below W.heap.size W w2 :=
  ⟨one_next hb h.1, one_next hb h.2.1, one_next hb h.2.2.1, one_next hb h.2.2.2.1, h.2.2.2.2.trans (hb.mono h.2.2.2.2.size)⟩
theorem Bx.rest {W w1 : World} {N : Nat} {a b c d : Value} (h : w1.cell? ⟨N, 0, none⟩ = some a ∧ w1.cell? ⟨N, 1, none⟩ = some b ∧ w1.cell? ⟨N, 2, none⟩ = some c ∧ w1.cell? ⟨N, 3, none⟩ = some d ∧ Below W.heap.size W w1) : Below W.heap.size W w1 := h.2.2.2.2

theorem four_set {w' : World} {a1 a2 a3 a4 p : Addr} {v1 v2 v3 v4 v : Value} (h : w'.cell? a1 = some v1 ∧ w'.cell? a2 = some v2 ∧ w'.cell? a3 = some v3 ∧ w'.cell? a4 = some v4) (n1 : p.block ≠ a1.block) (n2 : p.block ≠ a2.block) (n3 : p.block ≠ a3.block) (n4 : p.block ≠ a4.block) : (w'.setCell p v).cell? a1 = some v1 ∧ (w'.setCell p v).cell? a2 = some v2 ∧ (w'.setCell p v).cell? a3 = some v3 ∧ (w'.setCell p v).cell? a4 = some v4 :=
  ⟨(World.cell?_setCell_far _ _ _ _ n1).trans h.1, (World.cell?_setCell_far _ _ _ _ n2).trans h.2.1, (World.cell?_setCell_far _ _ _ _ n3).trans h.2.2.1, (World.cell?_setCell_far _ _ _ _ n4).trans h.2.2.2⟩
theorem four_drew {w' : World} {a1 a2 a3 a4 : Addr} {v1 v2 v3 v4 : Value} (h : w'.cell? a1 = some v1 ∧ w'.cell? a2 = some v2 ∧ w'.cell? a3 = some v3 ∧ w'.cell? a4 = some v4) : w'.drew.cell? a1 = some v1 ∧ w'.drew.cell? a2 = some v2 ∧ w'.drew.cell? a3 = some v3 ∧ w'.drew.cell? a4 = some v4 :=
  ⟨one_next (Below.refl _ _).drew h.1, one_next (Below.refl _ _).drew h.2.1, one_next (Below.refl _ _).drew h.2.2.1, one_next (Below.refl _ _).drew h.2.2.2⟩

set_option maxRecDepth 10000 in
set_option maxHeartbeats 1000000 in
theorem modelWorth_walk (m : Md.Mo) (vv vc vg vx : Value) (l : List Int) (w : World) (h : MoAt w m vv vc vg) (hx : IntsAt w vx l) : Calls Try.prog 3 #[moVal m vv vc vg, vx] w fun e w' => e = .returned (.bool true) ∧ Below w.heap.size w w' := by
  obtain ⟨va, vp, rfl, hvm⟩ := h.v.form
  obtain ⟨ca, cp, rfl, hcm⟩ := h.c.form
  obtain ⟨ga, gp, rfl, hgm⟩ := h.g.form
  obtain ⟨xa, xc, rfl, hxm⟩ := hx.form
  obtain ⟨W, hW⟩ : ∃ W, w.alloc (.cells #[.slice va m.vars.length vp, .slice ca m.cons.length cp, .bool m.has, .slice ga m.goal.length gp] 26) = W := ⟨_, rfl⟩
  have hbW : Below w.heap.size w W := by rw [← hW]; exact (Below.refl _ _).alloc (Nat.le_refl _) _
  have hN : W.heap[w.heap.size]? = some (.cells #[.slice va m.vars.length vp, .slice ca m.cons.length cp, .bool m.has, .slice ga m.goal.length gp] 26) := by rw [← hW]; exact heap_alloc_new w _
  have HB : Hid (Below w.heap.size w W) := hbW
  have HM : Hid (∀ w', Below W.heap.size W w' → MoAt w' m (.slice va m.vars.length vp) (.slice ca m.cons.length cp) (.slice ga m.goal.length gp)) := fun w' hb => (h.below hbW).below hb
  have HX : Hid (∀ w', Below W.heap.size W w' → IntsAt w' (.slice xa l.length xc) l) := fun w' hb => (hx.below hbW).below hb
  have HN : Hid (∀ w', Below W.heap.size W w' → w'.heap[w.heap.size]? = some (.cells #[.slice va m.vars.length vp, .slice ca m.cons.length cp, .bool m.has, .slice ga m.goal.length gp] 26)) := fun w' hb => (hb.block _ (Array.getElem?_eq_some_iff.1 hN).1).trans hN
  have HGO : Hid (0 < m.goal.length → ∃ b off, ga = some ⟨b, off, none⟩ ∧ b < w.heap.size ∧ ∀ j (h : j < m.goal.length), w.cell? ⟨b, off + j * 2, none⟩ = some (.int .i64 m.goal[j].1) ∧ w.cell? ⟨b, off + j * 2 + 1, none⟩ = some (.int .i64 m.goal[j].2)) := by
    obtain ⟨a', c', he, _, hgo⟩ := h.g
    injection he with e1 _ e3
    subst e1
    exact hgo
  have HVO : Hid (0 < m.vars.length → ∃ b off, va = some ⟨b, off, none⟩ ∧ b < w.heap.size ∧ ∀ j (h : j < m.vars.length), w.cell? ⟨b, off + j * 3, none⟩ = some (.string m.vars[j].name) ∧ w.cell? ⟨b, off + j * 3 + 1, none⟩ = some (.int .i64 m.vars[j].lo) ∧ w.cell? ⟨b, off + j * 3 + 2, none⟩ = some (.int .i64 m.vars[j].hi)) := by
    obtain ⟨a', c', he, _, _, hvo⟩ := h.v
    injection he with e1 _ e3
    subst e1
    exact hvo
  have hvcap : m.vars.length ≤ vp := h.vcap _ _ _ rfl
  have HFew : Hid (Calls Try.prog 6 #[.agg #[.slice va m.vars.length vp, .slice ca m.cons.length cp, .bool m.has, .slice ga m.goal.length gp], .slice xa l.length xc] W (Few (costM m + l.length) W)) := few_any m _ _ _ xa l.length xc W hxm (HM.out W (Below.refl _ _))
  have HRt : Hid (∀ w', Below W.heap.size W w' → Calls Try.prog 8 #[.agg #[.slice va m.vars.length vp, .slice ca m.cons.length cp, .bool m.has, .slice ga m.goal.length gp]] w' fun e w'' => e = .returned (.bool (Md.rightB m)) ∧ Below w'.heap.size w' w'') := fun w' hb => rightLaw_any m _ _ _ w' (HM.out w' hb)
  obtain ⟨⟨p0, p1, p2, p3⟩, _⟩ := box4 hN
  unfold maxLen at hvm hcm hgm hxm
  unfold moVal
  clear h hx hbW hN
  go_enter Try.func3, Try.ntmps3
  go_wp2_with fail
  refine calls_at HFew.out (by with_reducible rfl) (by with_reducible rfl) ?_
  rintro e w1 ⟨⟨bf, rfl, _⟩, hb1⟩
  have hT1 : Hid (Below W.heap.size W w1) := hb1
  clear hb1 HFew
  cases bf
  · go_wp2_with fail
    go_ret
    exact ⟨rfl, HB.out.trans (hT1.out.mono HB.out.size)⟩
  go_wp2_with fail
  refine calls_at (known_any w1) (by with_reducible rfl) (by with_reducible rfl) ?_
  rintro e w2 ⟨rfl, hb2⟩
  have hT2 : Hid (Below W.heap.size W w2) := hT1.out.trans (hb2.mono hT1.out.size)
  clear hb2 p0 p1 p2 p3
  obtain ⟨⟨p0, p1, p2, p3⟩, _⟩ := box4 (HN.out w2 hT2.out)
  go_wp2_with fail
  refine calls_at (HRt.out w2 hT2.out) (by with_reducible rfl) (by with_reducible rfl) ?_
  rintro e w3 ⟨rfl, hb3⟩
  have hT3 : Hid (Below W.heap.size W w3) := hT2.out.trans (hb3.mono hT2.out.size)
  clear hb3 p0 p1 p2 p3
  obtain ⟨⟨p0, p1, p2, p3⟩, _⟩ := box4 (HN.out w3 hT3.out)
  cases hr : Md.rightB m
  · go_wp2_with fail
    go_ret
    exact ⟨rfl, HB.out.trans (hT3.out.mono HB.out.size)⟩
  cases hg : m.has
  · rw [hg] at p2
    go_wp2_with fail
    go_ret
    exact ⟨rfl, HB.out.trans (hT3.out.mono HB.out.size)⟩
  rw [hg] at p2 HN
  have HR : Hid (Md.Right m) := Md.rightB_of hr
  have HC : Hid ((Md.check m).2 = 0) := by show _ = _; simpa [Md.rightB] using hr
  have HI : Hid (∀ w' vx' l', Below W.heap.size W w' → IntsAt w' vx' l' → Calls Try.prog 10 #[.agg #[.slice va m.vars.length vp, .slice ca m.cons.length cp, .bool true, .slice ga m.goal.length gp], vx'] w' fun e w'' => ∃ a c, e = .returned (.slice a m.vars.length c) ∧ IntsAt w'' (.slice a m.vars.length c) (insI m.vars l') ∧ w''.ownsRow w'.heap.size 3 1 (.slice a m.vars.length c) m.vars.length ((insI m.vars l').map (.int .i64)) ∧ Below w'.heap.size w' w'') := fun w' vx' l' hb hx' => by
    have h1 := inside_any m _ _ _ vx' l' w' (HM.out w' hb) hx' HR.out.nv.2 (fun v hv => (HR.out.var v hv).2)
    unfold moVal at h1
    rw [hg] at h1
    refine h1.mono ?_
    rintro e w2 ⟨v, rfl, h2, h3⟩
    rw [insL_eq] at h2
    rcases h2.2 with ⟨rfl, hn⟩ | ⟨g, cap, cur, rfl, _⟩
    · exact absurd hn (by have := HR.out.nv.1; omega)
    · exact ⟨_, _, rfl, own_ints (by rw [insI_len]; exact h2) (by rw [insI_len]; unfold maxLen; omega), h2, h3⟩
  have HWo : Hid (∀ w' vx' l', Below W.heap.size W w' → IntsAt w' vx' l' → Calls Try.prog 9 #[.agg #[.slice va m.vars.length vp, .slice ca m.cons.length cp, .bool true, .slice ga m.goal.length gp], vx'] w' fun e w'' => e = .returned (.int .i64 (Md.worth m l')) ∧ Below w'.heap.size w' w'') := fun w' vx' l' hb hx' => by
    have h1 := worth_any m _ _ _ vx' l' w' (HM.out w' hb) hx'
    unfold moVal at h1
    rw [hg] at h1
    exact h1
  have HFl : Hid (∀ w', Below W.heap.size W w' → Calls Try.prog 11 #[.agg #[.slice va m.vars.length vp, .slice ca m.cons.length cp, .bool true, .slice ga m.goal.length gp]] w' fun e w'' => e = .returned (.int .i64 (Md.floor m)) ∧ Below w'.heap.size w' w'') := fun w' hb => by
    have h1 := floor_any m _ _ _ w' (HM.out w' hb)
    unfold moVal at h1
    rw [hg] at h1
    exact h1
  have HCe : Hid (∀ w', Below W.heap.size W w' → Calls Try.prog 12 #[.agg #[.slice va m.vars.length vp, .slice ca m.cons.length cp, .bool true, .slice ga m.goal.length gp]] w' fun e w'' => e = .returned (.int .i64 (Md.ceil m)) ∧ Below w'.heap.size w' w'') := fun w' hb => by
    have h1 := ceil_any m _ _ _ w' (HM.out w' hb)
    unfold moVal at h1
    rw [hg] at h1
    exact h1
  have HMid : Hid (Md.floor m ≤ Md.worth m (insI m.vars l) ∧ Md.worth m (insI m.vars l) ≤ Md.ceil m) := worth_mid HR.out HC.out (goal_places HR.out hg)
  obtain ⟨fl, hfl⟩ : ∃ z, Md.floor m = z := ⟨_, rfl⟩
  obtain ⟨ce, hce⟩ : ∃ z, Md.ceil m = z := ⟨_, rfl⟩
  obtain ⟨wo, hwo⟩ : ∃ z, Md.worth m (insI m.vars l) = z := ⟨_, rfl⟩
  have HWo1 : Hid (∀ w' vx', Below W.heap.size W w' → IntsAt w' vx' (insI m.vars l) → Calls Try.prog 9 #[.agg #[.slice va m.vars.length vp, .slice ca m.cons.length cp, .bool true, .slice ga m.goal.length gp], vx'] w' fun e w'' => e = .returned (.int .i64 wo) ∧ Below w'.heap.size w' w'') := by
    show ∀ w' vx', _
    rw [← hwo]
    exact fun w' vx' hb hx' => HWo.out w' vx' _ hb hx'
  rw [hfl] at HFl HMid
  rw [hce] at HCe HMid
  rw [hwo] at HMid
  have HE : Hid (Md.floor m = fl ∧ Md.ceil m = ce) := ⟨hfl, hce⟩
  clear hfl hce hwo
  have hlo : ¬ wo < fl := by have := HMid.out.1; omega
  have hhi : ¬ ce < wo := by have := HMid.out.2; omega
  have hloB : decide (wo < fl) = false := by simpa using hlo
  have hS0 : Hid (w3.cell? ⟨w.heap.size, 0, none⟩ = some (.slice va m.vars.length vp) ∧ w3.cell? ⟨w.heap.size, 1, none⟩ = some (.slice ca m.cons.length cp) ∧ w3.cell? ⟨w.heap.size, 2, none⟩ = some (.bool true) ∧ w3.cell? ⟨w.heap.size, 3, none⟩ = some (.slice ga m.goal.length gp) ∧ Below W.heap.size W w3) := ⟨p0, p1, p2, p3, hT3.out⟩
  clear hr HRt
  go_wp2_with fail
  go_region_held3 (fun w' => w'.cell? ⟨w.heap.size, 0, none⟩ = some (.slice va m.vars.length vp) ∧ w'.cell? ⟨w.heap.size, 1, none⟩ = some (.slice ca m.cons.length cp) ∧ w'.cell? ⟨w.heap.size, 2, none⟩ = some (.bool true) ∧ w'.cell? ⟨w.heap.size, 3, none⟩ = some (.slice ga m.goal.length gp) ∧ Below W.heap.size W w')
    (first | exact Bx.next hS0.out (Below.refl _ _).drew | exact Bx.next (by assumption) (by assumption) | assumption)
    (first | (go_at_call 10; refine calls_at (HI.out _ _ l (Bx.rest (by assumption)) (HX.out _ (Bx.rest (by assumption)))) (by with_reducible rfl) (by with_reducible rfl) ?_; rintro e w' ⟨a4, c4, rfl, hI4, _, hb⟩) | (go_at_call 9; refine calls_at (HWo1.out _ _ (Bx.rest (by assumption)) hI4) (by with_reducible rfl) (by with_reducible rfl) ?_; rintro e w' ⟨rfl, hb⟩))
  rename_i hHeld
  have hS1 : Hid (w'.cell? ⟨w.heap.size, 0, none⟩ = some (.slice va m.vars.length vp) ∧ w'.cell? ⟨w.heap.size, 1, none⟩ = some (.slice ca m.cons.length cp) ∧ w'.cell? ⟨w.heap.size, 2, none⟩ = some (.bool true) ∧ w'.cell? ⟨w.heap.size, 3, none⟩ = some (.slice ga m.goal.length gp) ∧ Below W.heap.size W w') := hHeld
  obtain ⟨r0, r1, r2, r3, _⟩ := hHeld
  clear hS0 HWo1
  rename World => w4
  go_wp2_with fail
  refine calls_at (HFl.out _ (Bx.rest hS1.out)) (by with_reducible rfl) (by with_reducible rfl) ?_
  rintro e w5 ⟨rfl, hb5⟩
  have hS2 : Hid (w5.cell? ⟨w.heap.size, 0, none⟩ = some (.slice va m.vars.length vp) ∧ w5.cell? ⟨w.heap.size, 1, none⟩ = some (.slice ca m.cons.length cp) ∧ w5.cell? ⟨w.heap.size, 2, none⟩ = some (.bool true) ∧ w5.cell? ⟨w.heap.size, 3, none⟩ = some (.slice ga m.goal.length gp) ∧ Below W.heap.size W w5) := Bx.next hS1.out hb5
  clear hb5 r0 r1 r2 r3 hS1
  obtain ⟨r0, r1, r2, r3, _⟩ := hS2.out
  go_wp2_with fail
  refine calls_at (HCe.out _ (Bx.rest hS2.out)) (by with_reducible rfl) (by with_reducible rfl) ?_
  rintro e w6 ⟨rfl, hb6⟩
  have hS3 : Hid (w6.cell? ⟨w.heap.size, 0, none⟩ = some (.slice va m.vars.length vp) ∧ w6.cell? ⟨w.heap.size, 1, none⟩ = some (.slice ca m.cons.length cp) ∧ w6.cell? ⟨w.heap.size, 2, none⟩ = some (.bool true) ∧ w6.cell? ⟨w.heap.size, 3, none⟩ = some (.slice ga m.goal.length gp) ∧ Below W.heap.size W w6) := Bx.next hS2.out hb6
  clear hb6 r0 r1 r2 r3 hS2
  obtain ⟨r0, r1, r2, r3, _⟩ := hS3.out
  go_wp2_with fail
  go_region_held3 (fun w' => w'.cell? ⟨w.heap.size, 0, none⟩ = some (.slice va m.vars.length vp) ∧ w'.cell? ⟨w.heap.size, 1, none⟩ = some (.slice ca m.cons.length cp) ∧ w'.cell? ⟨w.heap.size, 2, none⟩ = some (.bool true) ∧ w'.cell? ⟨w.heap.size, 3, none⟩ = some (.slice ga m.goal.length gp) ∧ Below W.heap.size W w')
    (first | exact Bx.next hS3.out (Below.refl _ _).drew | exact Bx.next (by assumption) (by assumption) | assumption)
    (first | (go_at_call 10; refine calls_at (HI.out _ _ [] (Bx.rest (by assumption)) (ints0 _)) (by with_reducible rfl) (by with_reducible rfl) ?_; first | (have hsecond := hO7; rintro e w' ⟨a8, c8, rfl, _, hO8, hb⟩; have hb8 := hb) | (rintro e w' ⟨a7, c7, rfl, _, hO7, hb⟩)))
  rename_i hHeld
  obtain ⟨g1, hg1e, hB1, hl1, hc1, hR1⟩ := RowI.of_own hO7 (insI_len _ _) HR.out.nv.1
  obtain ⟨g2, hg2e, hB2, hl2, hc2, hR2⟩ := RowI.of_own hO8 (insI_len _ _) HR.out.nv.1
  subst hg1e hg2e
  have hne : g1 ≠ g2 := by omega
  have hsz := (Bx.rest hS3.out).size
  have hW1 : W.heap.size ≤ g1 := Nat.le_trans hsz hB1
  have hW2 : W.heap.size ≤ g2 := by omega
  have HRows : Hid (RowI w' g1 (insI m.vars []) ∧ RowI w' g2 (insI m.vars []) ∧ WDone m 0 (insI m.vars []) (insI m.vars [])) := ⟨hR1.below hb8, hR2, WDone.start fun v hv => (HR.out.var v hv).2⟩
  have hT8 : Hid (Below W.heap.size W w') := Bx.rest hHeld
  clear hHeld hR1 hR2 hO7 hO8 hsecond hB1 hB2 hl1 hl2 hsz hS3 hb8 r0 r1 r2 r3
  rename World => w8
  go_wp2_with fail
  go_loopw [8] (fun iv wr => ∃ (i : Nat) (L T : List Int), iv = .int .i64 (i : Int) ∧ i ≤ m.goal.length ∧ Hid (RowI wr g1 L ∧ RowI wr g2 T ∧ WDone m i L T) ∧ Hid (Below W.heap.size W wr)) (fun iv _ => m.goal.length - (intOf iv).toNat)
  case atStart => exact ⟨0, _, _, rfl, Nat.zero_le _, HRows, hT8⟩
  case round =>
    obtain ⟨i, L, T, rfl, hi, hRows, hT⟩ := hrel
    clear HRows hT8
    obtain ⟨⟨p0, p1, p2, p3⟩, _⟩ := box4 (HN.out _ hT.out)
    by_cases hlt : i < m.goal.length
    · have hiI : (i : Int) < (m.goal.length : Int) := by omega
      obtain ⟨b, off, rfl, hb, hc⟩ := HGO.out (by omega)
      have hbw : Below w.heap.size w wr := HB.out.trans (hT.out.mono HB.out.size)
      obtain ⟨c0, c1⟩ := hc i hlt
      have d0 := (hbw.cell (p := ⟨b, off + i * 2, none⟩) hb).trans c0
      have d1 := (hbw.cell (p := ⟨b, off + i * 2 + 1, none⟩) hb).trans c1
      obtain ⟨x, hxe⟩ : ∃ x : Nat, m.goal[i].2 = (x : Int) := ⟨m.goal[i].2.toNat, by have := (goal_places HR.out hg _ (List.getElem_mem hlt)).1; omega⟩
      have hxl : x < m.vars.length := by have := (goal_places HR.out hg _ (List.getElem_mem hlt)).2; omega
      rw [hxe] at d1
      obtain ⟨tc, htc⟩ : ∃ z, m.goal[i].1 = z := ⟨_, rfl⟩
      rw [htc] at d0
      have HTX : Hid (m.goal[i].2 = (x : Int) ∧ m.goal[i].1 = tc) := ⟨hxe, htc⟩
      have HCO : Hid (∀ j (h : j < m.goal.length), w.cell? ⟨b, off + j * 2, none⟩ = some (.int .i64 m.goal[j].1) ∧ w.cell? ⟨b, off + j * 2 + 1, none⟩ = some (.int .i64 m.goal[j].2)) := hc
      clear hc c0 c1 hxe htc hbw
      obtain ⟨V, hV⟩ : ∃ V, wr.alloc (.cells #[.int .i64 tc, .int .i64 (x : Int)] 35) = V := ⟨_, rfl⟩
      have hbV : Below wr.heap.size wr V := by rw [← hV]; exact (Below.refl _ _).alloc (Nat.le_refl _) _
      have q0 : V.cell? ⟨wr.heap.size, 0, none⟩ = some (.int .i64 tc) := by rw [← hV]; simp
      have q1 : V.cell? ⟨wr.heap.size, 1, none⟩ = some (.int .i64 (x : Int)) := by rw [← hV]; simp
      have HTV : Hid (Below W.heap.size W V) := hT.out.trans (hbV.mono hT.out.size)
      have hRV : Hid (RowI V g1 L ∧ RowI V g2 T ∧ WDone m i L T) := ⟨hRows.out.1.below hbV, hRows.out.2.1.below hbV, hRows.out.2.2⟩
      clear hbV
      have hvl : wr.heap.size < V.heap.size := by rw [← hV]; simp
      have HVL : Hid (wr.heap.size < V.heap.size) := hvl
      clear hvl
      have HBV : Hid (Below w.heap.size w V) := HB.out.trans (HTV.out.mono HB.out.size)
      go_wp2_with fail
      clear hV
      go_loopw [10] (fun jv wq => ∃ k : Nat, jv = .int .i64 (k : Int) ∧ k ≤ i ∧ Hid (∀ a (h2 : a < m.goal.length), a < k → m.goal[a].2 ≠ (x : Int)) ∧ Hid (Below V.heap.size V wq)) (fun jv _ => i - (intOf jv).toNat)
      case atStart => exact ⟨0, rfl, Nat.zero_le _, fun a _ h => absurd h (Nat.not_lt_zero _), Below.refl _ _⟩
      case round =>
        obtain ⟨k, rfl, hk, hA, hQ⟩ := hrel
        rename World => wq
        clear p0 p1 p2 p3 d0 d1
        have hTQ : Below W.heap.size W wq := HTV.out.trans (hQ.out.mono HTV.out.size)
        have hBQ : Below w.heap.size w wq := HBV.out.trans (hQ.out.mono HBV.out.size)
        obtain ⟨⟨p0, p1, p2, p3⟩, _⟩ := box4 (HN.out _ hTQ)
        have s0 := (hQ.out.cell (p := ⟨wr.heap.size, 0, none⟩) HVL.out).trans q0
        have s1 := (hQ.out.cell (p := ⟨wr.heap.size, 1, none⟩) HVL.out).trans q1
        clear q0 q1
        have HTQ : Hid (Below W.heap.size W wq) := hTQ
        have HBQ : Hid (Below w.heap.size w wq) := hBQ
        clear hTQ hBQ
        by_cases hlk : k < i
        · have hkI : (k : Int) < (i : Int) := by omega
          have hkg : k < m.goal.length := by omega
          have hkgI : (k : Int) < (m.goal.length : Int) := by omega
          have d1 := (HBQ.out.cell (p := ⟨b, off + k * 2 + 1, none⟩) hb).trans (HCO.out k hkg).2
          by_cases hy : m.goal[k].2 = (x : Int)
          · rw [hy] at d1
            go_wp2_with fail
            go_quiet (fail)
            go_wp2
            go_ret
            exact ⟨rfl, below_drewN HBQ.out _⟩
          · have HA2 : Hid (∀ a (h2 : a < m.goal.length), a < k + 1 → m.goal[a].2 ≠ (x : Int)) := fun a h2 h3 => by
              rcases Nat.lt_or_ge a k with h4 | h4
              · exact hA.out a h2 h4
              · obtain rfl : a = k := by omega
                exact hy
            have hyB : (m.goal[k].2 == (x : Int)) = false := by simpa using hy
            generalize m.goal[k].2 = y at d1 hyB
            clear hy
            go_wp2_with fail
            go_quiet (fail)
            go_wp2
            go_roundw
            case rel => exact ⟨k + 1, by go_num, by omega, HA2, below_drewN hQ.out _⟩
            case measure => simp [intOf]; omega
        · have hkI : ¬ (k : Int) < (i : Int) := by omega
          obtain rfl : k = i := by omega
          obtain ⟨bv, ov, rfl, hbv, hcv⟩ := HVO.out (by omega)
          obtain ⟨_, v1, v2⟩ := hcv x hxl
          have e1 := (HBQ.out.cell (p := ⟨bv, ov + x * 3 + 1, none⟩) hbv).trans v1
          have e2 := (HBQ.out.cell (p := ⟨bv, ov + x * 3 + 2, none⟩) hbv).trans v2
          have hRQ : Hid (RowI wq g1 L ∧ RowI wq g2 T ∧ WDone m k L T) := ⟨hRV.out.1.below hQ.out, hRV.out.2.1.below hQ.out, hRV.out.2.2⟩
          have hLl : x < L.length := by rw [hRQ.out.2.2.l.1]; exact hxl
          have hTl : x < T.length := by rw [hRQ.out.2.2.t.1]; exact hxl
          obtain ⟨f1, f2⟩ := hRQ.out.1.cell x hLl
          obtain ⟨f3, f4⟩ := hRQ.out.2.1.cell x hTl
          have hxI : (x : Int) < (m.vars.length : Int) := by omega
          have hxv : x ≤ vp := by omega
          have hxvI : (x : Int) ≤ (vp : Int) := by omega
          have hne2 : g2 ≠ g1 := Ne.symm hne
          have HVX : Hid (Md.varAt m.vars (x : Int) = m.vars[x]) := by show _ = _; simp [Md.varAt, hxl]
          clear hcv v1 v2
          generalize m.vars[x] = v at *
          generalize L[x] = l0 at *
          generalize T[x] = t0 at *
          have hS0 : Hid (wq.cell? ⟨wr.heap.size, 1, none⟩ = some (.int .i64 (x : Int)) ∧ wq.cell? ⟨w.heap.size, 0, none⟩ = some (.slice (some ⟨bv, ov, none⟩) m.vars.length vp) ∧ wq.cell? ⟨bv, ov + x * 3 + 1, none⟩ = some (.int .i64 v.lo) ∧ wq.cell? ⟨bv, ov + x * 3 + 2, none⟩ = some (.int .i64 v.hi)) := ⟨s1, p0, e1, e2⟩
          have hNW : w.heap.size < W.heap.size := (Array.getElem?_eq_some_iff.1 (HN.out W (Below.refl _ _))).1
          have hg1r := hRows.out.1.lt
          have hg2r := hRows.out.2.1.lt
          have n11 : g1 ≠ wr.heap.size := by omega
          have n12 : g1 ≠ w.heap.size := by omega
          have n13 : g1 ≠ bv := by omega
          have n21 : g2 ≠ wr.heap.size := by omega
          have n22 : g2 ≠ w.heap.size := by omega
          have n23 : g2 ≠ bv := by omega
          clear hNW hg1r hg2r
          go_wp2_with fail
          go_region_held3 (fun w' => w'.cell? ⟨wr.heap.size, 1, none⟩ = some (.int .i64 (x : Int)) ∧ w'.cell? ⟨w.heap.size, 0, none⟩ = some (.slice (some ⟨bv, ov, none⟩) m.vars.length vp) ∧ w'.cell? ⟨bv, ov + x * 3 + 1, none⟩ = some (.int .i64 v.lo) ∧ w'.cell? ⟨bv, ov + x * 3 + 2, none⟩ = some (.int .i64 v.hi))
            (first | exact four_drew hS0.out | exact four_set (by assumption) n11 n12 n13 n13 | exact four_set (by assumption) n21 n22 n23 n23)
            (first | (fail))
          obtain ⟨w5, hw5⟩ : ∃ w5, ((wq.setCell ⟨g1, x, none⟩ (.int .i64 v.lo)).setCell ⟨g2, x, none⟩ (.int .i64 v.hi)).drew = w5 := ⟨_, rfl⟩
          have hRow1 : RowI w5 g1 (L.set x v.lo) := by rw [← hw5]; exact ((hRQ.out.1.set x v.lo).other hne x _).below (Below.refl _ _).drew
          have hRow2 : RowI w5 g2 (T.set x v.hi) := by rw [← hw5]; exact ((hRQ.out.2.1.other hne2 x _).set x v.hi).below (Below.refl _ _).drew
          have HR5 : Hid (RowI w5 g1 (L.set x v.lo) ∧ RowI w5 g2 (T.set x v.hi)) := ⟨hRow1, hRow2⟩
          have HT5 : Hid (Below W.heap.size W w5) := by rw [← hw5]; exact (((HTQ.out.setCell hW1 _).setCell hW2 _)).drew
          have t0' : w5.cell? ⟨wr.heap.size, 0, none⟩ = some (.int .i64 tc) := by rw [← hw5]; exact one_next (Below.refl _ _).drew ((World.cell?_setCell_far _ _ _ _ n21).trans ((World.cell?_setCell_far _ _ _ _ n11).trans s0))
          have t1' : w5.cell? ⟨wr.heap.size, 1, none⟩ = some (.int .i64 (x : Int)) := by rw [← hw5]; exact one_next (Below.refl _ _).drew ((World.cell?_setCell_far _ _ _ _ n21).trans ((World.cell?_setCell_far _ _ _ _ n11).trans s1))
          obtain ⟨y1, y2⟩ := hRow1.cell x (by rw [List.length_set]; exact hLl)
          obtain ⟨y3, y4⟩ := hRow2.cell x (by rw [List.length_set]; exact hTl)
          rw [List.getElem_set_self] at y1 y3
          rw [hw5]
          have HS := WDone.step hRQ.out.2.2 hlt HTX.out.1 hxl (fun t ht => by
            obtain ⟨j, hj, rfl⟩ := List.mem_iff_getElem.1 ht
            have hjl : j < k := by rw [List.length_take] at hj; omega
            rw [List.getElem_take]
            exact ⟨(goal_places HR.out hg _ (List.getElem_mem (by omega))).1, hA.out j (by omega) hjl⟩) (by
            have := Md.bounds_of (HR.out.var _ (List.getElem_mem hxl)).2
            have e : Md.varAt m.vars (x : Int) = m.vars[x] := by simp [Md.varAt, hxl]
            rw [e]; omega)
          rw [HTX.out.2, HVX.out] at HS
          have HSh : Hid (WDone m (k + 1) (L.set x (if tc < 0 then v.hi else v.lo)) (T.set x (if tc < 0 then v.lo else v.hi))) := HS
          clear HS hw5 hRow1 hRow2 s0 s1 p0 p1 p2 p3 e1 e2 f1 f2 f3 f4 hS0 hRQ HBQ hQ
          by_cases hneg : tc < 0
          · go_wp2_with fail
            have t1d : w5.drew.cell? ⟨wr.heap.size, 1, none⟩ = some (.int .i64 (x : Int)) := one_next (Below.refl _ _).drew t1'
            refine wp_region_T (fun w' => w'.cell? ⟨wr.heap.size, 1, none⟩ = some (.int .i64 (x : Int))) (fun w' => w'.cell? ⟨g2, x, none⟩ = some (.int .i64 v.hi) ∧ w'.cell? ⟨g1, x, none⟩ = some (.int .i64 v.lo)) [16, 17, 18, 19] (by kernel_rfl) ⟨t1d, one_next (Below.refl _ _).drew y3, one_next (Below.refl _ _).drew y1⟩ (fun hHeld => ?_)
            refine wpAnyT_takeB (i := 0) (oi := ⟨some 95, .move (.tmp 6), _, _, _, none⟩) (v := ?vR22x0) rfl (by kernel_rfl) (by kernel_rfl) (by kernel_rfl) (by kernel_rfl) (fun _ _ _ h => h) (Or.inl ⟨by rfl, ?hyR22x0⟩) (by assumption) ?restR22x0
            case hyR22x0 => (intro w hSw; (try dsimp only at hSw); go_simp; try (with_reducible rfl))
            try simp only [Act.put, List.setIfInBounds_toArray, List.set_cons_zero, List.set_cons_succ]
            refine wpAnyT_takeB (i := 1) (oi := ⟨some 96, .fieldAddr 35 (.tmp 9) 1, _, _, _, none⟩) (v := ?vR22x1) rfl (by kernel_rfl) (by kernel_rfl) (by kernel_rfl) (by kernel_rfl) (fun _ _ _ h => h) (Or.inl ⟨by rfl, ?hyR22x1⟩) (by assumption) ?restR22x1
            case hyR22x1 => (intro w hSw; (try dsimp only at hSw); go_simp; try (with_reducible rfl))
            try simp only [Act.put, List.setIfInBounds_toArray, List.set_cons_zero, List.set_cons_succ]
            refine wpAnyT_takeB (i := 2) (oi := ⟨some 97, .load 3 (.tmp 96), _, _, _, none⟩) (v := ?vR22x2) rfl (by kernel_rfl) (by kernel_rfl) (by kernel_rfl) (by kernel_rfl) (fun _ _ _ h => h) (Or.inl ⟨by rfl, ?hyR22x2⟩) (by assumption) ?restR22x2
            case hyR22x2 => (intro w hSw; (try dsimp only at hSw); go_simp; try (with_reducible rfl))
            try simp only [Act.put, List.setIfInBounds_toArray, List.set_cons_zero, List.set_cons_succ]
            refine wpAnyT_takeB (i := 3) (oi := ⟨some 98, .move (.tmp 7), _, _, _, none⟩) (v := ?vR22x3) rfl (by kernel_rfl) (by kernel_rfl) (by kernel_rfl) (by kernel_rfl) (fun _ _ _ h => h) (Or.inl ⟨by rfl, ?hyR22x3⟩) (by assumption) ?restR22x3
            case hyR22x3 => (intro w hSw; (try dsimp only at hSw); go_simp; try (with_reducible rfl))
            try simp only [Act.put, List.setIfInBounds_toArray, List.set_cons_zero, List.set_cons_succ]
            refine wpAnyT_takeB (i := 4) (oi := ⟨some 99, .fieldAddr 35 (.tmp 9) 1, _, _, _, none⟩) (v := ?vR22x4) rfl (by kernel_rfl) (by kernel_rfl) (by kernel_rfl) (by kernel_rfl) (fun _ _ _ h => h) (Or.inl ⟨by rfl, ?hyR22x4⟩) (by assumption) ?restR22x4
            case hyR22x4 => (intro w hSw; (try dsimp only at hSw); go_simp; try (with_reducible rfl))
            try simp only [Act.put, List.setIfInBounds_toArray, List.set_cons_zero, List.set_cons_succ]
            refine wpAnyT_takeB (i := 5) (oi := ⟨some 100, .load 3 (.tmp 99), _, _, _, none⟩) (v := ?vR22x5) rfl (by kernel_rfl) (by kernel_rfl) (by kernel_rfl) (by kernel_rfl) (fun _ _ _ h => h) (Or.inl ⟨by rfl, ?hyR22x5⟩) (by assumption) ?restR22x5
            case hyR22x5 => (intro w hSw; (try dsimp only at hSw); go_simp; try (with_reducible rfl))
            try simp only [Act.put, List.setIfInBounds_toArray, List.set_cons_zero, List.set_cons_succ]
            refine wpAnyT_takeB (i := 6) (oi := ⟨some 101, .move (.tmp 7), _, _, _, none⟩) (v := ?vR22x6) rfl (by kernel_rfl) (by kernel_rfl) (by kernel_rfl) (by kernel_rfl) (fun _ _ _ h => h) (Or.inl ⟨by rfl, ?hyR22x6⟩) (by assumption) ?restR22x6
            case hyR22x6 => (intro w hSw; (try dsimp only at hSw); go_simp; try (with_reducible rfl))
            try simp only [Act.put, List.setIfInBounds_toArray, List.set_cons_zero, List.set_cons_succ]
            refine wpAnyT_takeB (i := 7) (oi := ⟨some 102, .fieldAddr 35 (.tmp 9) 1, _, _, _, none⟩) (v := ?vR22x7) rfl (by kernel_rfl) (by kernel_rfl) (by kernel_rfl) (by kernel_rfl) (fun _ _ _ h => h) (Or.inl ⟨by rfl, ?hyR22x7⟩) (by assumption) ?restR22x7
            case hyR22x7 => (intro w hSw; (try dsimp only at hSw); go_simp; try (with_reducible rfl))
            try simp only [Act.put, List.setIfInBounds_toArray, List.set_cons_zero, List.set_cons_succ]
            refine wpAnyT_takeB (i := 8) (oi := ⟨some 103, .load 3 (.tmp 102), _, _, _, none⟩) (v := ?vR22x8) rfl (by kernel_rfl) (by kernel_rfl) (by kernel_rfl) (by kernel_rfl) (fun _ _ _ h => h) (Or.inl ⟨by rfl, ?hyR22x8⟩) (by assumption) ?restR22x8
            case hyR22x8 => (intro w hSw; (try dsimp only at hSw); go_simp; try (with_reducible rfl))
            try simp only [Act.put, List.setIfInBounds_toArray, List.set_cons_zero, List.set_cons_succ]
            refine wpAnyT_takeB (i := 9) (oi := ⟨some 104, .indexAddr 27 (.tmp 101) (.tmp 103), _, _, _, none⟩) (v := ?vR22x9) rfl (by kernel_rfl) (by kernel_rfl) (by kernel_rfl) (by kernel_rfl) (fun _ _ _ h => h) (Or.inl ⟨by rfl, ?hyR22x9⟩) (by assumption) ?restR22x9
            case hyR22x9 => (intro w hSw; (try dsimp only at hSw); go_simp; try (with_reducible rfl))
            try simp only [Act.put, List.setIfInBounds_toArray, List.set_cons_zero, List.set_cons_succ]
            refine wpAnyT_take (i := 10) (oi := ⟨some 105, .load 3 (.tmp 104), _, _, _, none⟩) (v := ?vR22x10) rfl (by kernel_rfl) (by kernel_rfl) (by kernel_rfl) (by kernel_rfl) (by kernel_rfl) (fun _ _ _ h => h) (Or.inl ⟨by rfl, ?hyR22x10⟩) (by assumption) ?restR22x10
            case hyR22x10 => (intro w hSw; (try dsimp only at hSw); go_simp; try (with_reducible rfl))
            try simp only [Act.put, List.setIfInBounds_toArray, List.set_cons_zero, List.set_cons_succ]
            refine wpAnyT_takeB (i := 11) (oi := ⟨some 106, .move (.tmp 6), _, _, _, none⟩) (v := ?vR22x11) rfl (by kernel_rfl) (by kernel_rfl) (by kernel_rfl) (by kernel_rfl) (fun _ _ _ h => h) (Or.inl ⟨by rfl, ?hyR22x11⟩) (by assumption) ?restR22x11
            case hyR22x11 => (intro w hSw; (try dsimp only at hSw); go_simp; try (with_reducible rfl))
            try simp only [Act.put, List.setIfInBounds_toArray, List.set_cons_zero, List.set_cons_succ]
            refine wpAnyT_takeB (i := 12) (oi := ⟨some 107, .fieldAddr 35 (.tmp 9) 1, _, _, _, none⟩) (v := ?vR22x12) rfl (by kernel_rfl) (by kernel_rfl) (by kernel_rfl) (by kernel_rfl) (fun _ _ _ h => h) (Or.inl ⟨by rfl, ?hyR22x12⟩) (by assumption) ?restR22x12
            case hyR22x12 => (intro w hSw; (try dsimp only at hSw); go_simp; try (with_reducible rfl))
            try simp only [Act.put, List.setIfInBounds_toArray, List.set_cons_zero, List.set_cons_succ]
            refine wpAnyT_takeB (i := 13) (oi := ⟨some 108, .load 3 (.tmp 107), _, _, _, none⟩) (v := ?vR22x13) rfl (by kernel_rfl) (by kernel_rfl) (by kernel_rfl) (by kernel_rfl) (fun _ _ _ h => h) (Or.inl ⟨by rfl, ?hyR22x13⟩) (by assumption) ?restR22x13
            case hyR22x13 => (intro w hSw; (try dsimp only at hSw); go_simp; try (with_reducible rfl))
            try simp only [Act.put, List.setIfInBounds_toArray, List.set_cons_zero, List.set_cons_succ]
            refine wpAnyT_takeB (i := 14) (oi := ⟨some 109, .indexAddr 27 (.tmp 106) (.tmp 108), _, _, _, none⟩) (v := ?vR22x14) rfl (by kernel_rfl) (by kernel_rfl) (by kernel_rfl) (by kernel_rfl) (fun _ _ _ h => h) (Or.inl ⟨by rfl, ?hyR22x14⟩) (by assumption) ?restR22x14
            case hyR22x14 => (intro w hSw; (try dsimp only at hSw); go_simp; try (with_reducible rfl))
            try simp only [Act.put, List.setIfInBounds_toArray, List.set_cons_zero, List.set_cons_succ]
            refine wpAnyT_take (i := 15) (oi := ⟨some 110, .load 3 (.tmp 109), _, _, _, none⟩) (v := ?vR22x15) rfl (by kernel_rfl) (by kernel_rfl) (by kernel_rfl) (by kernel_rfl) (by kernel_rfl) (fun _ _ _ h => h) (Or.inl ⟨by rfl, ?hyR22x15⟩) (by assumption) ?restR22x15
            case hyR22x15 => (intro w hSw; (try dsimp only at hSw); go_simp; try (with_reducible rfl))
            try simp only [Act.put, List.setIfInBounds_toArray, List.set_cons_zero, List.set_cons_succ]
            refine wpAnyT_late (i := 16) (o := ⟨some 111, .indexAddr 27 (.tmp 95) (.tmp 97), _, _, _, none⟩) (by kernel_rfl) rfl (by kernel_rfl) (fun K hK => ?_)
            go_simp
            refine hK.out _ _ ?shR22x16 ?restR22x16
            case shR22x16 => ((try dsimp only); first | exact t1d | exact (World.cell?_setCell_far _ _ _ _ n11).trans t1d | exact (World.cell?_setCell_far _ _ _ _ n21).trans ((World.cell?_setCell_far _ _ _ _ n11).trans t1d))
            clear hK K
            try simp only [Act.put, List.setIfInBounds_toArray, List.set_cons_zero, List.set_cons_succ]
            refine wpAnyT_late (i := 17) (o := ⟨none, .store 3 (.tmp 111) (.tmp 105), _, _, _, none⟩) (by kernel_rfl) rfl (by kernel_rfl) (fun K hK => ?_)
            go_simp
            refine hK.out _ _ ?shR22x17 ?restR22x17
            case shR22x17 => ((try dsimp only); first | exact t1d | exact (World.cell?_setCell_far _ _ _ _ n11).trans t1d | exact (World.cell?_setCell_far _ _ _ _ n21).trans ((World.cell?_setCell_far _ _ _ _ n11).trans t1d))
            clear hK K
            try simp only [Act.put, List.setIfInBounds_toArray, List.set_cons_zero, List.set_cons_succ]
            refine wpAnyT_late (i := 18) (o := ⟨some 112, .indexAddr 27 (.tmp 98) (.tmp 100), _, _, _, none⟩) (by kernel_rfl) rfl (by kernel_rfl) (fun K hK => ?_)
            go_simp
            refine hK.out _ _ ?shR22x18 ?restR22x18
            case shR22x18 => ((try dsimp only); first | exact t1d | exact (World.cell?_setCell_far _ _ _ _ n11).trans t1d | exact (World.cell?_setCell_far _ _ _ _ n21).trans ((World.cell?_setCell_far _ _ _ _ n11).trans t1d))
            clear hK K
            try simp only [Act.put, List.setIfInBounds_toArray, List.set_cons_zero, List.set_cons_succ]
            refine wpAnyT_late (i := 19) (o := ⟨none, .store 3 (.tmp 112) (.tmp 110), _, _, _, none⟩) (by kernel_rfl) rfl (by kernel_rfl) (fun K hK => ?_)
            go_simp
            refine hK.out _ _ ?shR22x19 ?restR22x19
            case shR22x19 => ((try dsimp only); first | exact t1d | exact (World.cell?_setCell_far _ _ _ _ n11).trans t1d | exact (World.cell?_setCell_far _ _ _ _ n21).trans ((World.cell?_setCell_far _ _ _ _ n11).trans t1d))
            clear hK K
            try simp only [Act.put, List.setIfInBounds_toArray, List.set_cons_zero, List.set_cons_succ]
            refine wpAnyT_done (by kernel_rfl) ?_ _
            have hR6 : RowI ((w5.setCell ⟨g1, x, none⟩ (.int .i64 v.hi)).setCell ⟨g2, x, none⟩ (.int .i64 v.lo)).drew g1 (L.set x v.hi) := by
              have h1 := ((HR5.out.1.set x v.hi).other hne x (.int .i64 v.lo)).below (Below.refl _ _).drew
              rw [List.set_set] at h1; exact h1
            have hR7 : RowI ((w5.setCell ⟨g1, x, none⟩ (.int .i64 v.hi)).setCell ⟨g2, x, none⟩ (.int .i64 v.lo)).drew g2 (T.set x v.lo) := by
              have h1 := ((HR5.out.2.other hne2 x (.int .i64 v.hi)).set x v.lo).below (Below.refl _ _).drew
              rw [List.set_set] at h1; exact h1
            have HR8 : Hid (RowI ((w5.setCell ⟨g1, x, none⟩ (.int .i64 v.hi)).setCell ⟨g2, x, none⟩ (.int .i64 v.lo)).drew g1 (L.set x v.hi) ∧ RowI ((w5.setCell ⟨g1, x, none⟩ (.int .i64 v.hi)).setCell ⟨g2, x, none⟩ (.int .i64 v.lo)).drew g2 (T.set x v.lo) ∧ Below W.heap.size W ((w5.setCell ⟨g1, x, none⟩ (.int .i64 v.hi)).setCell ⟨g2, x, none⟩ (.int .i64 v.lo)).drew) := ⟨hR6, hR7, ((HT5.out.setCell hW1 _).setCell hW2 _).drew⟩
            clear hR6 hR7
            generalize ((w5.setCell ⟨g1, x, none⟩ (.int .i64 v.hi)).setCell ⟨g2, x, none⟩ (.int .i64 v.lo)).drew = w6 at *
            go_wp2_with fail
            go_roundw
            case rel => exact ⟨k + 1, L.set x v.hi, T.set x v.lo, by go_num, by omega, ⟨HR8.out.1, HR8.out.2.1, by have := HSh.out; rw [if_pos hneg, if_pos hneg] at this; exact this⟩, HR8.out.2.2⟩
            case measure => simp [intOf]; omega
          · go_wp2_with fail
            go_roundw
            case rel => exact ⟨k + 1, L.set x v.lo, T.set x v.hi, by go_num, by omega, ⟨HR5.out.1, HR5.out.2, by have := HSh.out; rw [if_neg hneg, if_neg hneg] at this; exact this⟩, HT5⟩
            case measure => simp [intOf]; omega
    · have hiI : ¬ (i : Int) < (m.goal.length : Int) := by omega
      obtain rfl : i = m.goal.length := by omega
      have hL := hRows.out.2.2.last HR.out HC.out
      rw [HE.out.1, HE.out.2] at hL
      have hlL : L.length = m.vars.length := hRows.out.2.2.l.1
      have hlT : T.length = m.vars.length := hRows.out.2.2.t.1
      have hvmm : m.vars.length ≤ maxLen := hvm
      have HW1 : Hid (∀ w', Below wr.heap.size wr w' → Calls Try.prog 9 #[.agg #[.slice va m.vars.length vp, .slice ca m.cons.length cp, .bool true, .slice ga m.goal.length gp], .slice (some ⟨g1, 0, none⟩) m.vars.length c7] w' fun e w'' => e = .returned (.int .i64 fl) ∧ Below w'.heap.size w' w'') := fun w' hb => by
        have h1 := (hRows.out.1.below hb).ints (c := c7) (by rw [hlL]; exact hvmm)
        rw [hlL] at h1
        have h2 := HWo.out w' _ L (hT.out.trans (hb.mono hT.out.size)) h1
        rw [hL.1] at h2
        exact h2
      have HW2 : Hid (∀ w', Below wr.heap.size wr w' → Calls Try.prog 9 #[.agg #[.slice va m.vars.length vp, .slice ca m.cons.length cp, .bool true, .slice ga m.goal.length gp], .slice (some ⟨g2, 0, none⟩) m.vars.length c8] w' fun e w'' => e = .returned (.int .i64 ce) ∧ Below w'.heap.size w' w'') := fun w' hb => by
        have h1 := (hRows.out.2.1.below hb).ints (c := c8) (by rw [hlT]; exact hvmm)
        rw [hlT] at h1
        have h2 := HWo.out w' _ T (hT.out.trans (hb.mono hT.out.size)) h1
        rw [hL.2] at h2
        exact h2
      have HW3 : Hid (∀ w', Below wr.heap.size wr w' → Calls Try.prog 11 #[.agg #[.slice va m.vars.length vp, .slice ca m.cons.length cp, .bool true, .slice ga m.goal.length gp]] w' fun e w'' => e = .returned (.int .i64 fl) ∧ Below w'.heap.size w' w'') := fun w' hb => HFl.out w' (hT.out.trans (hb.mono hT.out.size))
      have HW4 : Hid (∀ w', Below wr.heap.size wr w' → Calls Try.prog 12 #[.agg #[.slice va m.vars.length vp, .slice ca m.cons.length cp, .bool true, .slice ga m.goal.length gp]] w' fun e w'' => e = .returned (.int .i64 ce) ∧ Below w'.heap.size w' w'') := fun w' hb => HCe.out w' (hT.out.trans (hb.mono hT.out.size))
      have hSe : Hid (wr.cell? ⟨w.heap.size, 0, none⟩ = some (.slice va m.vars.length vp) ∧ wr.cell? ⟨w.heap.size, 1, none⟩ = some (.slice ca m.cons.length cp) ∧ wr.cell? ⟨w.heap.size, 2, none⟩ = some (.bool true) ∧ wr.cell? ⟨w.heap.size, 3, none⟩ = some (.slice ga m.goal.length gp) ∧ Below wr.heap.size wr wr) := ⟨p0, p1, p2, p3, Below.refl _ _⟩
      clear hL hlL hlT hvmm HWo HFl HCe HI HGO HVO
      go_wp2_with fail
      go_region_held3 (fun w' => w'.cell? ⟨w.heap.size, 0, none⟩ = some (.slice va m.vars.length vp) ∧ w'.cell? ⟨w.heap.size, 1, none⟩ = some (.slice ca m.cons.length cp) ∧ w'.cell? ⟨w.heap.size, 2, none⟩ = some (.bool true) ∧ w'.cell? ⟨w.heap.size, 3, none⟩ = some (.slice ga m.goal.length gp) ∧ Below wr.heap.size wr w')
        (first | exact Bx.next hSe.out (Below.refl _ _).drew | exact Bx.next (by assumption) (by assumption) | assumption)
        (first
          | (go_at_call 9; refine calls_at (HW1.out _ (Bx.rest (by assumption))) (by with_reducible rfl) (by with_reducible rfl) ?_; rintro e w' ⟨rfl, hb⟩)
          | (go_at_call 9; refine calls_at (HW2.out _ (Bx.rest (by assumption))) (by with_reducible rfl) (by with_reducible rfl) ?_; rintro e w' ⟨rfl, hb⟩)
          | (go_at_call 11; refine calls_at (HW3.out _ (Bx.rest (by assumption))) (by with_reducible rfl) (by with_reducible rfl) ?_; rintro e w' ⟨rfl, hb⟩)
          | (go_at_call 12; refine calls_at (HW4.out _ (Bx.rest (by assumption))) (by with_reducible rfl) (by with_reducible rfl) ?_; rintro e w' ⟨rfl, hb⟩))
      rename_i hHeld
      have HF : Hid (Below wr.heap.size wr _) := Bx.rest hHeld
      go_wp2_with fail
      go_ret
      exact ⟨rfl, HB.out.trans ((hT.out.trans (HF.out.mono hT.out.size)).mono HB.out.size)⟩
end Go.Proofs.Ytmhfabnpfkkbcaa
