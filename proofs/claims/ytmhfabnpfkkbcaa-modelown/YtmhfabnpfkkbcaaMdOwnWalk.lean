/-
  ModelOwn, as it runs.
-/
import Derived.Test.YtmhfabnpfkkbcaaMdTables
import Derived.Test.YtmhfabnpfkkbcaaMdNames
import Derived.Test.YtmhfabnpfkkbcaaMdKnown
namespace Go.Proofs.Ytmhfabnpfkkbcaa
open Go.RowKit

def mixL (c : Md.Cn) (l o : List Int) (k : Nat) : List Value := (List.range k).map fun i => .int .i64 (Md.mixV c l o i)
theorem mixL_next (c : Md.Cn) (l o : List Int) (k : Nat) : mixL c l o (k + 1) = mixL c l o k ++ [.int .i64 (Md.mixV c l o k)] := by
  unfold mixL; rw [List.range_succ]; simp
theorem mix_keep {c : Md.Cn} {l o : List Int} {k : Nat} (hk : k < l.length) (h : Md.namesB c k = true ∨ o.length ≤ k ∨ Md.numB (o.getD k 0) = false) : Md.mixV c l o k = l[k] := by
  unfold Md.mixV
  rw [if_pos h, List.getD_eq_getElem?_getD, List.getElem?_eq_getElem hk]
  rfl
theorem mix_take {c : Md.Cn} {l o : List Int} {k : Nat} (hk : k < o.length) (h1 : Md.namesB c k = false) (h2 : Md.numB o[k] = true) : Md.mixV c l o k = o[k] := by
  have e : o.getD k 0 = o[k] := by rw [List.getD_eq_getElem?_getD, List.getElem?_eq_getElem hk]; rfl
  unfold Md.mixV
  rw [if_neg (by rw [h1, e, h2]; simp; omega), e]

theorem neg_wrap {z : Int} (h : -9223372036854775808 ≤ z ∧ z ≤ 9223372036854775807) : IntKind.i64.wrap (-z) = Md.neg64 z := by
  unfold Md.neg64
  by_cases e : z = -9223372036854775808
  · rw [if_pos e, e]
    decide
  · rw [if_neg e]
    exact IntWalk.i64_in _ (by omega)
theorem src_pair {w : World} {b : Nat} {i1 i2 : Int} {t : TypeId} (h : w.heap[b]? = some (.cells #[.int .i64 i1, .int .i64 i2] t (0, 0))) : SrcAt w (.slice (some ⟨b, 0, none⟩) 1 1) 1 2 [.int .i64 i1, .int .i64 i2] := by
  refine ⟨_, 1, rfl, rfl, fun y hy => ?_, fun hn => (by cases hn), fun ad ha j y hj => ?_⟩
  · simp only [List.mem_cons, List.not_mem_nil, or_false] at hy
    rcases hy with rfl | rfl <;> rfl
  · injection ha with ha
    subst ha
    rw [addr_none]
    match j, hj with
    | 0, hj => simp at hj; subst hj; simp [World.cell?, h]
    | 1, hj => simp at hj; subst hj; simp [World.cell?, h]
    | k + 2, hj => simp at hj
theorem mix_ints {w : World} {B : Nat} {v : Value} {c : Md.Cn} {l o : List Int} (h : w.ownsRow B 3 1 v l.length (mixL c l o l.length)) (hl : l.length ≤ 20000) : IntsAt w v (Md.mixI c l o) := by
  have e : mixL c l o l.length = (Md.mixI c l o).map (.int .i64) := by simp [mixL, Md.mixI]
  rw [e] at h
  exact own_ints' (by rw [Md.mixI_len]; exact h) (by rw [Md.mixI_len]; unfold maxLen; omega)

set_option maxRecDepth 10000 in
set_option maxHeartbeats 2000000 in
theorem modelOwn_walk (c : Md.Cn) (vt vx vb vr vq vo : Value) (l o : List Int) (w : World) (hC : CnAt w c vt vx vb vr) (hq : IntsAt w vq l) (ho : IntsAt w vo o) (hrc : ∀ a n cp, vr = .slice a n cp → n ≤ cp) (hrt : ∀ t ∈ c.terms, -9223372036854775808 ≤ t.1 ∧ t.1 ≤ 9223372036854775807) (hrk : -9223372036854775808 ≤ c.k ∧ c.k ≤ 9223372036854775807) : Calls Try.prog 4 #[cnVal c vt vx vb vr, vq, vo] w fun e w' => e = .returned (.bool true) ∧ Below w.heap.size w w' := by
  obtain ⟨ta, tc, rfl, htm⟩ := hC.t.form
  obtain ⟨xa, xc, rfl, _⟩ := hC.x.form
  obtain ⟨ba, bc, rfl, _⟩ := hC.b.form
  obtain ⟨ra, rc, rfl, _⟩ := hC.r.form
  obtain ⟨qa, qc, rfl, hqm⟩ := hq.form
  obtain ⟨oa, oc, rfl, hom⟩ := ho.form
  obtain ⟨W, hW⟩ : ∃ W, w.alloc (.cells #[.int .i64 c.kind, .int .i64 c.op, .slice ta c.terms.length tc, .int .i64 c.k, .int .i64 c.v, .int .i64 c.x, .int .i64 c.y, .slice xa c.xs.length xc, .slice ba c.table.length bc, .slice ra c.rows.length rc] 40) = W := ⟨_, rfl⟩
  have hbW : Below w.heap.size w W := by rw [← hW]; exact (Below.refl _ _).alloc (Nat.le_refl _) _
  have hN : W.heap[w.heap.size]? = some (.cells #[.int .i64 c.kind, .int .i64 c.op, .slice ta c.terms.length tc, .int .i64 c.k, .int .i64 c.v, .int .i64 c.x, .int .i64 c.y, .slice xa c.xs.length xc, .slice ba c.table.length bc, .slice ra c.rows.length rc] 40) := by rw [← hW]; exact heap_alloc_new w _
  have HB : Hid (Below w.heap.size w W) := hbW
  have HN : Hid (∀ w', Below W.heap.size W w' → w'.heap[w.heap.size]? = some (.cells #[.int .i64 c.kind, .int .i64 c.op, .slice ta c.terms.length tc, .int .i64 c.k, .int .i64 c.v, .int .i64 c.x, .int .i64 c.y, .slice xa c.xs.length xc, .slice ba c.table.length bc, .slice ra c.rows.length rc] 40)) := fun w' hb => (hb.block _ (Array.getElem?_eq_some_iff.1 hN).1).trans hN
  have HCc : Hid (∀ w', Below w.heap.size w w' → CnAt w' c (.slice ta c.terms.length tc) (.slice xa c.xs.length xc) (.slice ba c.table.length bc) (.slice ra c.rows.length rc)) := fun w' hb => hC.below hb
  have HQ : Hid (∀ w', Below w.heap.size w w' → IntsAt w' (.slice qa l.length qc) l) := fun w' hb => hq.below hb
  have HO : Hid (∀ w', Below w.heap.size w w' → IntsAt w' (.slice oa o.length oc) o) := fun w' hb => ho.below hb
  have HRc : Hid (c.rows.length ≤ rc) := hrc _ _ _ rfl
  have HRt : Hid (∀ t ∈ c.terms, -9223372036854775808 ≤ t.1 ∧ t.1 ≤ 9223372036854775807) := hrt
  have HRk : Hid (-9223372036854775808 ≤ c.k ∧ c.k ≤ 9223372036854775807) := hrk
  have HBw : Hid (∀ {w'}, Below W.heap.size W w' → Below w.heap.size w w') := fun hb => HB.out.trans (hb.mono HB.out.size)
  have HFew : Hid (Calls Try.prog 6 #[.agg #[.slice none 0 0, .slice (some ⟨W.heap.size, 0, none⟩) 1 1, .bool false, .slice none 0 0], .slice qa l.length qc] (W.alloc (.cells #[.int .i64 c.kind, .int .i64 c.op, .slice ta c.terms.length tc, .int .i64 c.k, .int .i64 c.v, .int .i64 c.x, .int .i64 c.y, .slice xa c.xs.length xc, .slice ba c.table.length bc, .slice ra c.rows.length rc] 40)) (Few (costC c + l.length) (W.alloc (.cells #[.int .i64 c.kind, .int .i64 c.op, .slice ta c.terms.length tc, .int .i64 c.k, .int .i64 c.v, .int .i64 c.x, .int .i64 c.y, .slice xa c.xs.length xc, .slice ba c.table.length bc, .slice ra c.rows.length rc] 40)))) := few1_any W.heap.size c _ _ _ _ qa l.length qc _ hqm (hC.below (hbW.alloc hbW.size _)) (heap_alloc_new W _)
  have HFew0 : Hid (∀ w', Calls Try.prog 6 #[.agg #[.slice none 0 0, .slice none 0 0, .bool false, .slice none 0 0], .slice oa o.length oc] w' (Few (costM ⟨[], [], false, []⟩ + o.length) w')) := fun w' => few_any ⟨[], [], false, []⟩ (.slice none 0 0) (.slice none 0 0) (.slice none 0 0) oa o.length oc w' hom ⟨⟨none, 0, rfl, Nat.zero_le _, fun x hx => by simp at hx, fun h => absurd h (Nat.not_lt_zero _)⟩, fun a n cp h => by injection h with h1 h2 h3; omega, cons0 _, terms0 _⟩
  obtain ⟨⟨p0, p1, p2, p3, p4, p5, p6, p7, p8, p9⟩, _⟩ := box10 hN
  unfold maxLen at htm hqm hom
  unfold cnVal
  clear hC hq ho hbW hN hrc hrt hrk
  go_enter Try.func4, Try.ntmps4
  go_wp2_with fail
  refine calls_at HFew.out (by with_reducible rfl) (by with_reducible rfl) ?_
  rintro e w1 ⟨⟨bf, rfl, hcost⟩, hb1⟩
  have HT1 : Hid (Below W.heap.size W w1) := (nal W _).trans (hb1.mono (by simp))
  clear hb1 HFew p0 p1 p2 p3 p4 p5 p6 p7 p8 p9
  cases bf
  · go_wp2_with fail
    go_ret
    exact ⟨rfl, HBw.out HT1.out⟩
  have HCost : Hid (costC c + l.length ≤ 20000) := hcost rfl
  clear hcost
  go_wp2_with fail
  refine calls_at (HFew0.out w1) (by with_reducible rfl) (by with_reducible rfl) ?_
  rintro e w2 ⟨⟨bf, rfl, hcost⟩, hb2⟩
  have HT2 : Hid (Below W.heap.size W w2) := HT1.out.trans (hb2.mono HT1.out.size)
  clear hb2 HFew0
  cases bf
  · go_wp2_with fail
    go_ret
    exact ⟨rfl, HBw.out HT2.out⟩
  have hol : o.length ≤ 20000 := by have := hcost rfl; omega
  have hll : l.length ≤ 20000 := by have := HCost.out; omega
  clear hcost
  go_wp2_with fail
  refine calls_at (known_any w2) (by with_reducible rfl) (by with_reducible rfl) ?_
  rintro e w3 ⟨rfl, hb3⟩
  have HT3 : Hid (Below W.heap.size W w3) := HT2.out.trans (hb3.mono HT2.out.size)
  clear hb3
  have HH : Hid (∀ w', Below W.heap.size W w' → Calls Try.prog 13 #[.agg #[.int .i64 c.kind, .int .i64 c.op, .slice ta c.terms.length tc, .int .i64 c.k, .int .i64 c.v, .int .i64 c.x, .int .i64 c.y, .slice xa c.xs.length xc, .slice ba c.table.length bc, .slice ra c.rows.length rc], .slice qa l.length qc] w' fun e w'' => e = .returned (.bool (Md.holds c l)) ∧ Below w'.heap.size w' w'') := fun w' hb => by
    have h1 := Holds_any c _ _ _ _ _ l w' (HCc.out w' (HBw.out hb)) (HQ.out w' (HBw.out hb))
    unfold cnVal at h1
    exact h1
  obtain ⟨bi, hbi⟩ : ∃ b, Md.holds c l = b := ⟨_, rfl⟩
  have HBi : Hid (Md.holds c l = bi) := hbi
  rw [hbi] at HH
  clear hbi
  obtain ⟨⟨p0, p1, p2, p3, p4, p5, p6, p7, p8, p9⟩, _⟩ := box10 (HN.out w3 HT3.out)
  go_wp2_with fail
  refine calls_at (HH.out w3 HT3.out) (by with_reducible rfl) (by with_reducible rfl) ?_
  rintro e w4 ⟨rfl, hb4⟩
  have HT4 : Hid (Below W.heap.size W w4) := HT3.out.trans (hb4.mono HT3.out.size)
  clear hb4 p0 p1 p2 p3 p4 p5 p6 p7 p8 p9
  go_upto_if 30 with fail
  go_cut [] from 31 to 206 (fun wx => Hid (Below W.heap.size W wx))
  case first =>
    cases bi
    · go_wp2_with fail
      go_meet
      exact HT4
    · go_wp2_with fail
      have hS4 := HT4.out.size
      go_loopw [7, 8] (fun fv iv wr => ∃ k : Nat, iv = .int .i64 (k : Int) ∧ k ≤ l.length ∧ Hid (wr.ownsRow w4.heap.size 3 1 fv k (mixL c l o k)) ∧ Hid (Below w4.heap.size w4 wr)) (fun _ iv _ => l.length - (intOf iv).toNat)
      case atStart => exact ⟨0, rfl, Nat.zero_le _, World.ownsRow_nil _ _ _ _, Below.refl _ _⟩
      case round =>
        obtain ⟨k, rfl, hk, hOw, hbq⟩ := hrel
        have HWr : Hid (Below W.heap.size W wr) := HT4.out.trans (hbq.out.mono HT4.out.size)
        obtain ⟨⟨p0, p1, p2, p3, p4, p5, p6, p7, p8, p9⟩, _⟩ := box10 (HN.out wr HWr.out)
        by_cases hlt : k < l.length
        · have hkI : (k : Int) < (l.length : Int) := by omega
          have HNm : Hid (Calls Try.prog 14 #[.agg #[.int .i64 c.kind, .int .i64 c.op, .slice ta c.terms.length tc, .int .i64 c.k, .int .i64 c.v, .int .i64 c.x, .int .i64 c.y, .slice xa c.xs.length xc, .slice ba c.table.length bc, .slice ra c.rows.length rc], .int .i64 (k : Int)] wr fun e w'' => e = .returned (.bool (Md.namesB c k)) ∧ Below wr.heap.size wr w'') := by
            have h1 := names_any c (k : Int) _ _ _ _ wr (HCc.out wr (HBw.out HWr.out))
            unfold cnVal at h1
            exact h1
          go_wp2_with fail
          refine calls_at HNm.out (by with_reducible rfl) (by with_reducible rfl) ?_
          rintro e w5 ⟨rfl, hb5⟩
          have HT5 : Hid (Below w4.heap.size w4 w5) := hbq.out.trans (hb5.mono hbq.out.size)
          have HO5 : Hid (w5.ownsRow w4.heap.size 3 1 _ k (mixL c l o k)) := own_off (S := fun _ => False) hOw.out (fun _ _ h => h) (Off.of_below hb5)
          have HW5 : Hid (Below W.heap.size W w5) := HT4.out.trans (HT5.out.mono HT4.out.size)
          obtain ⟨a1, c1, he1, _, hc1⟩ := HQ.out w5 (HBw.out HW5.out)
          injection he1 with e1 _ e3
          subst e1 e3
          obtain ⟨qb, qo, rfl, _, hqc⟩ := hc1 (by omega)
          have d1 := hqc k hlt
          clear hqc hc1 hb5 p0 p1 p2 p3 p4 p5 p6 p7 p8 p9 HNm
          cases hn : Md.namesB c k
          · by_cases hko : k < o.length
            · have hkoI : ¬ (o.length : Int) ≤ (k : Int) := by omega
              obtain ⟨a2, c2, he2, _, hc2⟩ := HO.out w5 (HBw.out HW5.out)
              injection he2 with e1 _ e3
              subst e1 e3
              obtain ⟨ob', oo, rfl, _, hoc⟩ := hc2 (by omega)
              have d2 := hoc k hko
              have hkoI2 : (k : Int) < (o.length : Int) := by omega
              clear hoc hc2
              by_cases hlo : o[k] < -1000000000
              · have HKp : Hid (Md.mixV c l o k = l[k]) := mix_keep hlt (.inr (.inr (by rw [List.getD_eq_getElem?_getD, List.getElem?_eq_getElem hko]; simp [Md.numB]; omega)))
                generalize o[k] = ok at *
                have HE : Hid (mixL c l o (k + 1) = mixL c l o k ++ [.int .i64 l[k]]) := by show _ = _; rw [mixL_next, HKp.out]
                generalize l[k] = uu at *
                go_wp2_with (at_builtin; refine append_one w5 (.int .i64 uu) rfl (.tmp 60) (.tmp 65) 27 3 (.int .i64 0) 8 rfl und27' info3' rfl w4.heap.size _ _ _ (by rfl) HO5.out rfl _ rfl (by rfl) (by unfold maxLen; omega) (by omega) HT5.out.size ?_; intro v6 w6 ho6 hg6 hn6)
                have HO6 : Hid (w6.ownsRow w4.heap.size 3 1 v6 (k + 1) (mixL c l o (k + 1))) := by
                  show World.ownsRow _ _ _ _ _ _ _
                  rw [HE.out]; exact ho6
                have HT6 : Hid (Below w4.heap.size w4 w6) := (HT5.out.alloc HT5.out.size _).grown hg6 (by have := HT5.out.size; simp; omega) (fun g hg => (HO5.out.lt g hg).1)
                clear ho6 hg6 hn6
                go_wp2_with fail
                go_roundw
                case rel => exact ⟨k + 1, by go_num, by omega, HO6, HT6⟩
                case measure => simp [intOf]; omega
              · by_cases hhi : 1000000000 < o[k]
                · have HKp : Hid (Md.mixV c l o k = l[k]) := mix_keep hlt (.inr (.inr (by rw [List.getD_eq_getElem?_getD, List.getElem?_eq_getElem hko]; simp [Md.numB]; omega)))
                  generalize o[k] = ok at *
                  have HE : Hid (mixL c l o (k + 1) = mixL c l o k ++ [.int .i64 l[k]]) := by show _ = _; rw [mixL_next, HKp.out]
                  generalize l[k] = uu at *
                  go_wp2_with (at_builtin; refine append_one w5 (.int .i64 uu) rfl (.tmp 60) (.tmp 65) 27 3 (.int .i64 0) 8 rfl und27' info3' rfl w4.heap.size _ _ _ (by rfl) HO5.out rfl _ rfl (by rfl) (by unfold maxLen; omega) (by omega) HT5.out.size ?_; intro v6 w6 ho6 hg6 hn6)
                  have HO6 : Hid (w6.ownsRow w4.heap.size 3 1 v6 (k + 1) (mixL c l o (k + 1))) := by
                    show World.ownsRow _ _ _ _ _ _ _
                    rw [HE.out]; exact ho6
                  have HT6 : Hid (Below w4.heap.size w4 w6) := (HT5.out.alloc HT5.out.size _).grown hg6 (by have := HT5.out.size; simp; omega) (fun g hg => (HO5.out.lt g hg).1)
                  clear ho6 hg6 hn6
                  go_wp2_with fail
                  go_roundw
                  case rel => exact ⟨k + 1, by go_num, by omega, HO6, HT6⟩
                  case measure => simp [intOf]; omega
                · have HKp : Hid (Md.mixV c l o k = o[k]) := mix_take hko hn (by simp [Md.numB]; omega)
                  have hloB : decide (o[k] < -1000000000) = false := decide_eq_false hlo
                  have hhiB : decide (1000000000 < o[k]) = false := decide_eq_false hhi
                  generalize l[k] = lk at *
                  have HE : Hid (mixL c l o (k + 1) = mixL c l o k ++ [.int .i64 o[k]]) := by show _ = _; rw [mixL_next, HKp.out]
                  generalize o[k] = uu at *
                  go_wp2_with (at_builtin; refine append_one w5 (.int .i64 uu) rfl (.tmp 67) (.tmp 72) 27 3 (.int .i64 0) 8 rfl und27' info3' rfl w4.heap.size _ _ _ (by rfl) HO5.out rfl _ rfl (by rfl) (by unfold maxLen; omega) (by omega) HT5.out.size ?_; intro v6 w6 ho6 hg6 hn6)
                  have HO6 : Hid (w6.ownsRow w4.heap.size 3 1 v6 (k + 1) (mixL c l o (k + 1))) := by
                    show World.ownsRow _ _ _ _ _ _ _
                    rw [HE.out]; exact ho6
                  have HT6 : Hid (Below w4.heap.size w4 w6) := (HT5.out.alloc HT5.out.size _).grown hg6 (by have := HT5.out.size; simp; omega) (fun g hg => (HO5.out.lt g hg).1)
                  clear ho6 hg6 hn6
                  go_wp2_with fail
                  go_roundw
                  case rel => exact ⟨k + 1, by go_num, by omega, HO6, HT6⟩
                  case measure => simp [intOf]; omega
            · have hkoI : (o.length : Int) ≤ (k : Int) := by omega
              have HKp : Hid (Md.mixV c l o k = l[k]) := mix_keep hlt (.inr (.inl (by omega)))
              have HE : Hid (mixL c l o (k + 1) = mixL c l o k ++ [.int .i64 l[k]]) := by show _ = _; rw [mixL_next, HKp.out]
              generalize l[k] = uu at *
              go_wp2_with (at_builtin; refine append_one w5 (.int .i64 uu) rfl (.tmp 60) (.tmp 65) 27 3 (.int .i64 0) 8 rfl und27' info3' rfl w4.heap.size _ _ _ (by rfl) HO5.out rfl _ rfl (by rfl) (by unfold maxLen; omega) (by omega) HT5.out.size ?_; intro v6 w6 ho6 hg6 hn6)
              have HO6 : Hid (w6.ownsRow w4.heap.size 3 1 v6 (k + 1) (mixL c l o (k + 1))) := by
                show World.ownsRow _ _ _ _ _ _ _
                rw [HE.out]; exact ho6
              have HT6 : Hid (Below w4.heap.size w4 w6) := (HT5.out.alloc HT5.out.size _).grown hg6 (by have := HT5.out.size; simp; omega) (fun g hg => (HO5.out.lt g hg).1)
              clear ho6 hg6 hn6
              go_wp2_with fail
              go_roundw
              case rel => exact ⟨k + 1, by go_num, by omega, HO6, HT6⟩
              case measure => simp [intOf]; omega
          · have HKp : Hid (Md.mixV c l o k = l[k]) := mix_keep hlt (.inl hn)
            have HE : Hid (mixL c l o (k + 1) = mixL c l o k ++ [.int .i64 l[k]]) := by show _ = _; rw [mixL_next, HKp.out]
            generalize l[k] = uu at *
            go_wp2_with (at_builtin; refine append_one w5 (.int .i64 uu) rfl (.tmp 60) (.tmp 65) 27 3 (.int .i64 0) 8 rfl und27' info3' rfl w4.heap.size _ _ _ (by rfl) HO5.out rfl _ rfl (by rfl) (by unfold maxLen; omega) (by omega) HT5.out.size ?_; intro v6 w6 ho6 hg6 hn6)
            have HO6 : Hid (w6.ownsRow w4.heap.size 3 1 v6 (k + 1) (mixL c l o (k + 1))) := by
              show World.ownsRow _ _ _ _ _ _ _
              rw [HE.out]; exact ho6
            have HT6 : Hid (Below w4.heap.size w4 w6) := (HT5.out.alloc HT5.out.size _).grown hg6 (by have := HT5.out.size; simp; omega) (fun g hg => (HO5.out.lt g hg).1)
            clear ho6 hg6 hn6
            go_wp2_with fail
            go_roundw
            case rel => exact ⟨k + 1, by go_num, by omega, HO6, HT6⟩
            case measure => simp [intOf]; omega
        · have hkI : ¬ (k : Int) < (l.length : Int) := by omega
          obtain rfl : k = l.length := by omega
          obtain ⟨ma, mc, rfl⟩ := own_form hOw.out
          have HHm : Hid (Calls Try.prog 13 #[.agg #[.int .i64 c.kind, .int .i64 c.op, .slice ta c.terms.length tc, .int .i64 c.k, .int .i64 c.v, .int .i64 c.x, .int .i64 c.y, .slice xa c.xs.length xc, .slice ba c.table.length bc, .slice ra c.rows.length rc], .slice ma l.length mc] wr fun e w'' => e = .returned (.bool true) ∧ Below wr.heap.size wr w'') := by
            have hm : IntsAt wr (.slice ma l.length mc) (Md.mixI c l o) := mix_ints hOw.out (by omega)
            have h1 := Holds_any c _ _ _ _ _ (Md.mixI c l o) wr (HCc.out wr (HBw.out HWr.out)) hm
            unfold cnVal at h1
            rw [Md.holds_mix HBi.out] at h1
            exact h1
          go_wp2_with fail
          refine calls_at HHm.out (by with_reducible rfl) (by with_reducible rfl) ?_
          rintro e w5 ⟨rfl, hb5⟩
          have HW5 : Hid (Below W.heap.size W w5) := HWr.out.trans (hb5.mono HWr.out.size)
          clear hb5
          go_wp2_with fail
          go_meet
          exact HW5
  case rest =>
    have HX : Hid (Below W.heap.size W wc) := hcut
    clear hcut HT1 HT2 HT3 HT4
    obtain ⟨⟨q0, q1, q2, q3, q4, q5, q6, q7, q8, q9⟩, _⟩ := box10 (HN.out wc HX.out)
    have hrl : c.rows.length ≤ 1000000 ∧ c.xs.length ≤ 1000000000 ∧ c.terms.length ≤ 20000 := by
      have h1 := HCost.out
      unfold costC at h1
      have h2 := costL_len c.rows
      omega
    by_cases hk8 : c.kind = 8
    · by_cases h0 : 0 < c.rows.length
      · have h0I : (0 : Int) < (c.rows.length : Int) := by omega
        have HTab : Hid (Calls Try.prog 15 #[.agg #[.int .i64 c.kind, .int .i64 c.op, .slice ta c.terms.length tc, .int .i64 c.k, .int .i64 c.v, .int .i64 c.x, .int .i64 c.y, .slice xa c.xs.length xc, .slice ba c.table.length bc, .slice ra c.rows.length rc], .slice qa l.length qc] wc fun e w'' => e = .returned (.bool true) ∧ Below wc.heap.size wc w'') := by
          have h1 := tables_any c _ _ _ _ _ l wc (HCc.out wc (HBw.out HX.out)) (HQ.out wc (HBw.out HX.out)) hk8 h0 hrl.1 (fun a n cp h => by injection h with h1 h2 h3; have := HRc.out; omega)
          unfold cnVal at h1
          exact h1
        have hkB : (c.kind == 8) = true := by simp [hk8]
        clear hk8
        go_wp2_with fail
        refine calls_at HTab.out (by with_reducible rfl) (by with_reducible rfl) ?_
        rintro e w5 ⟨rfl, hb5⟩
        have HW5 : Hid (Below W.heap.size W w5) := HX.out.trans (hb5.mono HX.out.size)
        clear hb5
        go_wp2_with fail
        go_ret
        exact ⟨rfl, HBw.out HW5.out⟩
      · have h0I : ¬ (0 : Int) < (c.rows.length : Int) := by omega
        have hkB : (c.kind == 8) = true := by simp [hk8]
        have hkB9 : (c.kind == 9) = false := by simp [hk8]
        have hkB1 : (c.kind == 1) = false := by simp [hk8]
        have hkB7 : (c.kind == 7) = false := by simp [hk8]
        have hkN1 : (c.kind != 1) = true := by simp [hk8]
        have hkN7 : (c.kind != 7) = true := by simp [hk8]
        clear hk8
        go_wp2_with fail
        go_ret
        exact ⟨rfl, HBw.out HX.out⟩
    have hkB8 : (c.kind == 8) = false := by simpa using hk8
    by_cases hk9 : c.kind = 9
    · have HCt : Hid (Calls Try.prog 16 #[.agg #[.int .i64 c.kind, .int .i64 c.op, .slice ta c.terms.length tc, .int .i64 c.k, .int .i64 c.v, .int .i64 c.x, .int .i64 c.y, .slice xa c.xs.length xc, .slice ba c.table.length bc, .slice ra c.rows.length rc], .slice qa l.length qc] wc fun e w'' => e = .returned (.bool true) ∧ Below wc.heap.size wc w'') := by
        have h1 := counts_any c _ _ _ _ _ l wc (HCc.out wc (HBw.out HX.out)) (HQ.out wc (HBw.out HX.out)) hk9 hrl.2.1
        unfold cnVal at h1
        exact h1
      have hkB : (c.kind == 9) = true := by simp [hk9]
      clear hk9 hk8
      go_wp2_with fail
      refine calls_at HCt.out (by with_reducible rfl) (by with_reducible rfl) ?_
      rintro e w5 ⟨rfl, hb5⟩
      have HW5 : Hid (Below W.heap.size W w5) := HX.out.trans (hb5.mono HX.out.size)
      clear hb5
      go_wp2_with fail
      go_ret
      exact ⟨rfl, HBw.out HW5.out⟩
    have hkB9 : (c.kind == 9) = false := by simpa using hk9
    by_cases hk17 : c.kind = 1 ∨ c.kind = 7
    · have HK17 : Hid (c.kind = 1 ∨ c.kind = 7) := hk17
      have hkc : ((c.kind != 1) = false) ∨ ((c.kind != 1) = true ∧ (c.kind != 7) = false) := by
        rcases hk17 with h | h
        · exact .inl (by simp [h])
        · exact .inr ⟨by simp [h], by simp [h]⟩
      clear hk8 hk9 hk17
      go_upto_region 19 with fail
      go_cut [103] from 96 to 206 (fun s103 wx => s103 = .bool false ∧ wc = wx)
      case first =>
        rcases hkc with h1 | ⟨h1, h7⟩
        · go_wp2_with fail
          go_meet
          exact ⟨rfl, rfl⟩
        · go_wp2_with fail
          go_meet
          exact ⟨rfl, rfl⟩
      case rest =>
        obtain ⟨rfl, rfl⟩ := hcut
        clear hkc
        have HTm : Hid (0 < c.terms.length → ∃ b off, ta = some ⟨b, off, none⟩ ∧ b < w.heap.size ∧ ∀ j (h : j < c.terms.length), w.cell? ⟨b, off + j * 2, none⟩ = some (.int .i64 c.terms[j].1) ∧ w.cell? ⟨b, off + j * 2 + 1, none⟩ = some (.int .i64 c.terms[j].2)) := by
          obtain ⟨a', c', he, _, hgo⟩ := (HCc.out w (Below.refl _ _)).t
          injection he with e1 _ e3
          subst e1
          exact hgo
        have hNw : w.heap.size < wc.heap.size := (Array.getElem?_eq_some_iff.1 (HN.out wc HX.out)).1
        have HNw : Hid (w.heap.size < wc.heap.size) := hNw
        clear hNw
        go_wp2_with fail
        go_loopw [9, 10] (fun fv iv wr => ∃ k : Nat, iv = .int .i64 (k : Int) ∧ k ≤ c.terms.length ∧ Hid (wr.ownsRow wc.heap.size 35 2 fv k (termCells (Md.turnT (c.terms.take k)))) ∧ Hid (Below wc.heap.size wc wr)) (fun _ iv _ => c.terms.length - (intOf iv).toNat)
        case atStart => exact ⟨0, rfl, Nat.zero_le _, World.ownsRow_nil _ _ _ _, Below.refl _ _⟩
        case round =>
          obtain ⟨k, rfl, hk, hOw, hbq⟩ := hrel
          have HWr : Hid (Below W.heap.size W wr) := HX.out.trans (hbq.out.mono HX.out.size)
          clear q0 q1 q2 q3 q4 q5 q6 q7 q8 q9
          by_cases hlt : k < c.terms.length
          · have hkI : (k : Int) < (c.terms.length : Int) := by omega
            obtain ⟨tb, tof, rfl, hTb, hTc⟩ := HTm.out (by omega)
            have HTb : Hid (tb < w.heap.size) := hTb
            have s1 : wr.cell? ⟨w.heap.size, 2, none⟩ = some (.slice (some ⟨tb, tof, none⟩) c.terms.length tc) := (box10 (HN.out wr HWr.out)).1.2.2.1
            have s2 := ((HBw.out HWr.out).cell (p := ⟨tb, tof + k * 2, none⟩) hTb).trans (hTc k hlt).1
            have s3 := ((HBw.out HWr.out).cell (p := ⟨tb, tof + k * 2 + 1, none⟩) hTb).trans (hTc k hlt).2
            have hneg : IntKind.i64.wrap (-c.terms[k].1) = Md.neg64 c.terms[k].1 := neg_wrap (HRt.out _ (List.getElem_mem hlt))
            have HE : Hid (termCells (Md.turnT (c.terms.take (k + 1))) = termCells (Md.turnT (c.terms.take k)) ++ [.int .i64 (Md.neg64 c.terms[k].1), .int .i64 c.terms[k].2]) := by
              show _ = _
              rw [List.take_succ_eq_append_getElem hlt, Md.turnT, List.map_append, termCells_append]
              rfl
            have HFar : Hid (∀ b, b ≤ w.heap.size → some b ≠ Value.ownBlock _) := fun b hb e => by
              have := (hOw.out.lt b e.symm).1
              have := HNw.out
              omega
            have HLe : Hid (wc.heap.size ≤ (wr.alloc (.cells #[.int .i64 (Md.neg64 c.terms[k].1), .int .i64 c.terms[k].2] 35)).drew.heap.size) := by
              have := hbq.out.size
              show wc.heap.size ≤ (wr.alloc _).heap.size
              simp
              omega
            have hTl : c.terms.length ≤ 20000 := hrl.2.2
            generalize c.terms[k].1 = tcf at *
            generalize c.terms[k].2 = tx at *
            clear hTc hTb
            go_wp2_with fail
            refine wp_region_T (fun w' => w'.cell? ⟨w.heap.size, 2, none⟩ = some (.slice (some ⟨tb, tof, none⟩) c.terms.length tc) ∧ w'.cell? ⟨tb, tof + k * 2, none⟩ = some (.int .i64 tcf) ∧ w'.cell? ⟨tb, tof + k * 2 + 1, none⟩ = some (.int .i64 tx)) (fun _ => True) [] (by kernel_rfl) ⟨⟨one_next (Below.refl _ _).drew s1, one_next (Below.refl _ _).drew s2, one_next (Below.refl _ _).drew s3⟩, trivial⟩ (fun hHeld => ?_)
            refine wpAnyT_takeB (i := 0) (oi := ⟨some 111, .move (.tmp 9), _, _, _, _⟩) (v := ?vR25x0) rfl (by kernel_rfl) (by kernel_rfl) (by kernel_rfl) (by kernel_rfl) (fun _ _ _ h => h) (Or.inl ⟨by rfl, ?hyR25x0⟩) (by assumption) ?restR25x0
            case hyR25x0 => (intro w hSw; (try dsimp only at hSw); go_simp; try (with_reducible rfl))
            try simp only [Act.put, List.setIfInBounds_toArray, List.set_cons_zero, List.set_cons_succ]
            refine wpAnyT_takeB (i := 1) (oi := ⟨some 112, .fieldAddr 40 (.tmp 3) 2, _, _, _, _⟩) (v := ?vR25x1) rfl (by kernel_rfl) (by kernel_rfl) (by kernel_rfl) (by kernel_rfl) (fun _ _ _ h => h) (Or.inl ⟨by rfl, ?hyR25x1⟩) (by assumption) ?restR25x1
            case hyR25x1 => (intro w hSw; (try dsimp only at hSw); go_simp; try (with_reducible rfl))
            try simp only [Act.put, List.setIfInBounds_toArray, List.set_cons_zero, List.set_cons_succ]
            refine wpAnyT_takeB (i := 2) (oi := ⟨some 113, .load 24 (.tmp 112), _, _, _, _⟩) (v := ?vR25x2) rfl (by kernel_rfl) (by kernel_rfl) (by kernel_rfl) (by kernel_rfl) (fun _ _ _ h => h) (Or.inl ⟨by rfl, ?hyR25x2⟩) (by assumption) ?restR25x2
            case hyR25x2 => (intro w hSw; (try dsimp only at hSw); go_simp; try (with_reducible rfl))
            try simp only [Act.put, List.setIfInBounds_toArray, List.set_cons_zero, List.set_cons_succ]
            refine wpAnyT_takeB (i := 3) (oi := ⟨some 114, .move (.tmp 10), _, _, _, _⟩) (v := ?vR25x3) rfl (by kernel_rfl) (by kernel_rfl) (by kernel_rfl) (by kernel_rfl) (fun _ _ _ h => h) (Or.inl ⟨by rfl, ?hyR25x3⟩) (by assumption) ?restR25x3
            case hyR25x3 => (intro w hSw; (try dsimp only at hSw); go_simp; try (with_reducible rfl))
            try simp only [Act.put, List.setIfInBounds_toArray, List.set_cons_zero, List.set_cons_succ]
            refine wpAnyT_takeB (i := 4) (oi := ⟨some 115, .indexAddr 24 (.tmp 113) (.tmp 114), _, _, _, _⟩) (v := ?vR25x4) rfl (by kernel_rfl) (by kernel_rfl) (by kernel_rfl) (by kernel_rfl) (fun _ _ _ h => h) (Or.inl ⟨by rfl, ?hyR25x4⟩) (by assumption) ?restR25x4
            case hyR25x4 => (intro w hSw; (try dsimp only at hSw); go_simp; try (with_reducible rfl))
            try simp only [Act.put, List.setIfInBounds_toArray, List.set_cons_zero, List.set_cons_succ]
            refine wpAnyT_takeB (i := 5) (oi := ⟨some 116, .fieldAddr 35 (.tmp 115) 0, _, _, _, _⟩) (v := ?vR25x5) rfl (by kernel_rfl) (by kernel_rfl) (by kernel_rfl) (by kernel_rfl) (fun _ _ _ h => h) (Or.inl ⟨by rfl, ?hyR25x5⟩) (by assumption) ?restR25x5
            case hyR25x5 => (intro w hSw; (try dsimp only at hSw); go_simp; try (with_reducible rfl))
            try simp only [Act.put, List.setIfInBounds_toArray, List.set_cons_zero, List.set_cons_succ]
            refine wpAnyT_takeB (i := 6) (oi := ⟨some 117, .load 3 (.tmp 116), _, _, _, _⟩) (v := ?vR25x6) rfl (by kernel_rfl) (by kernel_rfl) (by kernel_rfl) (by kernel_rfl) (fun _ _ _ h => h) (Or.inl ⟨by rfl, ?hyR25x6⟩) (by assumption) ?restR25x6
            case hyR25x6 => (intro w hSw; (try dsimp only at hSw); go_simp; try (with_reducible rfl))
            try simp only [Act.put, List.setIfInBounds_toArray, List.set_cons_zero, List.set_cons_succ]
            refine wpAnyT_takeB (i := 7) (oi := ⟨some 118, .unOp .neg 3 (.tmp 117), _, _, _, _⟩) (v := ?vR25x7) rfl (by kernel_rfl) (by kernel_rfl) (by kernel_rfl) (by kernel_rfl) (fun _ _ _ h => h) (Or.inl ⟨by rfl, ?hyR25x7⟩) (by assumption) ?restR25x7
            case hyR25x7 => (intro w hSw; (try dsimp only at hSw); go_simp; try (with_reducible rfl))
            try simp only [Act.put, List.setIfInBounds_toArray, List.set_cons_zero, List.set_cons_succ]
            refine wpAnyT_takeB (i := 8) (oi := ⟨some 119, .fieldAddr 40 (.tmp 3) 2, _, _, _, _⟩) (v := ?vR25x8) rfl (by kernel_rfl) (by kernel_rfl) (by kernel_rfl) (by kernel_rfl) (fun _ _ _ h => h) (Or.inl ⟨by rfl, ?hyR25x8⟩) (by assumption) ?restR25x8
            case hyR25x8 => (intro w hSw; (try dsimp only at hSw); go_simp; try (with_reducible rfl))
            try simp only [Act.put, List.setIfInBounds_toArray, List.set_cons_zero, List.set_cons_succ]
            refine wpAnyT_takeB (i := 9) (oi := ⟨some 120, .load 24 (.tmp 119), _, _, _, _⟩) (v := ?vR25x9) rfl (by kernel_rfl) (by kernel_rfl) (by kernel_rfl) (by kernel_rfl) (fun _ _ _ h => h) (Or.inl ⟨by rfl, ?hyR25x9⟩) (by assumption) ?restR25x9
            case hyR25x9 => (intro w hSw; (try dsimp only at hSw); go_simp; try (with_reducible rfl))
            try simp only [Act.put, List.setIfInBounds_toArray, List.set_cons_zero, List.set_cons_succ]
            refine wpAnyT_takeB (i := 10) (oi := ⟨some 121, .move (.tmp 10), _, _, _, _⟩) (v := ?vR25x10) rfl (by kernel_rfl) (by kernel_rfl) (by kernel_rfl) (by kernel_rfl) (fun _ _ _ h => h) (Or.inl ⟨by rfl, ?hyR25x10⟩) (by assumption) ?restR25x10
            case hyR25x10 => (intro w hSw; (try dsimp only at hSw); go_simp; try (with_reducible rfl))
            try simp only [Act.put, List.setIfInBounds_toArray, List.set_cons_zero, List.set_cons_succ]
            refine wpAnyT_takeB (i := 11) (oi := ⟨some 122, .indexAddr 24 (.tmp 120) (.tmp 121), _, _, _, _⟩) (v := ?vR25x11) rfl (by kernel_rfl) (by kernel_rfl) (by kernel_rfl) (by kernel_rfl) (fun _ _ _ h => h) (Or.inl ⟨by rfl, ?hyR25x11⟩) (by assumption) ?restR25x11
            case hyR25x11 => (intro w hSw; (try dsimp only at hSw); go_simp; try (with_reducible rfl))
            try simp only [Act.put, List.setIfInBounds_toArray, List.set_cons_zero, List.set_cons_succ]
            refine wpAnyT_takeB (i := 12) (oi := ⟨some 123, .fieldAddr 35 (.tmp 122) 1, _, _, _, _⟩) (v := ?vR25x12) rfl (by kernel_rfl) (by kernel_rfl) (by kernel_rfl) (by kernel_rfl) (fun _ _ _ h => h) (Or.inl ⟨by rfl, ?hyR25x12⟩) (by assumption) ?restR25x12
            case hyR25x12 => (intro w hSw; (try dsimp only at hSw); go_simp; try (with_reducible rfl))
            try simp only [Act.put, List.setIfInBounds_toArray, List.set_cons_zero, List.set_cons_succ]
            refine wpAnyT_takeB (i := 13) (oi := ⟨some 124, .load 3 (.tmp 123), _, _, _, _⟩) (v := ?vR25x13) rfl (by kernel_rfl) (by kernel_rfl) (by kernel_rfl) (by kernel_rfl) (fun _ _ _ h => h) (Or.inl ⟨by rfl, ?hyR25x13⟩) (by assumption) ?restR25x13
            case hyR25x13 => (intro w hSw; (try dsimp only at hSw); go_simp; try (with_reducible rfl))
            try simp only [Act.put, List.setIfInBounds_toArray, List.set_cons_zero, List.set_cons_succ]
            refine wpAnyT_takeB (i := 14) (oi := ⟨some 125, .build 35 #[(0, (.tmp 118)), (1, (.tmp 124))], _, _, _, _⟩) (v := ?vR25x14) rfl (by kernel_rfl) (by kernel_rfl) (by kernel_rfl) (by kernel_rfl) (fun _ _ _ h => h) (Or.inl ⟨by rfl, ?hyR25x14⟩) (by assumption) ?restR25x14
            case hyR25x14 => (intro w hSw; (try dsimp only at hSw); go_simp; try (with_reducible rfl))
            try simp only [Act.put, List.setIfInBounds_toArray, List.set_cons_zero, List.set_cons_succ]
            refine wpAnyT_one (i := 15) (o := ⟨some 126, .buildSlice 24 1 #[(0, (.tmp 125))], _, _, _, _⟩) (by kernel_rfl) rfl (fun K hK => ?_)
            go_simp
            have hH15 : ((wr.alloc (.cells #[.int .i64 (Md.neg64 tcf), .int .i64 tx] 35)).drew.cell? ⟨w.heap.size, 2, none⟩ = some (.slice (some ⟨tb, tof, none⟩) c.terms.length tc) ∧ (wr.alloc (.cells #[.int .i64 (Md.neg64 tcf), .int .i64 tx] 35)).drew.cell? ⟨tb, tof + k * 2, none⟩ = some (.int .i64 tcf) ∧ (wr.alloc (.cells #[.int .i64 (Md.neg64 tcf), .int .i64 tx] 35)).drew.cell? ⟨tb, tof + k * 2 + 1, none⟩ = some (.int .i64 tx)) ∧ True := ⟨⟨one_next (nal _ _).drew s1, one_next (nal _ _).drew s2, one_next (nal _ _).drew s3⟩, trivial⟩
            refine hK.out _ _ ⟨hH15.1, fun _ => trivial⟩ ?_
            clear hK K
            try simp only [Act.put, List.setIfInBounds_toArray, List.set_cons_zero, List.set_cons_succ]
            refine wpAnyT_one (i := 16) (o := ⟨some 127, .call { callee := .builtin .append, args := #[.tmp 111, .tmp 126], argTypes := #[24, 24] }, _, _, _, _⟩) (by kernel_rfl) rfl (fun K hK => ?_)
            refine op_append_src (wr.alloc (.cells #[.int .i64 (Md.neg64 tcf), .int .i64 tx] 35)).drew (.tmp 111) (.tmp 126) 24 35 (.agg #[.int .i64 0, .int .i64 0]) 2 16 rfl und24' info35' rfl (by decide) wc.heap.size _ _ k 1 _ _ (by rfl) (by rfl) (hOw.out.alloc _) (src_pair (t := 35) (heap_alloc_new wr _)) (by unfold maxLen; omega) (by omega) HLe.out (by rfl) ?_
            intro v7 w7 ho7 hg7 _
            have HO7 : Hid (w7.ownsRow wc.heap.size 35 2 v7 (k + 1) (termCells (Md.turnT (c.terms.take (k + 1))))) := by
              show World.ownsRow _ _ _ _ _ _ _
              rw [HE.out]; exact ho7
            have HT7 : Hid (Below wc.heap.size wc w7) := (hbq.out.trans (((nal wr _).drew).mono hbq.out.size)).grown hg7 HLe.out (fun g hg => (hOw.out.lt g hg).1)
            have hH16 : (w7.cell? ⟨w.heap.size, 2, none⟩ = some (.slice (some ⟨tb, tof, none⟩) c.terms.length tc) ∧ w7.cell? ⟨tb, tof + k * 2, none⟩ = some (.int .i64 tcf) ∧ w7.cell? ⟨tb, tof + k * 2 + 1, none⟩ = some (.int .i64 tx)) ∧ True := ⟨⟨hg7.cell hH15.1.1 (HFar.out _ (Nat.le_refl _)), hg7.cell hH15.1.2.1 (HFar.out tb (Nat.le_of_lt HTb.out)), hg7.cell hH15.1.2.2 (HFar.out tb (Nat.le_of_lt HTb.out))⟩, trivial⟩
            clear ho7 hg7
            refine hK.out _ _ ⟨hH16.1, fun _ => trivial⟩ ?_
            clear hK K
            try simp only [Act.put, List.setIfInBounds_toArray, List.set_cons_zero, List.set_cons_succ]
            refine wpAnyT_takeB (i := 17) (oi := ⟨some 9, .assign (.tmp 127), _, _, _, _⟩) (v := ?vR25x17) rfl (by kernel_rfl) (by kernel_rfl) (by kernel_rfl) (by kernel_rfl) (fun _ _ _ h => h) (Or.inl ⟨by rfl, ?hyR25x17⟩) (by assumption) ?restR25x17
            case hyR25x17 => (intro w hSw; (try dsimp only at hSw); go_simp; try (with_reducible rfl))
            try simp only [Act.put, List.setIfInBounds_toArray, List.set_cons_zero, List.set_cons_succ]
            refine wpAnyT_done (by kernel_rfl) ?_ _
            go_wp2_with fail
            go_roundw
            case rel => exact ⟨k + 1, by go_num, by omega, HO7, HT7⟩
            case measure => simp [intOf]; omega
          · have hkI : ¬ (k : Int) < (c.terms.length : Int) := by omega
            obtain rfl : k = c.terms.length := by omega
            obtain ⟨fa, fc, rfl⟩ := own_form hOw.out
            have hnegk : IntKind.i64.wrap (-c.k) = Md.neg64 c.k := neg_wrap HRk.out
            have HTn : Hid (∀ w', Below wr.heap.size wr w' → Calls Try.prog 13 #[.agg #[.int .i64 1, .int .i64 3, .slice fa c.terms.length fc, .int .i64 (Md.neg64 c.k), .int .i64 0, .int .i64 0, .int .i64 0, .slice none 0 0, .slice none 0 0, .slice none 0 0], .slice qa l.length qc] w' fun e w'' => e = .returned (.bool (Md.holds (Md.lin 1 c.k c.terms) l)) ∧ Below w'.heap.size w' w'') := fun w' hb => by
              have hbW := HWr.out.trans (hb.mono HWr.out.size)
              have e : (Md.turnT c.terms).length = c.terms.length := by simp [Md.turnT]
              have ho := own_off (S := fun _ => False) hOw.out (fun _ _ h => h) (Off.of_below hb)
              rw [List.take_of_length_le (Nat.le_refl _)] at ho
              have ht : TermsAt w' (.slice fa c.terms.length fc) (Md.turnT c.terms) := own_terms (by rw [e]; exact ho) (by rw [e]; unfold maxLen; omega)
              have h1 := Holds_any (Md.lin 3 (Md.neg64 c.k) (Md.turnT c.terms)) _ _ _ _ _ l w' ⟨ht, ints0 _, fun a n cp h => by injection h with h1 h2 h3; omega, ints0 _, rows0 _⟩ (HQ.out w' (HBw.out hbW))
              unfold cnVal at h1
              rw [Md.holds_turn] at h1
              exact h1
            have HL1 : Hid (∀ w', Below W.heap.size W w' → Calls Try.prog 13 #[.agg #[.int .i64 1, .int .i64 1, .slice ta c.terms.length tc, .int .i64 c.k, .int .i64 0, .int .i64 0, .int .i64 0, .slice none 0 0, .slice none 0 0, .slice none 0 0], .slice qa l.length qc] w' fun e w'' => e = .returned (.bool (Md.holds (Md.lin 1 c.k c.terms) l)) ∧ Below w'.heap.size w' w'') := fun w' hb => by
              have h0 := HCc.out w' (HBw.out hb)
              have h1 := Holds_any (Md.lin 1 c.k c.terms) _ _ _ _ _ l w' ⟨h0.t, ints0 _, fun a n cp h => by injection h with h1 h2 h3; omega, ints0 _, rows0 _⟩ (HQ.out w' (HBw.out hb))
              unfold cnVal at h1
              exact h1
            have HL3 : Hid (∀ w', Below W.heap.size W w' → Calls Try.prog 13 #[.agg #[.int .i64 1, .int .i64 3, .slice ta c.terms.length tc, .int .i64 c.k, .int .i64 0, .int .i64 0, .int .i64 0, .slice none 0 0, .slice none 0 0, .slice none 0 0], .slice qa l.length qc] w' fun e w'' => e = .returned (.bool (Md.holds (Md.lin 3 c.k c.terms) l)) ∧ Below w'.heap.size w' w'') := fun w' hb => by
              have h0 := HCc.out w' (HBw.out hb)
              have h1 := Holds_any (Md.lin 3 c.k c.terms) _ _ _ _ _ l w' ⟨h0.t, ints0 _, fun a n cp h => by injection h with h1 h2 h3; omega, ints0 _, rows0 _⟩ (HQ.out w' (HBw.out hb))
              unfold cnVal at h1
              exact h1
            have HL2 : Hid (∀ w', Below W.heap.size W w' → Calls Try.prog 13 #[.agg #[.int .i64 1, .int .i64 2, .slice ta c.terms.length tc, .int .i64 c.k, .int .i64 0, .int .i64 0, .int .i64 0, .slice none 0 0, .slice none 0 0, .slice none 0 0], .slice qa l.length qc] w' fun e w'' => e = .returned (.bool (Md.holds (Md.lin 2 c.k c.terms) l)) ∧ Below w'.heap.size w' w'') := fun w' hb => by
              have h0 := HCc.out w' (HBw.out hb)
              have h1 := Holds_any (Md.lin 2 c.k c.terms) _ _ _ _ _ l w' ⟨h0.t, ints0 _, fun a n cp h => by injection h with h1 h2 h3; omega, ints0 _, rows0 _⟩ (HQ.out w' (HBw.out hb))
              unfold cnVal at h1
              exact h1
            have HEq : Hid (Md.holds (Md.lin 2 c.k c.terms) l = (Md.holds (Md.lin 1 c.k c.terms) l && Md.holds (Md.lin 3 c.k c.terms) l)) := Md.holds_both (c := Md.lin 1 c.k c.terms) (vs := l) (.inl rfl)
            have HRf : Hid (c.kind = 7 → bi = true → (Md.val l c.x = 1 ∧ Md.holds (Md.lin 1 c.k c.terms) l = true) ∨ (Md.val l c.x = 0 ∧ Md.holds (Md.lin 1 c.k c.terms) l = false)) := fun h7 hb => Md.reif_says h7 (HBi.out.trans hb)
            rw [HEq.out] at HL2
            obtain ⟨ble, hble⟩ : ∃ b, Md.holds (Md.lin 1 c.k c.terms) l = b := ⟨_, rfl⟩
            obtain ⟨bge, hbge⟩ : ∃ b, Md.holds (Md.lin 3 c.k c.terms) l = b := ⟨_, rfl⟩
            rw [hble, hbge] at HL2
            rw [hble] at HL1 HTn HRf
            rw [hbge] at HL3
            clear hble hbge HEq hOw HTm HCc HO HRt HCost HRc
            obtain ⟨⟨q0, q1, q2, q3, q4, q5, q6, q7, q8, q9⟩, _⟩ := box10 (HN.out wr HWr.out)
            go_wp2_with fail
            refine calls_at (HL1.out wr HWr.out) (by with_reducible rfl) (by with_reducible rfl) ?_
            rintro e w5 ⟨rfl, hb5⟩
            have HW5 : Hid (Below W.heap.size W w5) := HWr.out.trans (hb5.mono HWr.out.size)
            have HR5 : Hid (Below wr.heap.size wr w5) := hb5
            clear hb5 q0 q1 q2 q3 q4 q5 q6 q7 q8 q9
            obtain ⟨⟨q0, q1, q2, q3, q4, q5, q6, q7, q8, q9⟩, _⟩ := box10 (HN.out w5 HW5.out)
            go_wp2_with fail
            refine calls_at (HL3.out w5 HW5.out) (by with_reducible rfl) (by with_reducible rfl) ?_
            rintro e w6 ⟨rfl, hb6⟩
            have HW6 : Hid (Below W.heap.size W w6) := HW5.out.trans (hb6.mono HW5.out.size)
            have HR6 : Hid (Below wr.heap.size wr w6) := HR5.out.trans (hb6.mono HR5.out.size)
            clear hb6 q0 q1 q2 q3 q4 q5 q6 q7 q8 q9
            obtain ⟨⟨q0, q1, q2, q3, q4, q5, q6, q7, q8, q9⟩, _⟩ := box10 (HN.out w6 HW6.out)
            go_wp2_with fail
            refine calls_at (HL2.out w6 HW6.out) (by with_reducible rfl) (by with_reducible rfl) ?_
            rintro e w7 ⟨rfl, hb7⟩
            have HW7 : Hid (Below W.heap.size W w7) := HW6.out.trans (hb7.mono HW6.out.size)
            have HR7 : Hid (Below wr.heap.size wr w7) := HR6.out.trans (hb7.mono HR6.out.size)
            clear hb7 q0 q1 q2 q3 q4 q5 q6 q7 q8 q9 HL1 HL2 HL3
            obtain ⟨⟨q0, q1, q2, q3, q4, q5, q6, q7, q8, q9⟩, _⟩ := box10 (HN.out w7 HW7.out)
            cases ble
            · rw [Bool.false_and]
              go_wp2_with fail
              refine calls_at (HTn.out w7 HR7.out) (by with_reducible rfl) (by with_reducible rfl) ?_
              rintro e w8 ⟨rfl, hb8⟩
              have HW8 : Hid (Below W.heap.size W w8) := HW7.out.trans (hb8.mono HW7.out.size)
              clear hb8 q0 q1 q2 q3 q4 q5 q6 q7 q8 q9 HTn
              obtain ⟨⟨q0, q1, q2, q3, q4, q5, q6, q7, q8, q9⟩, _⟩ := box10 (HN.out w8 HW8.out)
              by_cases h7 : c.kind = 7
              · have hkB7 : (c.kind == 7) = true := by simp [h7]
                have HRf2 : Hid (bi = true → _) := HRf.out h7
                clear h7
                by_cases hx0 : c.x < 0
                · have hx0I : ¬ 0 ≤ c.x := by omega
                  have hx0B : decide (0 ≤ c.x) = false := decide_eq_false hx0I
                  go_wp2_with fail
                  go_ret
                  exact ⟨rfl, HBw.out HW8.out⟩
                · by_cases hxl : (l.length : Int) ≤ c.x
                  · have hx0I : 0 ≤ c.x := by omega
                    have hxlI : ¬ c.x < (l.length : Int) := by omega
                    have hx0B : decide (0 ≤ c.x) = true := decide_eq_true hx0I
                    have hxlB : decide (c.x < (l.length : Int)) = false := decide_eq_false hxlI
                    go_wp2_with fail
                    go_ret
                    exact ⟨rfl, HBw.out HW8.out⟩
                  · have hx0I : 0 ≤ c.x := by omega
                    have hxlI : c.x < (l.length : Int) := by omega
                    go_wp2_with fail
                    refine calls_at (HH.out w8 HW8.out) (by with_reducible rfl) (by with_reducible rfl) ?_
                    rintro e w9 ⟨rfl, hb9⟩
                    have HW9 : Hid (Below W.heap.size W w9) := HW8.out.trans (hb9.mono HW8.out.size)
                    clear hb9 q0 q1 q2 q3 q4 q5 q6 q7 q8 q9
                    cases bi
                    · go_wp2_with fail
                      go_ret
                      exact ⟨rfl, HBw.out HW9.out⟩
                    · obtain ⟨xn, hxn⟩ : ∃ xn : Nat, c.x = (xn : Int) := ⟨c.x.toNat, by omega⟩
                      have hxnl : xn < l.length := by omega
                      have q5 := (box10 (HN.out w9 HW9.out)).1.2.2.2.2.2.1
                      rw [hxn] at q5
                      have hval : Md.val l c.x = l[xn] := by rw [hxn, Md.val_get hxnl]
                      obtain ⟨a1, c1, he1, _, hc1⟩ := HQ.out w9 (HBw.out HW9.out)
                      injection he1 with e1 _ e3
                      subst e1 e3
                      obtain ⟨qb, qo, rfl, _, hqc⟩ := hc1 (by omega)
                      have d1 := hqc xn hxnl
                      have hxnI : (xn : Int) < (l.length : Int) := by omega
                      have hv : l[xn] = 0 := by
                        rcases HRf2.out rfl with ⟨h1, h2⟩ | ⟨h1, h2⟩
                        · first | (cases h2; done) | (rw [← hval]; exact h1)
                        · first | (cases h2; done) | (rw [← hval]; exact h1)
                      rw [hv] at d1
                      clear hqc hc1 hval hxn hx0I hxlI hx0 hxl HRf HRf2 HN
                      go_wp2_with fail
                      go_ret
                      exact ⟨rfl, HBw.out HW9.out⟩
              · have hkB7 : (c.kind == 7) = false := by simpa using h7
                clear h7
                go_wp2_with fail
                go_ret
                exact ⟨rfl, HBw.out HW8.out⟩
            · rw [Bool.true_and]
              go_wp2_with fail
              refine calls_at (HTn.out w7 HR7.out) (by with_reducible rfl) (by with_reducible rfl) ?_
              rintro e w8 ⟨rfl, hb8⟩
              have HW8 : Hid (Below W.heap.size W w8) := HW7.out.trans (hb8.mono HW7.out.size)
              clear hb8 q0 q1 q2 q3 q4 q5 q6 q7 q8 q9 HTn
              obtain ⟨⟨q0, q1, q2, q3, q4, q5, q6, q7, q8, q9⟩, _⟩ := box10 (HN.out w8 HW8.out)
              by_cases h7 : c.kind = 7
              · have hkB7 : (c.kind == 7) = true := by simp [h7]
                have HRf2 : Hid (bi = true → _) := HRf.out h7
                clear h7
                by_cases hx0 : c.x < 0
                · have hx0I : ¬ 0 ≤ c.x := by omega
                  have hx0B : decide (0 ≤ c.x) = false := decide_eq_false hx0I
                  go_wp2_with fail
                  go_ret
                  exact ⟨rfl, HBw.out HW8.out⟩
                · by_cases hxl : (l.length : Int) ≤ c.x
                  · have hx0I : 0 ≤ c.x := by omega
                    have hxlI : ¬ c.x < (l.length : Int) := by omega
                    have hx0B : decide (0 ≤ c.x) = true := decide_eq_true hx0I
                    have hxlB : decide (c.x < (l.length : Int)) = false := decide_eq_false hxlI
                    go_wp2_with fail
                    go_ret
                    exact ⟨rfl, HBw.out HW8.out⟩
                  · have hx0I : 0 ≤ c.x := by omega
                    have hxlI : c.x < (l.length : Int) := by omega
                    go_wp2_with fail
                    refine calls_at (HH.out w8 HW8.out) (by with_reducible rfl) (by with_reducible rfl) ?_
                    rintro e w9 ⟨rfl, hb9⟩
                    have HW9 : Hid (Below W.heap.size W w9) := HW8.out.trans (hb9.mono HW8.out.size)
                    clear hb9 q0 q1 q2 q3 q4 q5 q6 q7 q8 q9
                    cases bi
                    · go_wp2_with fail
                      go_ret
                      exact ⟨rfl, HBw.out HW9.out⟩
                    · obtain ⟨xn, hxn⟩ : ∃ xn : Nat, c.x = (xn : Int) := ⟨c.x.toNat, by omega⟩
                      have hxnl : xn < l.length := by omega
                      have q5 := (box10 (HN.out w9 HW9.out)).1.2.2.2.2.2.1
                      rw [hxn] at q5
                      have hval : Md.val l c.x = l[xn] := by rw [hxn, Md.val_get hxnl]
                      obtain ⟨a1, c1, he1, _, hc1⟩ := HQ.out w9 (HBw.out HW9.out)
                      injection he1 with e1 _ e3
                      subst e1 e3
                      obtain ⟨qb, qo, rfl, _, hqc⟩ := hc1 (by omega)
                      have d1 := hqc xn hxnl
                      have hxnI : (xn : Int) < (l.length : Int) := by omega
                      have hv : l[xn] = 1 := by
                        rcases HRf2.out rfl with ⟨h1, h2⟩ | ⟨h1, h2⟩
                        · first | (cases h2; done) | (rw [← hval]; exact h1)
                        · first | (cases h2; done) | (rw [← hval]; exact h1)
                      rw [hv] at d1
                      clear hqc hc1 hval hxn hx0I hxlI hx0 hxl HRf HRf2 HN
                      go_wp2_with fail
                      go_ret
                      exact ⟨rfl, HBw.out HW9.out⟩
              · have hkB7 : (c.kind == 7) = false := by simpa using h7
                clear h7
                go_wp2_with fail
                go_ret
                exact ⟨rfl, HBw.out HW8.out⟩
    · have hkB1 : (c.kind == 1) = false := by simp; omega
      have hkB7 : (c.kind == 7) = false := by simp; omega
      have hkN1 : (c.kind != 1) = true := by simp; omega
      have hkN7 : (c.kind != 7) = true := by simp; omega
      clear hk8 hk9 hk17
      go_wp2_with fail
      go_ret
      exact ⟨rfl, HBw.out HX.out⟩
end Go.Proofs.Ytmhfabnpfkkbcaa
