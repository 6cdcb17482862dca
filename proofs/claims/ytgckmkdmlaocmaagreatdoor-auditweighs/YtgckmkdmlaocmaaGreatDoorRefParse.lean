/-
  The document's numbers: Parse.
-/
import Derived.Test.YtgckmkdmlaocmaaGreatDoorJ10
import Derived.Deep.DeepFit
namespace Go.Proofs.YtgckmkdmlaocmaaGreatDoor
open Go.RowKit
open Bn (limbs)

/-- When a text of digits t, with a sign or not, is refused. -/
theorem parse_no {l : List UInt8} (h : digitsOf l = [] ∨ ((digitsOf l).head? = some 48 ∧ (1 < (digitsOf l).length ∨ minus l = true)) ∨ (digitsOf l).all isDig = false) : parseZ l = none := by
  unfold parseZ
  rw [if_neg]
  rintro (h1 | h1)
  · subst h1
    rcases h with h | ⟨_, h⟩ | h
    · exact absurd h (by decide)
    · rcases h with h | h
      · exact absurd h (by decide)
      · exact absurd h (by decide)
    · exact absurd h (by decide)
  · unfold sizeB at h1
    simp at h1
    rcases h with h | ⟨h, _⟩ | h
    · exact absurd h h1.1.1
    · exact absurd h h1.1.2
    · rw [List.all_eq_false] at h
      obtain ⟨x, hx, hn⟩ := h
      exact hn (h1.2 x hx)
theorem parse_yes {l : List UInt8} (h0 : digitsOf l ≠ []) (h1 : (digitsOf l).head? = some 48 → (digitsOf l).length = 1 ∧ minus l = false) (h2 : (digitsOf l).all isDig = true) : parseZ l = some (sg (minus l) (dval (digitsOf l))) := by
  unfold parseZ
  rw [if_pos]
  by_cases h : (digitsOf l).head? = some 48
  · obtain ⟨h3, h4⟩ := h1 h
    have e : digitsOf l = l := by
      unfold digitsOf Lib.trimPrefix
      unfold minus at h4
      rw [h4]; rfl
    rw [e] at h h3
    match l, h, h3 with
    | [c], h, _ => simp at h; subst h; exact .inl rfl
  · refine .inr ?_
    unfold sizeB
    rw [h2]
    simp [h0, h]

theorem refAt_zero (w : World) : RefAt w (.agg #[.bool false, .slice none 0 0]) 0 := ⟨_, rfl, .inl ⟨rfl, rfl⟩⟩
theorem parse_row_rel {W wr w1 : World} {B : Nat} {v v' : Value} {lim : List Nat} {G : Nat} {o : Obj} (hown : wr.ownsRow B 3 1 v lim.length (cellsOf lim)) (hbel : Below B W wr)
    (hown1 : w1.ownsRow B 3 1 v' (lim.length + 1) (cellsOf lim ++ [.int .i64 (G : Int)])) (hg : (wr.alloc o).grownBy w1 v.ownBlock) (hB : B ≤ wr.heap.size := by omega) :
    w1.ownsRow B 3 1 v' (lim ++ [G]).length (cellsOf (lim ++ [G])) ∧ Below B W w1 := by
  refine ⟨?_, ?_⟩
  · rw [cellsOf_snoc, List.length_append]; exact hown1
  · exact (hbel.alloc hB o).grown hg (by simp; omega) (fun g hg => (hown.lt g hg).1)
/-- The result's box of a document's number, behind what was made since. -/
theorem ref_kept {w w2 : World} (hb : Below (w.heap.size + 1) (w.alloc (.cells #[.bool false, .slice none 0 0] 105)) w2) :
    (∀ o, w2.cell? ⟨w.heap.size, o, none⟩ = (w.alloc (.cells #[.bool false, .slice none 0 0] 105)).cell? ⟨w.heap.size, o, none⟩) ∧ (∀ o, w2.frozen? ⟨w.heap.size, o, none⟩ = (w.alloc (.cells #[.bool false, .slice none 0 0] 105)).frozen? ⟨w.heap.size, o, none⟩) :=
  ⟨fun o => hb.cell (p := ⟨w.heap.size, o, none⟩) (Nat.lt_succ_self _), fun o => hb.frozen (p := ⟨w.heap.size, o, none⟩) (Nat.lt_succ_self _)⟩
theorem ref_box {w w2 : World} {z : Int} {s : Value} (hb : Below (w.heap.size + 1) (w.alloc (.cells #[.bool false, .slice none 0 0] 105)) w2) (hI : IntsAt w2 s (limbs z.natAbs)) :
    ((w2.setCell ⟨w.heap.size, 0, none⟩ (.bool (decide (z < 0)))).setCell ⟨w.heap.size, 1, none⟩ s).cell? ⟨w.heap.size, 0, none⟩ = some (.bool (decide (z < 0))) ∧
    ((w2.setCell ⟨w.heap.size, 0, none⟩ (.bool (decide (z < 0)))).setCell ⟨w.heap.size, 1, none⟩ s).cell? ⟨w.heap.size, 1, none⟩ = some s ∧
    RefAt ((w2.setCell ⟨w.heap.size, 0, none⟩ (.bool (decide (z < 0)))).setCell ⟨w.heap.size, 1, none⟩ s) (.agg #[.bool (decide (z < 0)), s]) z := by
  obtain ⟨hc, _⟩ := ref_kept hb
  have c0 : w2.cell? ⟨w.heap.size, 0, none⟩ = some (.bool false) := (hc 0).trans (by simp)
  have c1 : w2.cell? ⟨w.heap.size, 1, none⟩ = some (.slice none 0 0) := (hc 1).trans (by simp)
  refine ⟨?_, ?_, _, rfl, ?_⟩
  · rw [World.cell?_setCell_other (h := show (⟨w.heap.size, 1, none⟩ : Addr) ≠ ⟨w.heap.size, 0, none⟩ by simp)]
    exact World.cell?_setCell_same' _ _ _ (by rw [c0]; rfl)
  · refine World.cell?_setCell_same' _ _ _ ?_
    rw [World.cell?_setCell_other (h := show (⟨w.heap.size, 0, none⟩ : Addr) ≠ ⟨w.heap.size, 1, none⟩ by simp), c1]; rfl
  · rcases Nat.eq_zero_or_pos (limbs z.natAbs).length with hl | hl
    · have hnil : limbs z.natAbs = [] := List.eq_nil_of_length_eq_zero hl
      rw [hnil] at hI ⊢
      rcases hI with h | ⟨b, cap, hv, hlt, h1, h2, _⟩
      · exact .inl h
      · exact .inr ⟨b, cap, hv, by simp [World.setCell]; exact hlt, h1, h2, fun j hj => by simp at hj⟩
    · obtain ⟨b, cap, hs, hlt, _, _, hcs⟩ := hI.pos hl
      have hne : s.ownBlock ≠ some w.heap.size := by
        rw [hs]; simp only [Value.ownBlock]; intro e; injection e with e; subst e
        have h0 := hcs 0 hl
        rw [c0] at h0; simp at h0
      exact (hI.setCell (p := ⟨w.heap.size, 0, none⟩) hne _).setCell (p := ⟨w.heap.size, 1, none⟩) hne _

theorem max_lo {m lo : Nat} (h : lo = m - 9) : max (0 : Int) ((m : Int) - 9) = (lo : Int) := by rw [Int.max_def]; split <;> omega
theorem refParse_at0 {t : ByteArray} (h : 0 < t.size) : t.data.toList.head? = some t[0] := by
  have h1 : 0 < t.data.toList.length := by simpa using h
  rw [List.head?_eq_getElem?, List.getElem?_eq_getElem h1]; rfl

set_option maxHeartbeats 4000000 in
set_option maxRecDepth 100000 in
/-- .. of digits t behind a sign. -/
theorem refParse_neg (s t : ByteArray) (l : List UInt8) (w : World) (hs : s.size ≤ 9000000) (hs0 : 0 < s.size) (h45 : s[0].toNat = 45) (hext : s.extract 1 s.size = t) (htl : t.data.toList = digitsOf l) (hm : minus l = true) :
    Calls Tryz.prog 45 #[.string s] w fun e w' => ∃ v, e = .returned (.tuple #[v, .bool (parseZ l).isSome]) ∧ RefAt w' v ((parseZ l).getD 0) ∧ Below w.heap.size w w' := by
  obtain ⟨i0, hi0, hz0, hz1, hz2⟩ := info_parts Tryz.info3
  have hb0 : Below w.heap.size w (w.alloc (.cells #[.bool false, .slice none 0 0] 105)) := (Below.refl _ _).alloc (Nat.le_refl _) _
  have hts : t.size ≤ 9000000 := by rw [← hext, ByteArray.size_extract]; omega
  have HSZ : Hid (t.data.toList.length = t.size) := by show _ = _; simp
  have hb45 : ((s[0].toNat : Int) == 45) = true := by simp; omega
  by_cases h0 : t.size = 0
  · have HP : Hid (parseZ l = none) := parse_no (.inl (by rw [← htl]; exact List.eq_nil_of_length_eq_zero (by rw [HSZ.out]; exact h0)))
    have h0b : ((t.size : Int) == 0) = true := by rw [beq_iff_eq]; omega
    clear htl hm h45
    go_enter Tryz.func45, Tryz.ntmps45
    go_wp2
    all_goals exact bodyPost_ret (v := .tuple #[.agg #[.bool false, .slice none 0 0], .bool false]) (by simp [results, Tryz.results45, go_sem]) rfl ⟨_, by rw [HP.out]; rfl, by rw [HP.out]; exact refAt_zero _, hb0⟩
  · have hp : 0 < t.size := by omega
    have h0b : ((t.size : Int) == 0) = false := by rw [beq_eq_false_iff_ne]; omega
    have hhd := refParse_at0 hp
    by_cases h48 : t[0].toNat = 48
    · have HP : Hid (parseZ l = none) := parse_no (.inr (.inl ⟨by rw [← htl, hhd, show t[0] = 48 from UInt8.toNat_inj.1 (by rw [h48]; rfl)], .inr hm⟩))
      have h48b : ((t[0].toNat : Int) == 48) = true := by simp; omega
      clear htl hm h45 hhd
      go_enter Tryz.func45, Tryz.ntmps45
      go_wp2
      all_goals exact bodyPost_ret (v := .tuple #[.agg #[.bool false, .slice none 0 0], .bool false]) (by simp [results, Tryz.results45, go_sem]) rfl ⟨_, by rw [HP.out]; rfl, by rw [HP.out]; exact refAt_zero _, hb0⟩
    · have h48b : ((t[0].toNat : Int) == 48) = false := by rw [beq_eq_false_iff_ne]; omega
      have HNo : Hid (t.data.toList.all isDig = false → parseZ l = none) := fun h => parse_no (.inr (.inr (by rw [← htl]; exact h)))
      have HYes : Hid (t.data.toList.all isDig = true → parseZ l = some (sg true (dval t.data.toList))) := fun h => by
        rw [htl, ← hm]
        refine parse_yes (fun e => ?_) (fun e => ?_) (by rw [← htl]; exact h)
        · rw [← htl] at e; rw [e] at hhd; simp at hhd
        · rw [← htl, hhd] at e; injection e with e; exact absurd (by rw [e]; rfl) h48
      clear htl hm h45 hhd
      go_enter Tryz.func45, Tryz.ntmps45
      go_wp2
      go_loop [6] (fun iv => ∃ k : Nat, k ≤ t.size ∧ iv = .int .i64 (k : Int) ∧ Hid ((t.data.toList.take k).all isDig = true)) (fun iv => t.size - (intOf iv).toNat)
      case atStart => exact ⟨0, Nat.zero_le _, rfl, rfl⟩
      case round =>
        obtain ⟨k, hk, rfl, hH⟩ := hrel
        by_cases hlt : k < t.size
        · have h1 := take_snoc t k hlt
          by_cases hd : 48 ≤ t[k].toNat ∧ t[k].toNat ≤ 57
          · have HX : Hid ((t.data.toList.take (k + 1)).all isDig = true) := by
              show _ = _; rw [h1, List.all_append, hH.out]; simpa [isDig] using hd
            obtain ⟨hd1, hd2⟩ := hd
            clear h1 hH
            go_wp2
            go_round
            case rel => exact ⟨k + 1, by omega, by go_num, HX.out⟩
            case measure => simp [intOf]; omega
          · have HP : Hid (parseZ l = none) := by
              refine HNo.out ?_
              rw [List.all_eq_false]
              exact ⟨t[k], by show t.data.toList[k]'_ ∈ _; exact List.getElem_mem _, by simpa [isDig] using hd⟩
            clear h1 hH HNo HYes
            go_wp2
            all_goals exact bodyPost_ret (v := .tuple #[.agg #[.bool false, .slice none 0 0], .bool false]) (by simp [results, Tryz.results45, go_sem]) rfl ⟨_, by rw [HP.out]; rfl, by rw [HP.out]; exact refAt_zero _, hb0⟩
        · have hda : t.data.toList.all isDig = true := by
            have e : t.data.toList.take k = t.data.toList := List.take_of_length_le (by simp; omega)
            have := hH.out; rw [e] at this; exact this
          have HP : Hid (parseZ l = some (sg true (dval t.data.toList))) := HYes.out hda
          clear hH HNo HYes
          go_wp2
          go_loopw [7, 8] (fun lv ev wr => ∃ (e : Int) (k : Nat) (lim : List Nat), ev = .int .i64 e ∧ e = (t.size : Int) - 9 * (k : Int) ∧ Hid (lim.length = k) ∧ (∀ d ∈ lim, d < 1000000000) ∧ Hid (Bn.val lim = dval (t.data.toList.drop e.toNat)) ∧
              wr.ownsRow (w.heap.size + 1) 3 1 lv lim.length (cellsOf lim) ∧ Below (w.heap.size + 1) (w.alloc (.cells #[.bool false, .slice none 0 0] 105)) wr) (fun _ ev _ => (intOf ev).toNat)
          case atStart =>
            refine ⟨t.size, 0, [], rfl, by simp, rfl, by simp, ?_, World.ownsRow_nil _ _ _ _, Below.refl _ _⟩
            show _ = _
            rw [show ((t.size : Int)).toNat = t.data.toList.length from by rw [HSZ.out]; simp, List.drop_length]; rfl
          case round =>
            obtain ⟨e, k, lim, rfl, he, hkl, hlt, hv, hown, hbel⟩ := hrel
            have hsw : w.heap.size + 1 ≤ wr.heap.size := by have := hbel.size; simpa using this
            by_cases hpos : 0 < e
            · obtain ⟨m, rfl⟩ := Int.eq_ofNat_of_zero_le (Int.le_of_lt hpos)
              have HM : Hid (m + 9 * k = t.data.toList.length) := by show _ = _; rw [HSZ.out]; omega
              have hms : m ≤ t.size := by omega
              clear he
              have hkb : lim.length ≤ 1000000000 := by have := HM.out; have := hkl.out; rw [HSZ.out] at *; omega
              obtain ⟨lo, hlo⟩ : ∃ lo, lo = m - 9 := ⟨_, rfl⟩
              have hlom : lo ≤ m := by omega
              have hm9 : m ≤ lo + 9 := by omega
              have HV : Hid (∀ G, G = dval ((t.data.toList.take m).drop lo) → Bn.val (lim ++ [G]) = dval (t.data.toList.drop ((m : Int) - 9).toNat)) := by
                intro G hG
                rw [hG, show ((m : Int) - 9).toNat = lo from by omega]
                exact group_step HM.out hlom hkl.out hv.out
              have HLO : Hid (lo = m - 9) := hlo
              clear hlo hv
              go_wp2
              go_loop [9, 10] (fun dv iv => ∃ (i x : Nat) (i' : Int), iv = .int .i64 i' ∧ i' = (i : Int) ∧ lo ≤ i ∧ i ≤ m ∧ dv = .int .i64 (x : Int) ∧ Hid (x = dval ((t.data.toList.take i).drop lo))) (fun _ iv => m - (intOf iv).toNat)
              case atStart => exact ⟨lo, 0, _, rfl, max_lo HLO.out, Nat.le_refl _, by omega, rfl, by show _ = _; rw [List.drop_eq_nil_of_le (by rw [List.length_take]; omega)]; rfl⟩
              case round =>
                obtain ⟨i, x, i', rfl, rfl, hi1, hi2, rfl, hx⟩ := hrel
                by_cases him : i < m
                · have hit : i < t.size := by omega
                  have hitI : (i : Int) < (t.size : Int) := by omega
                  have h1 := take_snoc t i hit
                  have h2 : isDig t[i] = true := List.all_eq_true.1 hda (t[i]) (by show t.data.toList[i]'_ ∈ _; exact List.getElem_mem _)
                  have h3 : 48 ≤ t[i].toNat ∧ t[i].toNat ≤ 57 := by simpa [isDig] using h2
                  have HX : Hid (10 * x + (t[i].toNat - 48) = dval ((t.data.toList.take (i + 1)).drop lo)) := by
                    show _ = _
                    rw [h1, List.drop_append_of_le_length (by rw [List.length_take, HSZ.out]; omega), dval_snoc, ← hx.out]
                  have h4 : x < 100000000 := by
                    rw [hx.out]
                    have h5 := dval_lt _ (all_drop hda i lo)
                    have h6 : ((t.data.toList.take i).drop lo).length ≤ 8 := by rw [List.length_drop, List.length_take]; omega
                    have h7 : 10 ^ ((t.data.toList.take i).drop lo).length ≤ 10 ^ 8 := Nat.pow_le_pow_right (by decide) h6
                    omega
                  clear h1 h2 hx
                  go_wp2
                  go_round
                  case rel => exact ⟨i + 1, 10 * x + (t[i].toNat - 48), _, rfl, by omega, by omega, by omega, by go_num, HX.out⟩
                  case measure => simp [intOf]; omega
                · obtain rfl : i = m := by omega
                  have hG : x < 1000000000 := by
                    rw [hx.out]
                    have h5 := dval_lt _ (all_drop hda i lo)
                    have h6 : ((t.data.toList.take i).drop lo).length ≤ 9 := by rw [List.length_drop, List.length_take]; omega
                    have h7 : 10 ^ ((t.data.toList.take i).drop lo).length ≤ 10 ^ 9 := Nat.pow_le_pow_right (by decide) h6
                    omega
                  have HVx : Hid _ := HV.out x hx.out
                  go_wp2_with (at_builtin; refine append_one wr rfl _ _ 45 rfl (w.heap.size + 1) 3 i0 .i64 8 Tryz.underlying45 hi0 hz0 hz1 hz2 _ _ _ (by rfl) hown _ _ rfl (by rfl) (by omega) (by decide) hsw ?_; intro v' w1 hown1 hgrow)
                  have hR := parse_row_rel hown hbel hown1 hgrow
                  have hlt' := lt_snoc hlt hG
                  clear hown1 hgrow hown hbel
                  go_roundw
                  case rel => exact ⟨(i : Int) - 9, k + 1, lim ++ [x], by go_num, by have := HM.out; rw [HSZ.out] at this; omega, by show _ = _; rw [List.length_append, hkl.out]; rfl, hlt', HVx.out, hR.1, hR.2⟩
                  case measure => simp [intOf]; omega
            · have he0 : e.toNat = 0 := by omega
              rw [he0] at hv
              have hI := IntsAt.of_owns hown
              obtain ⟨pa, ca, hpv, _⟩ := hI.form
              subst hpv
              clear hown
              go_wp2_with fail
              refine (refMade_any true lim _ _ hI hlt).mono ?_
              rintro e w2 ⟨r, rfl, hR, hb2⟩
              rw [hv.out, List.drop_zero] at hR
              generalize sg true (dval t.data.toList) = z at *
              have hb3 : Below (w.heap.size + 1) (w.alloc (.cells #[.bool false, .slice none 0 0] 105)) w2 := hbel.trans (hb2.mono hsw)
              obtain ⟨hn0, hn1⟩ := ref_kept hb3
              obtain ⟨sr, hrr, hRi⟩ := hR
              obtain ⟨pb, cb, hsb, _⟩ := hRi.form
              subst hsb hrr
              have hfin : Below w.heap.size w w2 := hb0.trans (hb3.mono (Nat.le_succ _))
              have HR : Hid _ := ref_box hb3 hRi
              clear hI hb2 hb3 hRi hbel
              go_wp2
              obtain ⟨m0, m1, m2⟩ := HR.out
              exact bodyPost_ret (v := .tuple #[.agg #[.bool (decide (z < 0)), .slice pb (limbs z.natAbs).length cb], .bool true]) (by simp [results, Tryz.results45, go_sem, m0, m1]) rfl ⟨_, by rw [HP.out]; rfl, by rw [HP.out]; exact m2, (hfin.setCell (by simp) _).setCell (by simp) _⟩

set_option maxHeartbeats 4000000 in
set_option maxRecDepth 100000 in
/-- .. of digits alone. -/
theorem refParse_pos (t : ByteArray) (l : List UInt8) (w : World) (hts : t.size ≤ 9000000) (hp : 0 < t.size) (h45 : ¬ t[0].toNat = 45) (htl : t.data.toList = digitsOf l) (hm : minus l = false) :
    Calls Tryz.prog 45 #[.string t] w fun e w' => ∃ v, e = .returned (.tuple #[v, .bool (parseZ l).isSome]) ∧ RefAt w' v ((parseZ l).getD 0) ∧ Below w.heap.size w w' := by
  obtain ⟨i0, hi0, hz0, hz1, hz2⟩ := info_parts Tryz.info3
  have hb0 : Below w.heap.size w (w.alloc (.cells #[.bool false, .slice none 0 0] 105)) := (Below.refl _ _).alloc (Nat.le_refl _) _
  have HSZ : Hid (t.data.toList.length = t.size) := by show _ = _; simp
  have hb45 : ((t[0].toNat : Int) == 45) = false := by rw [beq_eq_false_iff_ne]; omega
  have h0b : ((t.size : Int) == 0) = false := by rw [beq_eq_false_iff_ne]; omega
  have hhd := refParse_at0 hp
  by_cases h48 : t[0].toNat = 48
  · have h48b : ((t[0].toNat : Int) == 48) = true := by simp; omega
    by_cases h1 : 1 < t.size
    · have HP : Hid (parseZ l = none) := parse_no (.inr (.inl ⟨by rw [← htl, hhd, show t[0] = 48 from UInt8.toNat_inj.1 (by rw [h48]; rfl)], .inl (by rw [← htl, HSZ.out]; exact h1)⟩))
      clear htl hm h45 hhd
      go_enter Tryz.func45, Tryz.ntmps45
      go_wp2
      all_goals exact bodyPost_ret (v := .tuple #[.agg #[.bool false, .slice none 0 0], .bool false]) (by simp [results, Tryz.results45, go_sem]) rfl ⟨_, by rw [HP.out]; rfl, by rw [HP.out]; exact refAt_zero _, hb0⟩
    · have HNo : Hid (t.data.toList.all isDig = false → parseZ l = none) := fun h => parse_no (.inr (.inr (by rw [← htl]; exact h)))
      have HYes : Hid (t.data.toList.all isDig = true → parseZ l = some (sg false (dval t.data.toList))) := fun h => by
        rw [htl, ← hm]
        refine parse_yes (fun e => ?_) (fun e => ⟨by rw [← htl, HSZ.out]; omega, hm⟩) (by rw [← htl]; exact h)
        · rw [← htl] at e; rw [e] at hhd; simp at hhd
      clear htl hm h45 hhd
      go_enter Tryz.func45, Tryz.ntmps45
      go_wp2
      go_loop [6] (fun iv => ∃ k : Nat, k ≤ t.size ∧ iv = .int .i64 (k : Int) ∧ Hid ((t.data.toList.take k).all isDig = true)) (fun iv => t.size - (intOf iv).toNat)
      case atStart => exact ⟨0, Nat.zero_le _, rfl, rfl⟩
      case round =>
        obtain ⟨k, hk, rfl, hH⟩ := hrel
        by_cases hlt : k < t.size
        · have h1 := take_snoc t k hlt
          by_cases hd : 48 ≤ t[k].toNat ∧ t[k].toNat ≤ 57
          · have HX : Hid ((t.data.toList.take (k + 1)).all isDig = true) := by
              show _ = _; rw [h1, List.all_append, hH.out]; simpa [isDig] using hd
            obtain ⟨hd1, hd2⟩ := hd
            clear h1 hH
            go_wp2
            go_round
            case rel => exact ⟨k + 1, by omega, by go_num, HX.out⟩
            case measure => simp [intOf]; omega
          · have HP : Hid (parseZ l = none) := by
              refine HNo.out ?_
              rw [List.all_eq_false]
              exact ⟨t[k], by show t.data.toList[k]'_ ∈ _; exact List.getElem_mem _, by simpa [isDig] using hd⟩
            clear h1 hH HNo HYes
            go_wp2
            all_goals exact bodyPost_ret (v := .tuple #[.agg #[.bool false, .slice none 0 0], .bool false]) (by simp [results, Tryz.results45, go_sem]) rfl ⟨_, by rw [HP.out]; rfl, by rw [HP.out]; exact refAt_zero _, hb0⟩
        · have hda : t.data.toList.all isDig = true := by
            have e : t.data.toList.take k = t.data.toList := List.take_of_length_le (by simp; omega)
            have := hH.out; rw [e] at this; exact this
          have HP : Hid (parseZ l = some (sg false (dval t.data.toList))) := HYes.out hda
          clear hH HNo HYes
          go_wp2
          go_loopw [7, 8] (fun lv ev wr => ∃ (e : Int) (k : Nat) (lim : List Nat), ev = .int .i64 e ∧ e = (t.size : Int) - 9 * (k : Int) ∧ Hid (lim.length = k) ∧ (∀ d ∈ lim, d < 1000000000) ∧ Hid (Bn.val lim = dval (t.data.toList.drop e.toNat)) ∧
              wr.ownsRow (w.heap.size + 1) 3 1 lv lim.length (cellsOf lim) ∧ Below (w.heap.size + 1) (w.alloc (.cells #[.bool false, .slice none 0 0] 105)) wr) (fun _ ev _ => (intOf ev).toNat)
          case atStart =>
            refine ⟨t.size, 0, [], rfl, by simp, rfl, by simp, ?_, World.ownsRow_nil _ _ _ _, Below.refl _ _⟩
            show _ = _
            rw [show ((t.size : Int)).toNat = t.data.toList.length from by rw [HSZ.out]; simp, List.drop_length]; rfl
          case round =>
            obtain ⟨e, k, lim, rfl, he, hkl, hlt, hv, hown, hbel⟩ := hrel
            have hsw : w.heap.size + 1 ≤ wr.heap.size := by have := hbel.size; simpa using this
            by_cases hpos : 0 < e
            · obtain ⟨m, rfl⟩ := Int.eq_ofNat_of_zero_le (Int.le_of_lt hpos)
              have HM : Hid (m + 9 * k = t.data.toList.length) := by show _ = _; rw [HSZ.out]; omega
              have hms : m ≤ t.size := by omega
              clear he
              have hkb : lim.length ≤ 1000000000 := by have := HM.out; have := hkl.out; rw [HSZ.out] at *; omega
              obtain ⟨lo, hlo⟩ : ∃ lo, lo = m - 9 := ⟨_, rfl⟩
              have hlom : lo ≤ m := by omega
              have hm9 : m ≤ lo + 9 := by omega
              have HV : Hid (∀ G, G = dval ((t.data.toList.take m).drop lo) → Bn.val (lim ++ [G]) = dval (t.data.toList.drop ((m : Int) - 9).toNat)) := by
                intro G hG
                rw [hG, show ((m : Int) - 9).toNat = lo from by omega]
                exact group_step HM.out hlom hkl.out hv.out
              have HLO : Hid (lo = m - 9) := hlo
              clear hlo hv
              go_wp2
              go_loop [9, 10] (fun dv iv => ∃ (i x : Nat) (i' : Int), iv = .int .i64 i' ∧ i' = (i : Int) ∧ lo ≤ i ∧ i ≤ m ∧ dv = .int .i64 (x : Int) ∧ Hid (x = dval ((t.data.toList.take i).drop lo))) (fun _ iv => m - (intOf iv).toNat)
              case atStart => exact ⟨lo, 0, _, rfl, max_lo HLO.out, Nat.le_refl _, by omega, rfl, by show _ = _; rw [List.drop_eq_nil_of_le (by rw [List.length_take]; omega)]; rfl⟩
              case round =>
                obtain ⟨i, x, i', rfl, rfl, hi1, hi2, rfl, hx⟩ := hrel
                by_cases him : i < m
                · have hit : i < t.size := by omega
                  have hitI : (i : Int) < (t.size : Int) := by omega
                  have h1 := take_snoc t i hit
                  have h2 : isDig t[i] = true := List.all_eq_true.1 hda (t[i]) (by show t.data.toList[i]'_ ∈ _; exact List.getElem_mem _)
                  have h3 : 48 ≤ t[i].toNat ∧ t[i].toNat ≤ 57 := by simpa [isDig] using h2
                  have HX : Hid (10 * x + (t[i].toNat - 48) = dval ((t.data.toList.take (i + 1)).drop lo)) := by
                    show _ = _
                    rw [h1, List.drop_append_of_le_length (by rw [List.length_take, HSZ.out]; omega), dval_snoc, ← hx.out]
                  have h4 : x < 100000000 := by
                    rw [hx.out]
                    have h5 := dval_lt _ (all_drop hda i lo)
                    have h6 : ((t.data.toList.take i).drop lo).length ≤ 8 := by rw [List.length_drop, List.length_take]; omega
                    have h7 : 10 ^ ((t.data.toList.take i).drop lo).length ≤ 10 ^ 8 := Nat.pow_le_pow_right (by decide) h6
                    omega
                  clear h1 h2 hx
                  go_wp2
                  go_round
                  case rel => exact ⟨i + 1, 10 * x + (t[i].toNat - 48), _, rfl, by omega, by omega, by omega, by go_num, HX.out⟩
                  case measure => simp [intOf]; omega
                · obtain rfl : i = m := by omega
                  have hG : x < 1000000000 := by
                    rw [hx.out]
                    have h5 := dval_lt _ (all_drop hda i lo)
                    have h6 : ((t.data.toList.take i).drop lo).length ≤ 9 := by rw [List.length_drop, List.length_take]; omega
                    have h7 : 10 ^ ((t.data.toList.take i).drop lo).length ≤ 10 ^ 9 := Nat.pow_le_pow_right (by decide) h6
                    omega
                  have HVx : Hid _ := HV.out x hx.out
                  go_wp2_with (at_builtin; refine append_one wr rfl _ _ 45 rfl (w.heap.size + 1) 3 i0 .i64 8 Tryz.underlying45 hi0 hz0 hz1 hz2 _ _ _ (by rfl) hown _ _ rfl (by rfl) (by omega) (by decide) hsw ?_; intro v' w1 hown1 hgrow)
                  have hR := parse_row_rel hown hbel hown1 hgrow
                  have hlt' := lt_snoc hlt hG
                  clear hown1 hgrow hown hbel
                  go_roundw
                  case rel => exact ⟨(i : Int) - 9, k + 1, lim ++ [x], by go_num, by have := HM.out; rw [HSZ.out] at this; omega, by show _ = _; rw [List.length_append, hkl.out]; rfl, hlt', HVx.out, hR.1, hR.2⟩
                  case measure => simp [intOf]; omega
            · have he0 : e.toNat = 0 := by omega
              rw [he0] at hv
              have hI := IntsAt.of_owns hown
              obtain ⟨pa, ca, hpv, _⟩ := hI.form
              subst hpv
              clear hown
              go_wp2_with fail
              refine (refMade_any false lim _ _ hI hlt).mono ?_
              rintro e w2 ⟨r, rfl, hR, hb2⟩
              rw [hv.out, List.drop_zero] at hR
              generalize sg false (dval t.data.toList) = z at *
              have hb3 : Below (w.heap.size + 1) (w.alloc (.cells #[.bool false, .slice none 0 0] 105)) w2 := hbel.trans (hb2.mono hsw)
              obtain ⟨hn0, hn1⟩ := ref_kept hb3
              obtain ⟨sr, hrr, hRi⟩ := hR
              obtain ⟨pb, cb, hsb, _⟩ := hRi.form
              subst hsb hrr
              have hfin : Below w.heap.size w w2 := hb0.trans (hb3.mono (Nat.le_succ _))
              have HR : Hid _ := ref_box hb3 hRi
              clear hI hb2 hb3 hRi hbel
              go_wp2
              obtain ⟨m0, m1, m2⟩ := HR.out
              exact bodyPost_ret (v := .tuple #[.agg #[.bool (decide (z < 0)), .slice pb (limbs z.natAbs).length cb], .bool true]) (by simp [results, Tryz.results45, go_sem, m0, m1]) rfl ⟨_, by rw [HP.out]; rfl, by rw [HP.out]; exact m2, (hfin.setCell (by simp) _).setCell (by simp) _⟩
  · have h48b : ((t[0].toNat : Int) == 48) = false := by rw [beq_eq_false_iff_ne]; omega
    have HNo : Hid (t.data.toList.all isDig = false → parseZ l = none) := fun h => parse_no (.inr (.inr (by rw [← htl]; exact h)))
    have HYes : Hid (t.data.toList.all isDig = true → parseZ l = some (sg false (dval t.data.toList))) := fun h => by
      rw [htl, ← hm]
      refine parse_yes (fun e => ?_) (fun e => ?_) (by rw [← htl]; exact h)
      · rw [← htl] at e; rw [e] at hhd; simp at hhd
      · rw [← htl, hhd] at e; injection e with e; exact absurd (by rw [e]; rfl) h48
    clear htl hm h45 hhd
    go_enter Tryz.func45, Tryz.ntmps45
    go_wp2
    go_loop [6] (fun iv => ∃ k : Nat, k ≤ t.size ∧ iv = .int .i64 (k : Int) ∧ Hid ((t.data.toList.take k).all isDig = true)) (fun iv => t.size - (intOf iv).toNat)
    case atStart => exact ⟨0, Nat.zero_le _, rfl, rfl⟩
    case round =>
      obtain ⟨k, hk, rfl, hH⟩ := hrel
      by_cases hlt : k < t.size
      · have h1 := take_snoc t k hlt
        by_cases hd : 48 ≤ t[k].toNat ∧ t[k].toNat ≤ 57
        · have HX : Hid ((t.data.toList.take (k + 1)).all isDig = true) := by
            show _ = _; rw [h1, List.all_append, hH.out]; simpa [isDig] using hd
          obtain ⟨hd1, hd2⟩ := hd
          clear h1 hH
          go_wp2
          go_round
          case rel => exact ⟨k + 1, by omega, by go_num, HX.out⟩
          case measure => simp [intOf]; omega
        · have HP : Hid (parseZ l = none) := by
            refine HNo.out ?_
            rw [List.all_eq_false]
            exact ⟨t[k], by show t.data.toList[k]'_ ∈ _; exact List.getElem_mem _, by simpa [isDig] using hd⟩
          clear h1 hH HNo HYes
          go_wp2
          all_goals exact bodyPost_ret (v := .tuple #[.agg #[.bool false, .slice none 0 0], .bool false]) (by simp [results, Tryz.results45, go_sem]) rfl ⟨_, by rw [HP.out]; rfl, by rw [HP.out]; exact refAt_zero _, hb0⟩
      · have hda : t.data.toList.all isDig = true := by
          have e : t.data.toList.take k = t.data.toList := List.take_of_length_le (by simp; omega)
          have := hH.out; rw [e] at this; exact this
        have HP : Hid (parseZ l = some (sg false (dval t.data.toList))) := HYes.out hda
        clear hH HNo HYes
        go_wp2
        go_loopw [7, 8] (fun lv ev wr => ∃ (e : Int) (k : Nat) (lim : List Nat), ev = .int .i64 e ∧ e = (t.size : Int) - 9 * (k : Int) ∧ Hid (lim.length = k) ∧ (∀ d ∈ lim, d < 1000000000) ∧ Hid (Bn.val lim = dval (t.data.toList.drop e.toNat)) ∧
            wr.ownsRow (w.heap.size + 1) 3 1 lv lim.length (cellsOf lim) ∧ Below (w.heap.size + 1) (w.alloc (.cells #[.bool false, .slice none 0 0] 105)) wr) (fun _ ev _ => (intOf ev).toNat)
        case atStart =>
          refine ⟨t.size, 0, [], rfl, by simp, rfl, by simp, ?_, World.ownsRow_nil _ _ _ _, Below.refl _ _⟩
          show _ = _
          rw [show ((t.size : Int)).toNat = t.data.toList.length from by rw [HSZ.out]; simp, List.drop_length]; rfl
        case round =>
          obtain ⟨e, k, lim, rfl, he, hkl, hlt, hv, hown, hbel⟩ := hrel
          have hsw : w.heap.size + 1 ≤ wr.heap.size := by have := hbel.size; simpa using this
          by_cases hpos : 0 < e
          · obtain ⟨m, rfl⟩ := Int.eq_ofNat_of_zero_le (Int.le_of_lt hpos)
            have HM : Hid (m + 9 * k = t.data.toList.length) := by show _ = _; rw [HSZ.out]; omega
            have hms : m ≤ t.size := by omega
            clear he
            have hkb : lim.length ≤ 1000000000 := by have := HM.out; have := hkl.out; rw [HSZ.out] at *; omega
            obtain ⟨lo, hlo⟩ : ∃ lo, lo = m - 9 := ⟨_, rfl⟩
            have hlom : lo ≤ m := by omega
            have hm9 : m ≤ lo + 9 := by omega
            have HV : Hid (∀ G, G = dval ((t.data.toList.take m).drop lo) → Bn.val (lim ++ [G]) = dval (t.data.toList.drop ((m : Int) - 9).toNat)) := by
              intro G hG
              rw [hG, show ((m : Int) - 9).toNat = lo from by omega]
              exact group_step HM.out hlom hkl.out hv.out
            have HLO : Hid (lo = m - 9) := hlo
            clear hlo hv
            go_wp2
            go_loop [9, 10] (fun dv iv => ∃ (i x : Nat) (i' : Int), iv = .int .i64 i' ∧ i' = (i : Int) ∧ lo ≤ i ∧ i ≤ m ∧ dv = .int .i64 (x : Int) ∧ Hid (x = dval ((t.data.toList.take i).drop lo))) (fun _ iv => m - (intOf iv).toNat)
            case atStart => exact ⟨lo, 0, _, rfl, max_lo HLO.out, Nat.le_refl _, by omega, rfl, by show _ = _; rw [List.drop_eq_nil_of_le (by rw [List.length_take]; omega)]; rfl⟩
            case round =>
              obtain ⟨i, x, i', rfl, rfl, hi1, hi2, rfl, hx⟩ := hrel
              by_cases him : i < m
              · have hit : i < t.size := by omega
                have hitI : (i : Int) < (t.size : Int) := by omega
                have h1 := take_snoc t i hit
                have h2 : isDig t[i] = true := List.all_eq_true.1 hda (t[i]) (by show t.data.toList[i]'_ ∈ _; exact List.getElem_mem _)
                have h3 : 48 ≤ t[i].toNat ∧ t[i].toNat ≤ 57 := by simpa [isDig] using h2
                have HX : Hid (10 * x + (t[i].toNat - 48) = dval ((t.data.toList.take (i + 1)).drop lo)) := by
                  show _ = _
                  rw [h1, List.drop_append_of_le_length (by rw [List.length_take, HSZ.out]; omega), dval_snoc, ← hx.out]
                have h4 : x < 100000000 := by
                  rw [hx.out]
                  have h5 := dval_lt _ (all_drop hda i lo)
                  have h6 : ((t.data.toList.take i).drop lo).length ≤ 8 := by rw [List.length_drop, List.length_take]; omega
                  have h7 : 10 ^ ((t.data.toList.take i).drop lo).length ≤ 10 ^ 8 := Nat.pow_le_pow_right (by decide) h6
                  omega
                clear h1 h2 hx
                go_wp2
                go_round
                case rel => exact ⟨i + 1, 10 * x + (t[i].toNat - 48), _, rfl, by omega, by omega, by omega, by go_num, HX.out⟩
                case measure => simp [intOf]; omega
              · obtain rfl : i = m := by omega
                have hG : x < 1000000000 := by
                  rw [hx.out]
                  have h5 := dval_lt _ (all_drop hda i lo)
                  have h6 : ((t.data.toList.take i).drop lo).length ≤ 9 := by rw [List.length_drop, List.length_take]; omega
                  have h7 : 10 ^ ((t.data.toList.take i).drop lo).length ≤ 10 ^ 9 := Nat.pow_le_pow_right (by decide) h6
                  omega
                have HVx : Hid _ := HV.out x hx.out
                go_wp2_with (at_builtin; refine append_one wr rfl _ _ 45 rfl (w.heap.size + 1) 3 i0 .i64 8 Tryz.underlying45 hi0 hz0 hz1 hz2 _ _ _ (by rfl) hown _ _ rfl (by rfl) (by omega) (by decide) hsw ?_; intro v' w1 hown1 hgrow)
                have hR := parse_row_rel hown hbel hown1 hgrow
                have hlt' := lt_snoc hlt hG
                clear hown1 hgrow hown hbel
                go_roundw
                case rel => exact ⟨(i : Int) - 9, k + 1, lim ++ [x], by go_num, by have := HM.out; rw [HSZ.out] at this; omega, by show _ = _; rw [List.length_append, hkl.out]; rfl, hlt', HVx.out, hR.1, hR.2⟩
                case measure => simp [intOf]; omega
          · have he0 : e.toNat = 0 := by omega
            rw [he0] at hv
            have hI := IntsAt.of_owns hown
            obtain ⟨pa, ca, hpv, _⟩ := hI.form
            subst hpv
            clear hown
            go_wp2_with fail
            refine (refMade_any false lim _ _ hI hlt).mono ?_
            rintro e w2 ⟨r, rfl, hR, hb2⟩
            rw [hv.out, List.drop_zero] at hR
            generalize sg false (dval t.data.toList) = z at *
            have hb3 : Below (w.heap.size + 1) (w.alloc (.cells #[.bool false, .slice none 0 0] 105)) w2 := hbel.trans (hb2.mono hsw)
            obtain ⟨hn0, hn1⟩ := ref_kept hb3
            obtain ⟨sr, hrr, hRi⟩ := hR
            obtain ⟨pb, cb, hsb, _⟩ := hRi.form
            subst hsb hrr
            have hfin : Below w.heap.size w w2 := hb0.trans (hb3.mono (Nat.le_succ _))
            have HR : Hid _ := ref_box hb3 hRi
            clear hI hb2 hb3 hRi hbel
            go_wp2
            obtain ⟨m0, m1, m2⟩ := HR.out
            exact bodyPost_ret (v := .tuple #[.agg #[.bool (decide (z < 0)), .slice pb (limbs z.natAbs).length cb], .bool true]) (by simp [results, Tryz.results45, go_sem, m0, m1]) rfl ⟨_, by rw [HP.out]; rfl, by rw [HP.out]; exact m2, (hfin.setCell (by simp) _).setCell (by simp) _⟩

end Go.Proofs.YtgckmkdmlaocmaaGreatDoor
