/-
  Package big: takeTimes and giveBack, in place.
-/
import Derived.Test.YtangepgiamhenaaDoorSub
namespace Go.Proofs.YtangepgiamhenaaDoor
open Go.RowKit
open Bn (limbs)

/-- Nothing but the n cells of block bk from off on is other. -/
def Wrote (bk off n : Nat) (w w' : World) : Prop :=
  w'.heap.size = w.heap.size ∧ (∀ k, k ≠ bk → w'.heap[k]? = w.heap[k]?) ∧ (∀ p, p < off ∨ off + n ≤ p → w'.cell? ⟨bk, p, none⟩ = w.cell? ⟨bk, p, none⟩ ∧ w'.frozen? ⟨bk, p, none⟩ = w.frozen? ⟨bk, p, none⟩) ∧ Below bk w w'

theorem Wrote.refl (bk off n : Nat) (w : World) : Wrote bk off n w w := ⟨rfl, fun _ _ => rfl, fun _ _ => ⟨rfl, rfl⟩, Below.refl _ _⟩
theorem Wrote.set {bk off n j : Nat} {w w' : World} (h : Wrote bk off n w w') (hj : j < n) (u : Value) : Wrote bk off n w (w'.setCell ⟨bk, off + j, none⟩ u) := by
  obtain ⟨h1, h2, h3, h4⟩ := h
  refine ⟨by simpa [World.setCell] using h1, fun k hk => (Below.heap_setCell w' ⟨bk, off + j, none⟩ u k hk).trans (h2 k hk), fun p hp => ?_, h4.setCell (p := ⟨bk, off + j, none⟩) (Nat.le_refl _) _⟩
  obtain ⟨c1, c2⟩ := h3 p hp
  exact ⟨(World.cell?_setCell_other (h := show (⟨bk, off + j, none⟩ : Addr) ≠ ⟨bk, p, none⟩ from fun e => by injection e with _ e1 _; omega) ..).trans c1, (World.frozen?_setCell ..).trans c2⟩
theorem Wrote.drew {bk off n : Nat} {w w' : World} (h : Wrote bk off n w w') : Wrote bk off n w w'.drew := ⟨h.1, h.2.1, h.2.2.1, h.2.2.2.drew⟩
theorem Wrote.below {bk off n : Nat} {w w' : World} (h : Wrote bk off n w w') : Below bk w w' := h.2.2.2
theorem Wrote.trans {bk off n : Nat} {w w1 w2 : World} (h : Wrote bk off n w w1) (g : Wrote bk off n w1 w2) : Wrote bk off n w w2 :=
  ⟨g.1.trans h.1, fun k hk => (g.2.1 k hk).trans (h.2.1 k hk), fun p hp => ⟨(g.2.2.1 p hp).1.trans (h.2.2.1 p hp).1, (g.2.2.1 p hp).2.trans (h.2.2.1 p hp).2⟩, h.2.2.2.trans g.2.2.2⟩
/-- A row of another block stays. -/
theorem RowAt.wrote {bk off n b o : Nat} {l : List Nat} {w w' : World} (h : RowAt w b o l) (hw : Wrote bk off n w w') (hb : b ≠ bk) : RowAt w' b o l := by
  intro j hj
  obtain ⟨h1, h2⟩ := h j hj
  have e := hw.2.1 b hb
  exact ⟨(World.cell?_of_block (a := ⟨b, o + j, none⟩) e).trans h1, (World.frozen?_of_block (a := ⟨b, o + j, none⟩) e).trans h2⟩
theorem U32At.wrote {bk off n : Nat} {v : Value} {l : List Nat} {w w' : World} (h : U32At w v l) (hw : Wrote bk off n w w') (hv : v.ownBlock ≠ some bk) : U32At w' v l := by
  rcases h with h | ⟨b, o, cap, hv', hlt, hl, hm, hc⟩
  · exact .inl h
  · have hb : b ≠ bk := fun e => hv (by rw [hv', ← e]; rfl)
    exact .inr ⟨b, o, cap, hv', by rw [hw.1]; exact hlt, hl, hm, fun j hj => (World.cell?_of_block (a := ⟨b, o + j, none⟩) (hw.2.1 b hb)).trans (hc j hj)⟩
/-- A row whose middle was written over. -/
theorem RowAt.middle {bk i : Nat} {L P' : List Nat} {w w' : World} (h : RowAt w bk 0 L) (hi : i + P'.length ≤ L.length) (hw : Wrote bk i P'.length w w') (hp : RowAt w' bk i P') : RowAt w' bk 0 (L.take i ++ P' ++ L.drop (i + P'.length)) := by
  intro j hj
  rw [Nat.zero_add]
  have hti : (L.take i).length = i := by simp; omega
  have hlen : (L.take i ++ P' ++ L.drop (i + P'.length)).length = L.length := by simp; omega
  rcases Nat.lt_or_ge j i with h1 | h1
  · obtain ⟨a, b⟩ := h j (by omega)
    rw [Nat.zero_add] at a b
    obtain ⟨c, d⟩ := hw.2.2.1 j (.inl h1)
    refine ⟨?_, d.trans b⟩
    rw [c, a]
    congr 3
    rw [List.getElem_append_left (by simp; omega), List.getElem_append_left (by omega), List.getElem_take]
  · rcases Nat.lt_or_ge j (i + P'.length) with h2 | h2
    · obtain ⟨a, b⟩ := hp (j - i) (by omega)
      rw [show i + (j - i) = j from by omega] at a b
      refine ⟨?_, b⟩
      rw [a]
      congr 3
      rw [List.getElem_append_left (by simp; omega), List.getElem_append_right (by omega)]
      congr 1; omega
    · obtain ⟨a, b⟩ := h j (by omega)
      rw [Nat.zero_add] at a b
      obtain ⟨c, d⟩ := hw.2.2.1 j (.inr h2)
      refine ⟨?_, d.trans b⟩
      rw [c, a]
      congr 3
      rw [List.getElem_append_right (by simp; omega), List.getElem_drop]
      congr 1
      simp; omega
/-- A part of a row. -/
theorem RowAt.part {bk i n : Nat} {L : List Nat} {w : World} (h : RowAt w bk 0 L) : RowAt w bk i ((L.drop i).take n) := by
  intro j hj
  have hj' : j < n ∧ i + j < L.length := by simp at hj; omega
  obtain ⟨a, b⟩ := h (i + j) hj'.2
  rw [Nat.zero_add] at a b
  refine ⟨?_, b⟩
  rw [a]
  congr 3
  rw [List.getElem_take, List.getElem_drop]

set_option maxHeartbeats 2000000 in
set_option maxRecDepth 100000 in
/-- takeTimes, and what it leaves alone. -/
theorem takeTimes_row (a b : List Nat) (t bk off cap : Nat) (vb : Value) (w : World) (ha : RowAt w bk off a) (hb : U32At w vb b) (hvb : vb.ownBlock ≠ some bk) (hda : ∀ d ∈ a, d < 1000000000) (hdb : ∀ d ∈ b, d < 1000000000)
    (ht : t ≤ 1000000000) (hl : a.length ≤ 10000000) :
    Calls Tryd.prog 78 #[.slice (some ⟨bk, off, none⟩) a.length cap, vb, .int .u64 (t : Int)] w fun e w' => e = .returned (.bool (decide (0 < (took a b t a.length).2))) ∧ RowAt w' bk off (took a b t a.length).1 ∧ Wrote bk off a.length w w' := by
  go_enter Tryd.func78, Tryd.ntmps78
  go_wp2
  go_loopw [7, 13] (fun ov iv wr => ∃ k : Nat, iv = .int .i64 (k : Int) ∧ k ≤ a.length ∧ ov = .int .u64 (((took a b t k).2 : Nat) : Int) ∧ RowAt wr bk off ((took a b t k).1 ++ a.drop k) ∧ Wrote bk off a.length w wr) (fun _ iv _ => a.length - (intOf iv).toNat)
  case atStart => exact ⟨0, rfl, Nat.zero_le _, rfl, ha, Wrote.refl _ _ _ _⟩
  case round =>
    clear ha
    obtain ⟨k, rfl, hk, rfl, hR, hbel⟩ := hrel
    by_cases hlt : k < a.length
    · have hltI : (k : Int) < (a.length : Int) := by omega
      have HC : Hid (Calls Tryd.prog 76 #[vb, .int .i64 (k : Int)] wr fun e w' => e = .returned (.int .u64 ((lAt b k : Nat) : Int)) ∧ w' = wr) := limbAt_any b k vb wr (hb.wrote hbel hvb) hdb (by omega)
      have ho := took_bound a b t hdb ht k
      have hx := lAt_lt hdb k
      have hd := lAt_lt hda k
      obtain ⟨hc1, hc2⟩ := hR k (by simp [took_length]; omega)
      rw [show (((took a b t k).1 ++ a.drop k)[k]'(by simp [took_length]; omega)) = lAt a k from by simp [took_length, lAt_get hlt]] at hc1
      obtain ⟨o, eo⟩ : ∃ o, o = (took a b t k).2 := ⟨_, rfl⟩
      obtain ⟨x, ex⟩ : ∃ x, x = lAt b k := ⟨_, rfl⟩
      obtain ⟨d, ed⟩ : ∃ d, d = lAt a k := ⟨_, rfl⟩
      obtain ⟨m, em⟩ : ∃ m, m = x * t := ⟨_, rfl⟩
      have hmul : (x : Int) * (t : Int) = (m : Int) := by rw [em]; simp
      have hm : m ≤ 1000000000000000000 := by
        rw [em]; exact Nat.le_trans (Nat.mul_le_mul (Nat.le_of_lt (ex ▸ hx)) ht) (by decide)
      have HS : Hid (took a b t (k + 1) = if d < (o + m) % 1000000000 then ((took a b t k).1 ++ [d + 1000000000 - (o + m) % 1000000000], (o + m) / 1000000000 + 1) else ((took a b t k).1 ++ [d - (o + m) % 1000000000], (o + m) / 1000000000)) := by
        show _ = _; rw [eo, em, ex, ed]; rfl
      rw [← eo] at ho
      rw [← ex] at hx HC
      rw [← ed] at hd hc1
      rw [← eo]
      have HR : Hid (RowAt wr bk off ((took a b t k).1 ++ a.drop k)) := hR
      clear eo ex ed em hR
      have HD : Hid (a.drop k = a[k] :: a.drop (k + 1)) := List.drop_eq_getElem_cons hlt
      by_cases hlo : d < (o + m) % 1000000000
      · have HS' : Hid (took a b t (k + 1) = ((took a b t k).1 ++ [d + 1000000000 - (o + m) % 1000000000], (o + m) / 1000000000 + 1)) := by
          show _ = _; rw [HS.out, if_pos hlo]
        clear HS
        go_wp2_with (go_at_call 76; refine HC.out.mono ?_; rintro e w' ⟨rfl, rfl⟩)
        go_roundw
        case rel =>
          refine ⟨k + 1, by go_num, by omega, ?_, ?_, hbel.set hlt _⟩
          · rw [HS'.out]; congr 1
          · rw [HS'.out]
            have h := HR.out
            rw [HD.out] at h
            exact h.set (took_length _ _ _ _) (by omega)
        case measure => simp [intOf]; omega
      · have HS' : Hid (took a b t (k + 1) = ((took a b t k).1 ++ [d - (o + m) % 1000000000], (o + m) / 1000000000)) := by
          show _ = _; rw [HS.out, if_neg hlo]
        clear HS
        go_wp2_with (go_at_call 76; refine HC.out.mono ?_; rintro e w' ⟨rfl, rfl⟩)
        go_roundw
        case rel =>
          refine ⟨k + 1, by go_num, by omega, ?_, ?_, hbel.set hlt _⟩
          · rw [HS'.out]; congr 1
          · rw [HS'.out]
            have h := HR.out
            rw [HD.out] at h
            exact h.set (took_length _ _ _ _) (by omega)
        case measure => simp [intOf]; omega
    · obtain rfl : k = a.length := by omega
      have hR' : RowAt wr bk off (took a b t a.length).1 := by rw [List.drop_length, List.append_nil] at hR; exact hR
      obtain ⟨o, ho⟩ : ∃ o, o = (took a b t a.length).2 := ⟨_, rfl⟩
      rw [← ho]
      have HO : Hid (o = (took a b t a.length).2) := ho
      clear hR ho
      go_wp2
      go_ret
      exact ⟨by rw [← HO.out]; simp, hR', hbel⟩


set_option maxHeartbeats 2000000 in
set_option maxRecDepth 100000 in
/-- giveBack. -/
theorem giveBack_row (a b : List Nat) (bk off cap : Nat) (vb : Value) (w : World) (ha : RowAt w bk off a) (hb : U32At w vb b) (hvb : vb.ownBlock ≠ some bk) (hda : ∀ d ∈ a, d < 1000000000) (hdb : ∀ d ∈ b, d < 1000000000)
    (hl : a.length ≤ 10000000) :
    Calls Tryd.prog 96 #[.slice (some ⟨bk, off, none⟩) a.length cap, vb] w fun e w' => e = .returned (.tuple #[]) ∧ RowAt w' bk off (told (fun p => lAt a p + lAt b p) a.length).1 ∧ Wrote bk off a.length w w' := by
  go_enter Tryd.func96, Tryd.ntmps96
  go_wp2
  go_loopw [4, 10] (fun cv iv wr => ∃ k : Nat, iv = .int .i64 (k : Int) ∧ k ≤ a.length ∧ cv = .int .u64 (((told (fun p => lAt a p + lAt b p) k).2 : Nat) : Int) ∧ RowAt wr bk off ((told (fun p => lAt a p + lAt b p) k).1 ++ a.drop k) ∧ Wrote bk off a.length w wr) (fun _ iv _ => a.length - (intOf iv).toNat)
  case atStart => exact ⟨0, rfl, Nat.zero_le _, rfl, ha, Wrote.refl _ _ _ _⟩
  case round =>
    clear ha
    obtain ⟨k, rfl, hk, rfl, hR, hbel⟩ := hrel
    by_cases hlt : k < a.length
    · have hltI : (k : Int) < (a.length : Int) := by omega
      have HC : Hid (Calls Tryd.prog 76 #[vb, .int .i64 (k : Int)] wr fun e w' => e = .returned (.int .u64 ((lAt b k : Nat) : Int)) ∧ w' = wr) := limbAt_any b k vb wr (hb.wrote hbel hvb) hdb (by omega)
      have ho := told_carry (fun p => lAt a p + lAt b p) 2000000000 (fun p => by have := lAt_lt hda p; have := lAt_lt hdb p; show _ + _ ≤ _; omega) k
      have hx := lAt_lt hdb k
      have hd := lAt_lt hda k
      obtain ⟨hc1, hc2⟩ := hR k (by simp [told_length]; omega)
      rw [show (((told (fun p => lAt a p + lAt b p) k).1 ++ a.drop k)[k]'(by simp [told_length]; omega)) = lAt a k from by simp [told_length, lAt_get hlt]] at hc1
      obtain ⟨o, eo⟩ : ∃ o, o = (told (fun p => lAt a p + lAt b p) k).2 := ⟨_, rfl⟩
      obtain ⟨x, ex⟩ : ∃ x, x = lAt b k := ⟨_, rfl⟩
      obtain ⟨d, ed⟩ : ∃ d, d = lAt a k := ⟨_, rfl⟩
      have HS : Hid (told (fun p => lAt a p + lAt b p) (k + 1) = ((told (fun p => lAt a p + lAt b p) k).1 ++ [(o + (d + x)) % 1000000000], (o + (d + x)) / 1000000000)) := by
        show _ = _; rw [eo, ex, ed]; rfl
      rw [← eo] at ho
      rw [← ex] at hx HC
      rw [← ed] at hd hc1
      rw [← eo]
      have HR : Hid (RowAt wr bk off ((told (fun p => lAt a p + lAt b p) k).1 ++ a.drop k)) := hR
      clear eo ex ed hR
      have HD : Hid (a.drop k = a[k] :: a.drop (k + 1)) := List.drop_eq_getElem_cons hlt
      go_wp2_with (go_at_call 76; refine HC.out.mono ?_; rintro e w' ⟨rfl, rfl⟩)
      go_roundw
      case rel =>
        refine ⟨k + 1, by go_num, by omega, ?_, ?_, hbel.set hlt _⟩
        · rw [HS.out]; congr 1; omega
        · rw [HS.out]
          have h := HR.out
          rw [HD.out] at h
          exact h.set (told_length _ _) (by omega)
      case measure => simp [intOf]; omega
    · obtain rfl : k = a.length := by omega
      have hR' : RowAt wr bk off (told (fun p => lAt a p + lAt b p) a.length).1 := by rw [List.drop_length, List.append_nil] at hR; exact hR
      clear hR
      go_wp2
      go_end0
      exact ⟨rfl, hR', hbel⟩
end Go.Proofs.YtangepgiamhenaaDoor
