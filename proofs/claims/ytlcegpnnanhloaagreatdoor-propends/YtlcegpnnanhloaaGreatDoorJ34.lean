/-
  Put together: PpAtMost, PpReach, PpLin.
-/
import Derived.Test.YtlcegpnnanhloaaGreatDoorJ33
import Derived.Deep.RegionHeld3
import Derived.BigQuiet
import Derived.Deep.QuietTactic
namespace Go.Proofs.YtlcegpnnanhloaaGreatDoor
open Go.RowKit

def clampK (k : Int) : Int := min (max k (-128000000000000000)) 128000000000000000
def turnK (t : Bool) (k : Int) : Int := if t then -(clampK k) else clampK k
/-- What a sum may still gain. -/
def spareL (t : Bool) (zs : List (Int × Dm)) (k : Int) : Int := turnK t k - leastZ t zs
def amStep (t : Bool) (sp : Int) (Q : List Sq) (x : Nat) (z : Int × Dm) : List Sq :=
  if 0 < z.1 then sKeepQ t Q x (-9223372036854775807) (spLo t z.2 + sp / z.1) else if z.1 < 0 then sKeepQ t Q x (spHi t z.2 - sp / (-z.1)) 9223372036854775807 else Q
def amQ (t : Bool) (sp : Int) (zs : List (Int × Dm)) (Q : List Sq) : Nat → List Sq
  | 0 => Q
  | k + 1 => match zs[k]? with
    | some z => amStep t sp (amQ t sp zs Q k) k z
    | none => amQ t sp zs Q k
theorem amQ_next (t : Bool) (sp : Int) (zs : List (Int × Dm)) (Q : List Sq) (k : Nat) (hk : k < zs.length) : amQ t sp zs Q (k + 1) = amStep t sp (amQ t sp zs Q k) k zs[k] := by
  show (match zs[k]? with | some z => amStep t sp (amQ t sp zs Q k) k z | none => amQ t sp zs Q k) = _
  rw [List.getElem?_eq_getElem hk]
/-- atMost: none: it can't be. -/
def atMostQ (t : Bool) (D : List Dm) (cs : List Int) (k : Int) (Q : List Sq) : Option (List Sq) :=
  if spareL t (cs.zip D) k < 0 then none else some (amQ t (spareL t (cs.zip D) k) (cs.zip D) Q (cs.zip D).length)
theorem clampK_in (k : Int) : -128000000000000000 ≤ clampK k ∧ clampK k ≤ 128000000000000000 := by unfold clampK; omega
theorem turnK_in (t : Bool) (k : Int) : -128000000000000000 ≤ turnK t k ∧ turnK t k ≤ 128000000000000000 := by
  have := clampK_in k
  unfold turnK
  split <;> omega
/-- What a rule leaves. -/
def RlOut (B lp g p : Nat) (nv mv : Value) (s : St) (R : Option (List Sq)) (w : World) (e : Ending) (w' : World) : Prop := e = .returned (.bool R.isSome) ∧ (∀ Q, R = some Q → LfQ B lp g p nv mv s Q w') ∧ Kq B w w'

theorem AmC.of {N K lp B : Nat} {t : Bool} {u q : Int} {X w' : World} (h1 : X.heap[N]? = some (.cells #[.pointer (some ⟨lp, 0, none⟩), .bool t] 127 (0, 0))) (h2 : X.heap[K]? = some (.cells #[.int .i64 u, .int .i64 q] 101 (0, 0))) (hk : Kq B X w') : w'.cell? ⟨N, 0, none⟩ = some (.pointer (some ⟨lp, 0, none⟩)) ∧ w'.cell? ⟨N, 1, none⟩ = some (.bool t) ∧ w'.cell? ⟨K, 0, none⟩ = some (.int .i64 u) ∧ w'.cell? ⟨K, 1, none⟩ = some (.int .i64 q) :=
  ⟨cell_of (hk.block h1 (by decide) (by decide)) 0, cell_of (hk.block h1 (by decide) (by decide)) 1, cell_of (hk.block h2 (by decide) (by decide)) 0, cell_of (hk.block h2 (by decide) (by decide)) 1⟩

set_option maxRecDepth 10000 in
set_option maxHeartbeats 2000000 in
theorem atMost_any (B lp g p : Nat) (nv mv : Value) (s : St) (Q : List Sq) (t : Bool) (w : World) (h : LfQ B lp g p nv mv s Q w) (v : Value) (cs : List Int) (hv : IntsK B w v cs) (hcs : cs.length = s.now.length) (hc : ∀ c ∈ cs, -64000000 ≤ c ∧ c ≤ 64000000) (kk : Int) : Calls Tryz.prog 80 #[sdVal lp t, v, .int .i64 kk] w (RlOut B lp g p nv mv s (atMostQ t s.now cs kk Q) w) := by
  have hn := h.n32
  have hgood := h.good
  have hBs := h.size
  obtain ⟨W, hW⟩ : ∃ W, w.alloc (.cells #[.pointer (some ⟨lp, 0, none⟩), .bool t] 127) = W := ⟨_, rfl⟩
  have hb0 : Below w.heap.size w W := by rw [← hW]; exact (Below.refl _ _).alloc (Nat.le_refl _) _
  have g0 : W.heap[w.heap.size]? = some (.cells #[.pointer (some ⟨lp, 0, none⟩), .bool t] 127 (0, 0)) := by rw [← hW]; exact heap_alloc_new w _
  have HLW : Hid (LfQ B lp g p nv mv s Q W) := h.below hb0
  have HVW : Hid (IntsK B W v cs) := hv.kq (Kq.of_below hb0 hBs)
  have HKW : Hid (Kq B w W) := Kq.of_below hb0 hBs
  have HLs : Hid (Calls Tryz.prog 91 #[.agg #[.pointer (some ⟨lp, 0, none⟩), .bool t], v] W fun e w' => e = .returned (.int .i64 (leastZ t (cs.zip s.now))) ∧ Below W.heap.size W w') := least_any B lp g p nv mv s Q t W HLW.out v cs HVW.out.at hcs hc
  obtain ⟨a, cap, rfl, _⟩ := hv.at.form
  obtain ⟨zs, hzs⟩ : ∃ zs, cs.zip s.now = zs := ⟨_, rfl⟩
  have hzl : zs.length = cs.length := by rw [← hzs, List.length_zip]; omega
  have hz1 : ∀ k (hk : k < zs.length), ∃ (h1 : k < cs.length) (h2 : k < s.now.length), zs[k] = (cs[k], s.now[k]) := fun k hk => by
    subst hzs
    rw [List.length_zip] at hk
    exact ⟨by omega, by omega, by rw [List.getElem_zip]⟩
  have HZ : Hid (∀ z ∈ zs, -64000000 ≤ z.1 ∧ z.1 ≤ 64000000 ∧ z.2.Ok) := fun z hz => by
    obtain ⟨k, hk, rfl⟩ := List.getElem_of_mem hz
    obtain ⟨h1, h2, e⟩ := hz1 k hk
    rw [e]
    exact ⟨(hc _ (List.getElem_mem h1)).1, (hc _ (List.getElem_mem h1)).2, hgood _ (List.getElem_mem h2)⟩
  have HS : Hid (∀ k (hk : k < zs.length) w' Q', LfQ B lp g p nv mv s Q' w' → Calls Tryz.prog 117 #[.agg #[.pointer (some ⟨lp, 0, none⟩), .bool t], .int .i64 (k : Int)] w' fun e w2 => e = .returned (.agg #[.int .i64 (spLo t zs[k].2), .int .i64 (spHi t zs[k].2)]) ∧ Below w'.heap.size w' w2) := fun k hk w' Q' hL => by
    obtain ⟨h1, h2, e⟩ := hz1 k hk
    have := hL.span t k h2
    rw [e]
    exact this
  have HKp : Hid (∀ k (hk : k < zs.length) w' Q' (c d : Int), LfQ B lp g p nv mv s Q' w' → -9223372036854775807 ≤ c → c ≤ 9223372036854775807 → -9223372036854775807 ≤ d → d ≤ 9223372036854775807 → Calls Tryz.prog 118 #[.agg #[.pointer (some ⟨lp, 0, none⟩), .bool t], .int .i64 (k : Int), .agg #[.int .i64 c, .int .i64 d]] w' (KqOut B lp g p nv mv s (sKeepQ t Q' k c d) w')) := fun k hk w' Q' c d hL h1 h2 h3 h4 => hL.sKeep t k (by obtain ⟨_, h, _⟩ := hz1 k hk; exact h) c d h1 h2 h3 h4
  have HV : Hid (∀ k (hk : k < zs.length) w', IntsK B w' (.slice a cs.length cap) cs → ∃ b off, a = some ⟨b, off, none⟩ ∧ w'.cell? ⟨b, off + k, none⟩ = some (.int .i64 zs[k].1)) := fun k hk w' hI => by
    obtain ⟨h1, h2, e⟩ := hz1 k hk
    obtain ⟨a', c', e1, _, hcell⟩ := hI.at
    injection e1 with e1 _ _
    obtain ⟨b, off, ha, hlt, hcl⟩ := hcell (by omega)
    exact ⟨b, off, by rw [e1, ha], by rw [e]; exact hcl k h1⟩
  have HG0 : Hid (W.heap[w.heap.size]? = some (.cells #[.pointer (some ⟨lp, 0, none⟩), .bool t] 127 (0, 0))) := g0
  have HBs : Hid (B ≤ W.heap.size) := Nat.le_trans hBs hb0.size
  have hz32 : zs.length ≤ 32 := by omega
  have hls := leastZ_bdk t zs zs.length HZ.out hz32
  rw [List.take_length] at hls
  obtain ⟨k1, hk1⟩ : ∃ k1, clampK kk = k1 := ⟨_, rfl⟩
  have hk1b := clampK_in kk
  have HQ : Hid (atMostQ t s.now cs kk Q = if spareL t zs kk < 0 then none else some (amQ t (spareL t zs kk) zs Q zs.length)) := by show _ = _; unfold atMostQ; rw [hzs]
  have HSp : Hid (spareL t zs kk = (if t then -k1 else k1) - leastZ t zs) := by show _ = _; unfold spareL turnK; rw [hk1]
  rw [hzs] at HLs
  rw [hk1] at hk1b
  unfold clampK at hk1
  obtain ⟨ls, hlsv⟩ : ∃ x, leastZ t zs = x := ⟨_, rfl⟩
  rw [hlsv] at HLs hls HSp
  have c0 : W.cell? ⟨w.heap.size, 0, none⟩ = some (.pointer (some ⟨lp, 0, none⟩)) := cell_of g0 0
  have c1 : W.cell? ⟨w.heap.size, 1, none⟩ = some (.bool t) := cell_of g0 1
  obtain ⟨hk1a, hk1b⟩ := hk1b
  obtain ⟨hla, hlb⟩ := hls
  have hcl : cs.length = zs.length := hzl.symm
  rw [hcl] at HLs HVW HV ⊢
  obtain ⟨R, hR⟩ : ∃ R, atMostQ t s.now cs kk Q = R := ⟨_, rfl⟩
  rw [hR] at HQ ⊢
  clear h hv hcs hc hgood hBs hb0 g0 hz1 hzs hzl hlsv hcl hR hn
  unfold sdVal
  go_enter Tryz.func80, Tryz.ntmps80
  obtain ⟨k2, hk2⟩ : ∃ k2, (if t then -k1 else k1) = k2 := ⟨_, rfl⟩
  have hk2a : -128000000000000000 ≤ k2 ∧ k2 ≤ 128000000000000000 := by rw [← hk2]; split <;> omega
  obtain ⟨hk2a, hk2b⟩ := hk2a
  rw [hk2] at HSp
  have HK2 : Hid ((if t then -k1 else k1) = k2) := hk2
  clear hk2
  go_upto_if 15 with fail
  go_cut [2] from 11 to 62 (fun s2 wx => s2 = .int .i64 k2 ∧ W = wx)
  case first =>
    cases t with
    | false =>
      have e := HK2.out
      simp only [Bool.false_eq_true, if_false] at e
      subst e
      go_wp2_with fail
      go_meet
      exact ⟨rfl, rfl⟩
    | true =>
      have e := HK2.out
      simp only [if_true] at e
      subst e
      go_wp2_with fail
      go_meet
      exact ⟨rfl, rfl⟩
  case rest =>
  obtain ⟨rfl, rfl⟩ := hcut
  clear hk1 hW
  go_wp2_with fail
  refine calls_at HLs.out (by with_reducible rfl) (by with_reducible rfl) ?_
  rintro e w1 ⟨rfl, hb1⟩
  have HL1 : Hid (LfQ B lp g p nv mv s Q w1) := HLW.out.below hb1
  have HK1 : Hid (Kq B W w1) := Kq.of_below hb1 HBs.out
  clear hb1
  obtain ⟨sp, hsp⟩ : ∃ sp, k2 - ls = sp := ⟨_, rfl⟩
  have HSp2 : Hid (spareL t zs kk = sp) := HSp.out.trans hsp
  have hspb : -5000000000000000000 ≤ sp ∧ sp ≤ 5000000000000000000 := by omega
  obtain ⟨hsa, hsb⟩ := hspb
  by_cases hneg : sp < 0
  · have HRn : Hid (R = none) := by show _ = _; rw [HQ.out, HSp2.out, if_pos hneg]
    clear hk2a hk2b hla hlb c0 c1 HSp HQ HSp2
    go_wp2_with fail
    go_ret
    exact ⟨by rw [HRn.out]; rfl, (fun Q' h => by rw [HRn.out] at h; cases h), HKW.out.trans HK1.out⟩
  have HRs : Hid (R = some (amQ t sp zs Q zs.length)) := by show _ = _; rw [HQ.out, HSp2.out, if_neg hneg]
  clear hk2a hk2b hla hlb c0 c1 HSp HQ HSp2
  go_wp2_with fail
  clear hsp
  go_loopw [27] (fun iv wr => ∃ (k : Nat), iv = .int .i64 (k : Int) ∧ k ≤ zs.length ∧ Hid (LfQ B lp g p nv mv s (amQ t sp zs Q k) wr) ∧ Hid (Kq B W wr)) (fun iv _ => zs.length - (intOf iv).toNat)
  case atStart => exact ⟨0, rfl, Nat.zero_le _, HL1, HK1⟩
  case round =>
  obtain ⟨k, rfl, hk, HLr, HKr⟩ := hrel
  by_cases hkn : k < zs.length
  · have hkI : (k : Int) < (zs.length : Int) := by omega
    obtain ⟨b, off, rfl, f0⟩ := HV.out k hkn wr (HVW.out.kq HKr.out)
    have hGr := HKr.out.block HG0.out (by decide) (by decide)
    have x0 : wr.cell? ⟨w.heap.size, 0, none⟩ = some (.pointer (some ⟨lp, 0, none⟩)) := cell_of hGr 0
    have x1 : wr.cell? ⟨w.heap.size, 1, none⟩ = some (.bool t) := cell_of hGr 1
    have HSk := HS.out k hkn wr _ HLr.out
    have HKk := HKp.out k hkn
    have hnx := amQ_next t sp zs Q k hkn
    obtain ⟨z1, z2, z3⟩ := HZ.out zs[k] (List.getElem_mem hkn)
    obtain ⟨s1, s2, s3, s4⟩ := sp_in t z3
    unfold amStep at hnx
    obtain ⟨c, hcc⟩ : ∃ c, zs[k].1 = c := ⟨_, rfl⟩
    obtain ⟨u, hu⟩ : ∃ c, spLo t zs[k].2 = c := ⟨_, rfl⟩
    obtain ⟨q, hq⟩ : ∃ c, spHi t zs[k].2 = c := ⟨_, rfl⟩
    obtain ⟨Qk, hQk⟩ : ∃ c, amQ t sp zs Q k = c := ⟨_, rfl⟩
    rw [hcc] at f0 hnx z1 z2
    rw [hu] at HSk hnx s1 s2
    rw [hq] at HSk hnx s3 s4
    rw [hQk] at hnx HLr
    have HN : Hid (amQ t sp zs Q (k + 1) = if 0 < c then sKeepQ t Qk k (-9223372036854775807) (u + sp / c) else if c < 0 then sKeepQ t Qk k (q - sp / (-c)) 9223372036854775807 else Qk) := hnx
    have HSk' : Hid (Calls Tryz.prog 117 #[.agg #[.pointer (some ⟨lp, 0, none⟩), .bool t], .int .i64 (k : Int)] wr fun e w2 => e = .returned (.agg #[.int .i64 u, .int .i64 q]) ∧ Below wr.heap.size wr w2) := HSk
    have HKk' : Hid (∀ (w' : World) (Q' : List Sq) (c d : Int), LfQ B lp g p nv mv s Q' w' → -9223372036854775807 ≤ c → c ≤ 9223372036854775807 → -9223372036854775807 ≤ d → d ≤ 9223372036854775807 → Calls Tryz.prog 118 #[.agg #[.pointer (some ⟨lp, 0, none⟩), .bool t], .int .i64 (k : Int), .agg #[.int .i64 c, .int .i64 d]] w' (KqOut B lp g p nv mv s (sKeepQ t Q' k c d) w')) := HKk
    clear hnx HSk HKk hcc hu hq hQk z3 hGr
    go_wp2_with fail
    refine calls_at HSk'.out (by with_reducible rfl) (by with_reducible rfl) ?_
    rintro e w2 ⟨rfl, hb2⟩
    obtain ⟨X, hX⟩ : ∃ X, w2.alloc (.cells #[.int .i64 u, .int .i64 q] 101) = X := ⟨_, rfl⟩
    have hbX : Below wr.heap.size wr X := by rw [← hX]; exact bl_alloc hb2 _
    have HLX : Hid (LfQ B lp g p nv mv s Qk X) := HLr.out.below hbX
    have HKX : Hid (Kq B W X) := HKr.out.next hbX HLr.out.size
    have HGX : Hid (X.heap[w2.heap.size]? = some (.cells #[.int .i64 u, .int .i64 q] 101 (0, 0))) := by show _ = _; rw [← hX]; exact heap_alloc_new w2 _
    have HNX : Hid (X.heap[w.heap.size]? = some (.cells #[.pointer (some ⟨lp, 0, none⟩), .bool t] 127 (0, 0))) := HKX.out.block HG0.out (by decide) (by decide)
    clear hb2 hbX x0 x1
    by_cases hc0 : 0 < c
    · have hq0 : 0 ≤ sp / c := Int.ediv_nonneg (by omega) (by omega)
      have hq1 : sp / c ≤ sp := Int.ediv_le_self _ (by omega)
      have HN2 : Hid (amQ t sp zs Q (k + 1) = sKeepQ t Qk k (-9223372036854775807) (u + sp / c)) := by show _ = _; rw [HN.out, if_pos hc0]
      obtain ⟨d1, hd1⟩ : ∃ d, sp / c = d := ⟨_, rfl⟩
      have ea : sp.tdiv c = d1 := by rw [← hd1]; exact Int.tdiv_eq_ediv_of_nonneg (by omega)
      rw [hd1] at hq0 hq1 HN2
      have hcz : c ≠ 0 := by omega
      have hcz2 : (c == 0) = false := by rw [beq_eq_false_iff_ne]; omega
      have ec : IntKind.i64.wrap d1 = d1 := wrap_ok (by omega) (by omega)
      have ed : IntKind.i64.wrap (u + d1) = u + d1 := wrap_ok (by omega) (by omega)
      have HUp : Hid (∀ w', Calls Tryz.prog 119 #[.int .i64 (u + d1)] w' fun e w2 => e = .returned (.agg #[.int .i64 (-9223372036854775807), .int .i64 (u + d1)]) ∧ Below w'.heap.size w' w2) := fun w' => upTo_any (u + d1) w'
      have HLd : Hid (LfQ B lp g p nv mv s Qk X.drew) := HLX.out.below (Below.refl _ _).drew
      have HKd : Hid (Kq B X X.drew) := Kq.of_below (Below.refl _ _).drew HLX.out.size
      go_wp2_with fail
      try rw [hX]
      clear hX f0
      go_region_held3 (fun w' => w'.cell? ⟨w.heap.size, 0, none⟩ = some (.pointer (some ⟨lp, 0, none⟩)) ∧ w'.cell? ⟨w.heap.size, 1, none⟩ = some (.bool t) ∧ w'.cell? ⟨w2.heap.size, 0, none⟩ = some (.int .i64 u) ∧ w'.cell? ⟨w2.heap.size, 1, none⟩ = some (.int .i64 q))
        (first | exact AmC.of HNX.out HGX.out HK5.out | exact AmC.of HNX.out HGX.out HK4.out | exact AmC.of HNX.out HGX.out HKd.out)
        (first | (go_at_call 119; refine calls_at (HUp.out _) (by with_reducible rfl) (by with_reducible rfl) ?_; rintro e w4 ⟨rfl, hb4⟩; (have HL4 : Hid (LfQ B lp g p nv mv s Qk w4) := HLd.out.below hb4); (have HK4 : Hid (Kq B X w4) := HKd.out.next hb4 HLd.out.size); clear hb4) | (go_at_call 118; refine calls_at (HKk'.out w4 Qk (-9223372036854775807) (u + d1) HL4.out (by omega) (by omega) (by omega) (by omega)) (by with_reducible rfl) (by with_reducible rfl) ?_; rintro e w5 ⟨rfl, hL5, hk5⟩; (have HL5 : Hid (LfQ B lp g p nv mv s (sKeepQ t Qk k (-9223372036854775807) (u + d1)) w5) := hL5); (have HK5 : Hid (Kq B X w5) := HK4.out.trans hk5); clear hL5 hk5))
      go_wp2_with fail
      go_roundw
      case rel => exact ⟨k + 1, by go_num, hkn, (by show LfQ _ _ _ _ _ _ _ _ _; rw [HN2.out]; exact HL5.out), HKX.out.trans HK5.out⟩
      case measure => simp [intOf]; omega
    by_cases hc1 : c < 0
    · have hq0 : 0 ≤ sp / (-c) := Int.ediv_nonneg (by omega) (by omega)
      have hq1 : sp / (-c) ≤ sp := Int.ediv_le_self _ (by omega)
      have HN2 : Hid (amQ t sp zs Q (k + 1) = sKeepQ t Qk k (q - sp / (-c)) 9223372036854775807) := by show _ = _; rw [HN.out, if_neg hc0, if_pos hc1]
      obtain ⟨d1, hd1⟩ : ∃ d, sp / (-c) = d := ⟨_, rfl⟩
      have ea : sp.tdiv (-c) = d1 := by rw [← hd1]; exact Int.tdiv_eq_ediv_of_nonneg (by omega)
      rw [hd1] at hq0 hq1 HN2
      have en : IntKind.i64.wrap (-c) = -c := wrap_ok (by omega) (by omega)
      have ec : IntKind.i64.wrap d1 = d1 := wrap_ok (by omega) (by omega)
      have ed : IntKind.i64.wrap (q - d1) = q - d1 := wrap_ok (by omega) (by omega)
      have hcz : c ≠ 0 := by omega
      have hcz3 : -c ≠ 0 := by omega
      have hcn : (-c == 0) = false := by rw [beq_eq_false_iff_ne]; omega
      have HUp : Hid (∀ w', Calls Tryz.prog 120 #[.int .i64 (q - d1)] w' fun e w2 => e = .returned (.agg #[.int .i64 (q - d1), .int .i64 9223372036854775807]) ∧ Below w'.heap.size w' w2) := fun w' => fromB_any (q - d1) w'
      have HLd : Hid (LfQ B lp g p nv mv s Qk X.drew) := HLX.out.below (Below.refl _ _).drew
      have HKd : Hid (Kq B X X.drew) := Kq.of_below (Below.refl _ _).drew HLX.out.size
      go_wp2_with fail
      try rw [hX]
      clear hX f0
      go_region_held3 (fun w' => w'.cell? ⟨w.heap.size, 0, none⟩ = some (.pointer (some ⟨lp, 0, none⟩)) ∧ w'.cell? ⟨w.heap.size, 1, none⟩ = some (.bool t) ∧ w'.cell? ⟨w2.heap.size, 0, none⟩ = some (.int .i64 u) ∧ w'.cell? ⟨w2.heap.size, 1, none⟩ = some (.int .i64 q))
        (first | exact AmC.of HNX.out HGX.out HK5.out | exact AmC.of HNX.out HGX.out HK4.out | exact AmC.of HNX.out HGX.out HKd.out)
        (first | (go_at_call 120; refine calls_at (HUp.out _) (by with_reducible rfl) (by with_reducible rfl) ?_; rintro e w4 ⟨rfl, hb4⟩; (have HL4 : Hid (LfQ B lp g p nv mv s Qk w4) := HLd.out.below hb4); (have HK4 : Hid (Kq B X w4) := HKd.out.next hb4 HLd.out.size); clear hb4) | (go_at_call 118; refine calls_at (HKk'.out w4 Qk (q - d1) 9223372036854775807 HL4.out (by omega) (by omega) (by omega) (by omega)) (by with_reducible rfl) (by with_reducible rfl) ?_; rintro e w5 ⟨rfl, hL5, hk5⟩; (have HL5 : Hid (LfQ B lp g p nv mv s (sKeepQ t Qk k (q - d1) 9223372036854775807) w5) := hL5); (have HK5 : Hid (Kq B X w5) := HK4.out.trans hk5); clear hL5 hk5))
      go_wp2_with fail
      go_roundw
      case rel => exact ⟨k + 1, by go_num, hkn, (by show LfQ _ _ _ _ _ _ _ _ _; rw [HN2.out]; exact HL5.out), HKX.out.trans HK5.out⟩
      case measure => simp [intOf]; omega
    · have HN2 : Hid (amQ t sp zs Q (k + 1) = Qk) := by show _ = _; rw [HN.out, if_neg hc0, if_neg hc1]
      go_wp2_with fail
      try rw [hX]
      go_roundw
      case rel => exact ⟨k + 1, by go_num, hkn, (by show LfQ _ _ _ _ _ _ _ _ _; rw [HN2.out]; exact HLX.out), HKX⟩
      case measure => simp [intOf]; omega
  · have hke : k = zs.length := by omega
    subst hke
    have hkI : ¬ (zs.length : Int) < (zs.length : Int) := by omega
    go_wp2_with fail
    go_ret
    refine ⟨by rw [HRs.out]; rfl, (fun Q' h => ?_), HKW.out.trans HKr.out⟩
    rw [HRs.out] at h
    injection h with h
    rw [← h]
    exact HLr.out
end Go.Proofs.YtlcegpnnanhloaaGreatDoor

namespace Go.Proofs.YtlcegpnnanhloaaGreatDoor
open Go.RowKit

/-- A variable's domain. -/
def dAt (D : List Dm) (x : Int) : Dm := D.getD x.toNat ⟨0, 0, 0⟩
theorem dAt_get {D : List Dm} {m : Nat} (h : m < D.length) : dAt D (m : Int) = D[m] := by
  unfold dAt
  rw [List.getD_eq_getElem?_getD, Int.toNat_natCast, List.getElem?_eq_getElem h]
  rfl
/-- Has another one of the list a value of v or more? -/
def rchB (t : Bool) (D : List Dm) (x v : Int) (o : Int) : Bool := (o != x) && decide (v ≤ spHi t (dAt D o))
set_option maxRecDepth 10000 in
set_option maxHeartbeats 1000000 in
theorem reach_any (B lp g p : Nat) (nv mv : Value) (s : St) (Q : List Sq) (t : Bool) (w : World) (h : LfQ B lp g p nv mv s Q w) (vx : Value) (xs : List Int) (hv : IntsAt w vx xs) (hx : ∀ x ∈ xs, 0 ≤ x ∧ x < (s.now.length : Int)) (hl : xs.length ≤ 64) (x v : Int) : Calls Tryz.prog 122 #[sdVal lp t, .int .i64 x, vx, .int .i64 v] w fun e w' => e = .returned (.bool (xs.any (rchB t s.now x v))) ∧ Below w.heap.size w w' := by
  obtain ⟨a, cap, rfl, _, hcell⟩ := hv
  obtain ⟨W, hW⟩ : ∃ W, w.alloc (.cells #[.pointer (some ⟨lp, 0, none⟩), .bool t] 127) = W := ⟨_, rfl⟩
  have hb0 : Below w.heap.size w W := by rw [← hW]; exact (Below.refl _ _).alloc (Nat.le_refl _) _
  have g0 : W.heap[w.heap.size]? = some (.cells #[.pointer (some ⟨lp, 0, none⟩), .bool t] 127 (0, 0)) := by rw [← hW]; exact heap_alloc_new w _
  have hlt0 := (Array.getElem?_eq_some_iff.1 g0).1
  have HS : Hid (∀ k (hk : k < xs.length) w', Below W.heap.size W w' → Calls Tryz.prog 117 #[.agg #[.pointer (some ⟨lp, 0, none⟩), .bool t], .int .i64 xs[k]] w' fun e w2 => e = .returned (.agg #[.int .i64 (spLo t (dAt s.now xs[k])), .int .i64 (spHi t (dAt s.now xs[k]))]) ∧ Below w'.heap.size w' w2) := fun k hk w' hb => by
    have h1 := hx xs[k] (List.getElem_mem hk)
    obtain ⟨m, hm, hm2⟩ : ∃ m : Nat, xs[k] = (m : Int) ∧ m < s.now.length := ⟨xs[k].toNat, by omega, by omega⟩
    rw [hm, dAt_get hm2]
    exact ((h.below hb0).below hb).span t m hm2
  have HV : Hid (∀ k (hk : k < xs.length) w', Below W.heap.size W w' → ∃ b off, a = some ⟨b, off, none⟩ ∧ w'.cell? ⟨b, off + k, none⟩ = some (.int .i64 xs[k])) := fun k hk w' hb => by
    obtain ⟨b, off, rfl, hlt, hcl⟩ := hcell (by omega)
    exact ⟨b, off, rfl, ((hb0.trans (hb.mono hb0.size)).cell (p := ⟨b, _, none⟩) hlt).trans (hcl k hk)⟩
  have HC : Hid (∀ w', Below W.heap.size W w' → w'.cell? ⟨w.heap.size, 0, none⟩ = some (.pointer (some ⟨lp, 0, none⟩)) ∧ w'.cell? ⟨w.heap.size, 1, none⟩ = some (.bool t)) := fun w' hb => ⟨cell_of ((hb.block _ hlt0).trans g0) 0, cell_of ((hb.block _ hlt0).trans g0) 1⟩
  have HB : Hid (Below w.heap.size w W) := hb0
  obtain ⟨D, hD⟩ : ∃ D, s.now = D := ⟨_, rfl⟩
  rw [hD] at HS ⊢
  have hfd : ∀ (a b : Value) (w : World), (Instr.field 101 (.agg #[a, b]) 1).run Tryz.prog w = .ok b w := fun _ _ _ => by kernel_rfl
  clear h hcell hb0 g0 hlt0 hx hD
  unfold sdVal
  go_enter Tryz.func122, Tryz.ntmps122
  go_wp2_with fail
  go_loopw [13] (fun iv wr => ∃ (k : Nat), iv = .int .i64 (k : Int) ∧ k ≤ xs.length ∧ Hid ((xs.take k).any (rchB t D x v) = false) ∧ Hid (Below W.heap.size W wr)) (fun iv _ => xs.length - (intOf iv).toNat)
  case atStart => exact ⟨0, rfl, Nat.zero_le _, rfl, Below.refl _ _⟩
  case round =>
  obtain ⟨k, rfl, hk, HT, HBr⟩ := hrel
  clear hW
  by_cases hkn : k < xs.length
  · have hkI : (k : Int) < (xs.length : Int) := by omega
    obtain ⟨b, off, rfl, f0⟩ := HV.out k hkn wr HBr.out
    obtain ⟨x0, x1⟩ := HC.out wr HBr.out
    have HSk := HS.out k hkn wr HBr.out
    have HN : Hid ((xs.take (k + 1)).any (rchB t D x v) = rchB t D x v xs[k]) := by show _ = _; rw [Md.any_next hkn, HT.out]; rfl
    have HY : Hid (rchB t D x v xs[k] = true → xs.any (rchB t D x v) = true) := fun hh => Md.any_stop hkn hh
    obtain ⟨o, ho⟩ : ∃ o, xs[k] = o := ⟨_, rfl⟩
    rw [ho] at f0 HSk HN HY
    unfold rchB at HN HY
    obtain ⟨u, hu⟩ : ∃ c, spLo t (dAt D o) = c := ⟨_, rfl⟩
    obtain ⟨q, hq⟩ : ∃ c, spHi t (dAt D o) = c := ⟨_, rfl⟩
    rw [hu, hq] at HSk
    have HSk' : Hid (Calls Tryz.prog 117 #[.agg #[.pointer (some ⟨lp, 0, none⟩), .bool t], .int .i64 o] wr fun e w2 => e = .returned (.agg #[.int .i64 u, .int .i64 q]) ∧ Below wr.heap.size wr w2) := HSk
    have HQ : Hid (spHi t (dAt D o) = q) := hq
    clear ho hu hq HSk
    by_cases hox : o = x
    · have e1 : (o != x) = false := by simp [hox]
      have HN2 : Hid ((xs.take (k + 1)).any (rchB t D x v) = false) := by show _ = _; rw [show ((xs.take (k + 1)).any (rchB t D x v)) = _ from HN.out, e1]; rfl
      clear hox
      go_wp2_with fail
      go_roundw
      case rel => exact ⟨k + 1, by go_num, hkn, HN2, HBr⟩
      case measure => simp [intOf]; omega
    · have e1 : (o != x) = true := by simpa using hox
      clear hox
      by_cases hqv : v ≤ q
      · have HY2 : Hid (xs.any (rchB t D x v) = true) := HY.out (by rw [e1, HQ.out]; simpa using hqv)
        go_wp2_with fail
        refine calls_at HSk'.out (by with_reducible rfl) (by with_reducible rfl) ?_
        rintro e w2 ⟨rfl, hb2⟩
        have HB2 : Hid (Below W.heap.size W w2) := bl_next HBr.out hb2
        clear hb2
        go_wp2_with fail
        go_ret
        exact ⟨ret_bool (by rw [HY2.out]; try rfl), HB.out.trans (HB2.out.mono HB.out.size)⟩
      · have HN2 : Hid ((xs.take (k + 1)).any (rchB t D x v) = false) := by show _ = _; rw [show ((xs.take (k + 1)).any (rchB t D x v)) = _ from HN.out, e1, HQ.out]; simpa using hqv
        go_wp2_with fail
        refine calls_at HSk'.out (by with_reducible rfl) (by with_reducible rfl) ?_
        rintro e w2 ⟨rfl, hb2⟩
        have HB2 : Hid (Below W.heap.size W w2) := bl_next HBr.out hb2
        clear hb2
        go_wp2_with fail
        go_roundw
        case rel => exact ⟨k + 1, by go_num, hkn, HN2, HB2⟩
        case measure => simp [intOf]; omega
  · have hke : k = xs.length := by omega
    subst hke
    have HT2 : Hid (xs.any (rchB t D x v) = false) := by have := HT.out; rw [List.take_length] at this; exact this
    have hkI : ¬ (xs.length : Int) < (xs.length : Int) := by omega
    go_wp2_with fail
    go_ret
    exact ⟨ret_bool (by rw [HT2.out]; try rfl), HB.out.trans (HBr.out.mono HB.out.size)⟩
end Go.Proofs.YtlcegpnnanhloaaGreatDoor

namespace Go.Proofs.YtlcegpnnanhloaaGreatDoor
open Go.RowKit

/-- A constraint's box. -/
def cnCells10 (c : Md.Cn) (vt vx vb vr : Value) : Array Value := #[.int .i64 c.kind, .int .i64 c.op, vt, .int .i64 c.k, .int .i64 c.v, .int .i64 c.x, .int .i64 c.y, vx, vb, vr]
def linQ (D : List Dm) (c : Md.Cn) (Q : List Sq) : Option (List Sq) :=
  (if c.op = 3 then some Q else atMostQ false D (coefL c.terms D.length) c.k Q).bind fun Q1 => if c.op = 1 then some Q1 else atMostQ true D (coefL c.terms D.length) c.k Q1
theorem coef_mem {t : List (Int × Int)} {n : Nat} (ht : ∀ q ∈ t, -1000000 ≤ q.1 ∧ q.1 ≤ 1000000) (hl : t.length ≤ 64) : ∀ c ∈ coefL t n, -64000000 ≤ c ∧ c ≤ 64000000 := fun c hc => by
  obtain ⟨i, hi, rfl⟩ := List.getElem_of_mem hc
  have := coefL_bd ht n i hi
  omega
theorem LinC.of {N B : Nat} {a0 a1 a2 a3 a4 a5 a6 a7 a8 a9 : Value} {X w' : World} (h : X.heap[N]? = some (.cells #[a0, a1, a2, a3, a4, a5, a6, a7, a8, a9] 31 (0, 0))) (hk : Kq B X w') : w'.cell? ⟨N, 1, none⟩ = some a1 ∧ w'.cell? ⟨N, 3, none⟩ = some a3 :=
  ⟨cell_of (hk.block h (by decide) (by decide)) 1, cell_of (hk.block h (by decide) (by decide)) 3⟩

theorem bl_drewN (w : World) (n : Nat) : Below w.heap.size w (w.drewN n) := ⟨rfl, rfl, rfl, Nat.le_refl _, fun _ _ => rfl⟩

set_option maxRecDepth 10000 in
set_option maxHeartbeats 2000000 in
theorem lin_any (B lp g p : Nat) (nv mv : Value) (s : St) (Q : List Sq) (w : World) (h : LfQ B lp g p nv mv s Q w) (c : Md.Cn) (vt vx vb vr : Value) (hC : CnK B w c vt vx vb vr) (hop : 1 ≤ c.op ∧ c.op ≤ 3) (hl : c.terms.length ≤ 64) (hc : ∀ q ∈ c.terms, -1000000 ≤ q.1 ∧ q.1 ≤ 1000000) (hx : ∀ q ∈ c.terms, 0 ≤ q.2 ∧ q.2 < (s.now.length : Int)) : Calls Tryz.prog 44 #[.pointer (some ⟨lp, 0, none⟩), cnVal c vt vx vb vr] w (RlOut B lp g p nv mv s (linQ s.now c Q) w) := by
  have hBs := h.size
  obtain ⟨ta, tc, rfl, _⟩ := hC.at.t.form
  obtain ⟨W, hW⟩ : ∃ W, w.alloc (.cells #[.int .i64 c.kind, .int .i64 c.op, .slice ta c.terms.length tc, .int .i64 c.k, .int .i64 c.v, .int .i64 c.x, .int .i64 c.y, vx, vb, vr] 31) = W := ⟨_, rfl⟩
  have hb0 : Below w.heap.size w W := by rw [← hW]; exact (Below.refl _ _).alloc (Nat.le_refl _) _
  have g0 : W.heap[w.heap.size]? = some (.cells #[.int .i64 c.kind, .int .i64 c.op, .slice ta c.terms.length tc, .int .i64 c.k, .int .i64 c.v, .int .i64 c.x, .int .i64 c.y, vx, vb, vr] 31 (0, 0)) := by rw [← hW]; exact heap_alloc_new w _
  have HG : Hid (W.heap[w.heap.size]? = some (.cells #[.int .i64 c.kind, .int .i64 c.op, .slice ta c.terms.length tc, .int .i64 c.k, .int .i64 c.v, .int .i64 c.x, .int .i64 c.y, vx, vb, vr] 31 (0, 0))) := g0
  have HLW : Hid (LfQ B lp g p nv mv s Q W) := h.below hb0
  have HKW : Hid (Kq B w W) := Kq.of_below hb0 hBs
  have HCf : Hid (Calls Tryz.prog 78 #[.pointer (some ⟨lp, 0, none⟩), .slice ta c.terms.length tc] W (CfOut B c.terms s.now.length W)) := coefs_any B lp g p nv mv s Q W HLW.out _ c.terms ((hC.below (hb0.mono hBs)).at.t) hl hc hx
  have HAm : Hid (∀ (t : Bool) (w' : World) (Q' : List Sq) (v : Value), LfQ B lp g p nv mv s Q' w' → IntsK B w' v (coefL c.terms s.now.length) → Calls Tryz.prog 80 #[.agg #[.pointer (some ⟨lp, 0, none⟩), .bool t], v, .int .i64 c.k] w' (RlOut B lp g p nv mv s (atMostQ t s.now (coefL c.terms s.now.length) c.k Q') w')) := fun t w' Q' v hL hI => atMost_any B lp g p nv mv s Q' t w' hL v _ hI (coefL_len _ _) (coef_mem hc hl) c.k
  have HU : Hid (∀ w', Calls Tryz.prog 79 #[.pointer (some ⟨lp, 0, none⟩)] w' fun e w2 => e = .returned (.agg #[.pointer (some ⟨lp, 0, none⟩), .bool false]) ∧ Below w'.heap.size w' w2) := fun w' => upright_any lp w'
  have HTn : Hid (∀ w', Calls Tryz.prog 81 #[.pointer (some ⟨lp, 0, none⟩)] w' fun e w2 => e = .returned (.agg #[.pointer (some ⟨lp, 0, none⟩), .bool true]) ∧ Below w'.heap.size w' w2) := fun w' => turnedL_any lp w'
  have HQ : Hid (linQ s.now c Q = (if c.op = 3 then some Q else atMostQ false s.now (coefL c.terms s.now.length) c.k Q).bind fun Q1 => if c.op = 1 then some Q1 else atMostQ true s.now (coefL c.terms s.now.length) c.k Q1) := rfl
  have c2 : W.cell? ⟨w.heap.size, 2, none⟩ = some (.slice ta c.terms.length tc) := cell_of g0 2
  have hop1 := hop.1
  have hop2 := hop.2
  obtain ⟨R, hR⟩ : ∃ R, linQ s.now c Q = R := ⟨_, rfl⟩
  rw [hR] at HQ ⊢
  have HBs : Hid (B ≤ W.heap.size) := Nat.le_trans hBs hb0.size
  clear h hC hop hl hc hx hBs hb0 g0 hR
  unfold cnVal
  go_enter Tryz.func44, Tryz.ntmps44
  go_wp2_with fail
  refine calls_at HCf.out (by with_reducible rfl) (by with_reducible rfl) ?_
  rintro e w1 ⟨v, rfl, hI1, hb1⟩
  have HI1 : Hid (IntsK B w1 v (coefL c.terms s.now.length)) := hI1
  have HL1 : Hid (LfQ B lp g p nv mv s Q w1) := HLW.out.below hb1
  have HK1 : Hid (Kq B W w1) := Kq.of_below hb1 HBs.out
  clear hI1 hb1 c2 hW
  by_cases h3 : c.op = 3
  · have e3 : (c.op != 3) = false := by simp [h3]
    have e1 : (c.op == 1) = false := by simp [h3]
    obtain ⟨Rb, hRab⟩ : ∃ R2, atMostQ true s.now (coefL c.terms s.now.length) c.k Q = R2 := ⟨_, rfl⟩
    have HRf : Hid (R = Rb) := by show _ = _; rw [HQ.out, if_pos h3, ← hRab]; simp [h3]
    clear h3 HQ
    obtain ⟨x1, x3⟩ := LinC.of HG.out HK1.out
    go_wp2_with fail
    go_quiet ((fail))
    rename_i nq _
    obtain ⟨w2, hw2⟩ : ∃ w2, w1.drewN nq = w2 := ⟨_, rfl⟩
    have hb2 : Below w1.heap.size w1 w2 := by rw [← hw2]; exact bl_drewN w1 nq
    rw [hw2]
    have HL2 : Hid (LfQ B lp g p nv mv s Q w2) := HL1.out.below hb2
    have HK2 : Hid (Kq B W w2) := HK1.out.next hb2 HL1.out.size
    have HI2 : Hid (IntsK B w2 v (coefL c.terms s.now.length)) := HI1.out.kq (Kq.of_below hb2 HL1.out.size)
    clear hw2 hb2 x1 x3
    go_wp2_with fail
    have HLdb : Hid (LfQ B lp g p nv mv s Q w2.drew) := HL2.out.below (Below.refl _ _).drew
    have HKdb : Hid (Kq B W w2.drew) := HK2.out.next (Below.refl _ _).drew HL2.out.size
    have HIdb : Hid (IntsK B w2.drew v (coefL c.terms s.now.length)) := HI2.out.kq (Kq.of_below (Below.refl _ _).drew HL2.out.size)
    go_region_held3 (fun w' => w'.cell? ⟨w.heap.size, 1, none⟩ = some (.int .i64 c.op) ∧ w'.cell? ⟨w.heap.size, 3, none⟩ = some (.int .i64 c.k))
      (first | exact LinC.of HG.out HK5b.out | exact LinC.of HG.out HK4b.out | exact LinC.of HG.out HKdb.out)
      (first | (go_at_call 81; refine calls_at (HTn.out _) (by with_reducible rfl) (by with_reducible rfl) ?_; rintro e w4b ⟨rfl, hb4⟩; (have HL4b : Hid (LfQ B lp g p nv mv s Q w4b) := HLdb.out.below hb4); (have HK4b : Hid (Kq B W w4b) := HKdb.out.next hb4 HLdb.out.size); (have HI4b : Hid (IntsK B w4b v (coefL c.terms s.now.length)) := HIdb.out.kq (Kq.of_below hb4 HLdb.out.size)); clear hb4) | (go_at_call 80; refine calls_at (HAm.out true w4b Q v HL4b.out HI4b.out) (by with_reducible rfl) (by with_reducible rfl) ?_; rintro e w5b ⟨he, hL5, hk5⟩; rw [hRab] at he hL5; subst he; (have HL5b : Hid (∀ Q', Rb = some Q' → LfQ B lp g p nv mv s Q' w5b) := hL5); (have HK5b : Hid (Kq B W w5b) := HK4b.out.trans hk5); (have HI5b : Hid (IntsK B w5b v (coefL c.terms s.now.length)) := HI4b.out.kq hk5); clear hL5 hk5))
    cases Rb with
    | none =>
      go_wp2_with fail
      go_ret
      exact ⟨by rw [HRf.out]; rfl, (fun Q' h => by rw [HRf.out] at h; cases h), HKW.out.trans HK5b.out⟩
    | some Qb =>
      go_wp2_with fail
      go_ret
      exact ⟨by rw [HRf.out]; rfl, (fun Q' h => by rw [HRf.out] at h; exact HL5b.out Q' h), HKW.out.trans HK5b.out⟩
  have e3 : (c.op != 3) = true := by simpa using h3
  obtain ⟨Ra, hRaa⟩ : ∃ R2, atMostQ false s.now (coefL c.terms s.now.length) c.k Q = R2 := ⟨_, rfl⟩
  have HQ2 : Hid (R = Ra.bind fun Q1 => if c.op = 1 then some Q1 else atMostQ true s.now (coefL c.terms s.now.length) c.k Q1) := by show _ = _; rw [HQ.out, if_neg h3, hRaa]
  clear HQ
  go_wp2_with fail
  have HLda : Hid (LfQ B lp g p nv mv s Q w1.drew) := HL1.out.below (Below.refl _ _).drew
  have HKda : Hid (Kq B W w1.drew) := HK1.out.next (Below.refl _ _).drew HL1.out.size
  have HIda : Hid (IntsK B w1.drew v (coefL c.terms s.now.length)) := HI1.out.kq (Kq.of_below (Below.refl _ _).drew HL1.out.size)
  go_region_held3 (fun w' => w'.cell? ⟨w.heap.size, 1, none⟩ = some (.int .i64 c.op) ∧ w'.cell? ⟨w.heap.size, 3, none⟩ = some (.int .i64 c.k))
    (first | exact LinC.of HG.out HK5a.out | exact LinC.of HG.out HK4a.out | exact LinC.of HG.out HKda.out)
    (first | (go_at_call 79; refine calls_at (HU.out _) (by with_reducible rfl) (by with_reducible rfl) ?_; rintro e w4a ⟨rfl, hb4⟩; (have HL4a : Hid (LfQ B lp g p nv mv s Q w4a) := HLda.out.below hb4); (have HK4a : Hid (Kq B W w4a) := HKda.out.next hb4 HLda.out.size); (have HI4a : Hid (IntsK B w4a v (coefL c.terms s.now.length)) := HIda.out.kq (Kq.of_below hb4 HLda.out.size)); clear hb4) | (go_at_call 80; refine calls_at (HAm.out false w4a Q v HL4a.out HI4a.out) (by with_reducible rfl) (by with_reducible rfl) ?_; rintro e w5a ⟨he, hL5, hk5⟩; rw [hRaa] at he hL5; subst he; (have HL5a : Hid (∀ Q', Ra = some Q' → LfQ B lp g p nv mv s Q' w5a) := hL5); (have HK5a : Hid (Kq B W w5a) := HK4a.out.trans hk5); (have HI5a : Hid (IntsK B w5a v (coefL c.terms s.now.length)) := HI4a.out.kq hk5); clear hL5 hk5))
  cases Ra with
  | none =>
    have HRf : Hid (R = none) := HQ2.out
    go_wp2_with fail
    go_ret
    exact ⟨by rw [HRf.out]; rfl, (fun Q' h => by rw [HRf.out] at h; cases h), HKW.out.trans HK5a.out⟩
  | some Qa =>
  have HLa : Hid (LfQ B lp g p nv mv s Qa w5a) := HL5a.out Qa rfl
  by_cases h1 : c.op = 1
  · have e1 : (c.op == 1) = true := by simpa using h1
    have HRf : Hid (R = some Qa) := HQ2.out.trans (if_pos h1)
    clear h1 h3
    obtain ⟨x1, x3⟩ := LinC.of HG.out HK5a.out
    go_wp2_with fail
    go_quiet ((fail))
    rename_i nq _
    go_wp2_with fail
    go_ret
    refine ⟨by rw [HRf.out]; rfl, (fun Q' h => ?_), (HKW.out.trans HK5a.out).next (bl_drewN w5a nq) HLa.out.size⟩
    rw [HRf.out] at h
    injection h with h
    rw [← h]
    exact HLa.out.below (bl_drewN w5a nq)
  · have e1 : (c.op == 1) = false := by simpa using h1
    obtain ⟨Rb, hRab⟩ : ∃ R2, atMostQ true s.now (coefL c.terms s.now.length) c.k Qa = R2 := ⟨_, rfl⟩
    have HRf : Hid (R = Rb) := by show _ = _; rw [HQ2.out]; exact (if_neg h1).trans hRab
    clear h1 h3
    go_wp2_with fail
    have HLdb : Hid (LfQ B lp g p nv mv s Qa w5a.drew) := HLa.out.below (Below.refl _ _).drew
    have HKdb : Hid (Kq B W w5a.drew) := HK5a.out.next (Below.refl _ _).drew HLa.out.size
    have HIdb : Hid (IntsK B w5a.drew v (coefL c.terms s.now.length)) := HI5a.out.kq (Kq.of_below (Below.refl _ _).drew HLa.out.size)
    go_region_held3 (fun w' => w'.cell? ⟨w.heap.size, 1, none⟩ = some (.int .i64 c.op) ∧ w'.cell? ⟨w.heap.size, 3, none⟩ = some (.int .i64 c.k))
      (first | exact LinC.of HG.out HK5b.out | exact LinC.of HG.out HK4b.out | exact LinC.of HG.out HKdb.out)
      (first | (go_at_call 81; refine calls_at (HTn.out _) (by with_reducible rfl) (by with_reducible rfl) ?_; rintro e w4b ⟨rfl, hb4⟩; (have HL4b : Hid (LfQ B lp g p nv mv s Qa w4b) := HLdb.out.below hb4); (have HK4b : Hid (Kq B W w4b) := HKdb.out.next hb4 HLdb.out.size); (have HI4b : Hid (IntsK B w4b v (coefL c.terms s.now.length)) := HIdb.out.kq (Kq.of_below hb4 HLdb.out.size)); clear hb4) | (go_at_call 80; refine calls_at (HAm.out true w4b Qa v HL4b.out HI4b.out) (by with_reducible rfl) (by with_reducible rfl) ?_; rintro e w5b ⟨he, hL5, hk5⟩; rw [hRab] at he hL5; subst he; (have HL5b : Hid (∀ Q', Rb = some Q' → LfQ B lp g p nv mv s Q' w5b) := hL5); (have HK5b : Hid (Kq B W w5b) := HK4b.out.trans hk5); (have HI5b : Hid (IntsK B w5b v (coefL c.terms s.now.length)) := HI4b.out.kq hk5); clear hL5 hk5))
    cases Rb with
    | none =>
      go_wp2_with fail
      go_ret
      exact ⟨by rw [HRf.out]; rfl, (fun Q' h => by rw [HRf.out] at h; cases h), HKW.out.trans HK5b.out⟩
    | some Qb =>
      go_wp2_with fail
      go_ret
      exact ⟨by rw [HRf.out]; rfl, (fun Q' h => by rw [HRf.out] at h; exact HL5b.out Q' h), HKW.out.trans HK5b.out⟩
end Go.Proofs.YtlcegpnnanhloaaGreatDoor
