/-
  Put together: DtLike, DtPlayB, DtPlayC, DtPlayD.
-/
import Derived.Test.YtchpapppkmnfnaaGreatDoorJ41
import Derived.Test.YtchpapppkmnfnaaGreatDoorJ39
namespace Go.Proofs.YtchpapppkmnfnaaGreatDoor
open Go.RowKit

set_option maxRecDepth 10000 in
set_option maxHeartbeats 4000000 in
theorem like_any {B P : Nat} {O : Nat → Prop} {s : St} (w : World) (h : PaAt B P O w s) (hT : Tz w) (hs : 0 < w.heap.size) : Calls Tryz.prog 18 #[.pointer (some ⟨P, 0, none⟩)] w fun e w' => e = .returned (.bool true) ∧ Below w.heap.size w w' := by
  obtain ⟨p, nv, mv, r, S, Bs, h1, h2, h3, _⟩ := h.ex
  have hPl := h.lt P h.op
  have HS : Hid (∀ w', Below w.heap.size w w' → w'.cell? ⟨P, 0, none⟩ = some (.pointer (some ⟨p, 0, none⟩)) ∧ w'.cell? ⟨P, 1, none⟩ = some (.pointer (some ⟨r, 0, none⟩)) ∧ Below w.heap.size w w') := fun w' hb => by
    have f := (hb.block P hPl).trans h1
    exact ⟨cell_of f 0, cell_of f 1, hb⟩
  have hn := h2.n32
  have HV1 : Hid (∀ w', Below w.heap.size w w' → Calls Tryz.prog 19 #[.pointer (some ⟨p, 0, none⟩)] w' fun e w2 => e = .returned (.int .i64 (s.now.length : Int)) ∧ Below w'.heap.size w' w2) := fun w' hb => (vars_any _ p _ _ s w' (h2.below hb)).mono fun e w2 hq => ⟨hq.1, by rw [hq.2]; exact Below.refl _ _⟩
  have HV2 : Hid (∀ w', Below w.heap.size w w' → Calls Tryz.prog 10 #[.pointer (some ⟨r, 0, none⟩)] w' fun e w2 => e = .returned (.int .i64 (s.now.length : Int)) ∧ Below w'.heap.size w' w2) := fun w' hb => (rVars_any w' (h3.below hb)).mono fun e w2 hq => ⟨by rw [hq.1, List.length_map], by rw [hq.2]; exact Below.refl _ _⟩
  have HO1 : Hid (∀ w', Below w.heap.size w w' → Calls Tryz.prog 15 #[.pointer (some ⟨p, 0, none⟩)] w' (VsOut (openL s.now s.now.length) w')) := fun w' hb => open_any _ p _ _ s w' (h2.below hb)
  have HO2 : Hid (∀ w', Below w.heap.size w w' → Calls Tryz.prog 16 #[.pointer (some ⟨r, 0, none⟩)] w' (VsOut (openL s.now s.now.length) w')) := fun w' hb => by
    have := rOpen_any w' (h3.below hb)
    rw [List.length_map, open_rel h.al _ (Nat.le_refl _)] at this
    exact this
  have HA : Hid (∀ x : Int, ∃ lo hi sz L hs, (-1000000000 ≤ lo ∧ lo ≤ hi ∧ hi ≤ 2000000000 ∧ L.length ≤ 64) ∧ ∀ w', Below w.heap.size w w' → Asks p r x lo hi sz L hs w') := fun x => by
    obtain ⟨lo, hi, sz, L, hs', q1, q2⟩ := asks_at x h2 h3 h.al
    exact ⟨lo, hi, sz, L, hs', q1, fun w' hb => q2 w' hb (hT.below hb hs)⟩
  obtain ⟨OL, hOL⟩ : ∃ OL, openL s.now s.now.length = OL := ⟨_, rfl⟩
  have hol : OL.length ≤ 1000 := by rw [← hOL]; have := openL_len s.now s.now.length; omega
  rw [hOL] at HO1 HO2
  obtain ⟨n, hnn⟩ : ∃ n, s.now.length = n := ⟨_, rfl⟩
  rw [hnn] at HV1 HV2 hn
  clear h h1 h2 h3 hPl hT hOL hnn
  go_enter Tryz.func18, Tryz.ntmps18
  go_wp2_with fail
  go_region_held3 (fun w' => w'.cell? ⟨P, 0, none⟩ = some (.pointer (some ⟨p, 0, none⟩)) ∧ w'.cell? ⟨P, 1, none⟩ = some (.pointer (some ⟨r, 0, none⟩)) ∧ Below w.heap.size w w')
    (first | exact HS.out _ (Below.refl _ _).drew | exact HS.out _ (bl_next (And.right (And.right (by assumption))) (by assumption)) | assumption)
    (first
      | (go_at_call 19; refine calls_at (HV1.out _ (And.right (And.right (by assumption)))) (by with_reducible rfl) (by with_reducible rfl) ?_; rintro e w1 ⟨rfl, hb1⟩)
      | (go_at_call 10; refine calls_at (HV2.out _ (And.right (And.right (by assumption)))) (by with_reducible rfl) (by with_reducible rfl) ?_; rintro e w2 ⟨rfl, hb2⟩)
      | (go_at_call 15; refine calls_at (HO1.out _ (And.right (And.right (by assumption)))) (by with_reducible rfl) (by with_reducible rfl) ?_; rintro e w3 ⟨v3, rfl, ho3, hb3⟩)
      | (go_at_call 16; refine calls_at (HO2.out _ (And.right (And.right (by assumption)))) (by with_reducible rfl) (by with_reducible rfl) ?_; rintro e w4 ⟨v4, rfl, ho4, hb4⟩; (have HI4 : Hid (Calls Tryz.prog 12 #[v3, v4] w4 fun e w' => e = .returned (.bool true) ∧ Below w4.heap.size w4 w') := ints_same _ _ v3 v4 OL w4 (own_below ho3 hb4) ho4 hol); clear ho3 ho4)
      | (go_at_call 12; refine calls_at HI4.out (by with_reducible rfl) (by with_reducible rfl) ?_; rintro e w5 ⟨rfl, hb5⟩))
  have HB5 : Hid (Below w.heap.size w w5) := And.right (And.right (by assumption))
  go_wp2_with fail
  go_loopw [3] (fun iv wr => ∃ k : Nat, iv = .int .i64 ((k : Int) - 1) ∧ k ≤ n + 2 ∧ Hid (Below w.heap.size w wr)) (fun iv _ => ((n : Int) + 2 - intOf iv).toNat)
  case atStart => exact ⟨0, rfl, Nat.zero_le _, HB5⟩
  case round =>
    obtain ⟨k, rfl, hk, HBr⟩ := hrel
    obtain ⟨y0, y1, _⟩ := HS.out wr HBr.out
    go_wp2_with fail
    refine calls_at (HV2.out wr HBr.out) (by with_reducible rfl) (by with_reducible rfl) ?_
    rintro e w6 ⟨rfl, hb6⟩
    have HB6 : Hid (Below w.heap.size w w6) := bl_next HBr.out hb6
    clear hb6 y0 y1
    by_cases hkn : k < n + 2
    · have hkI : (k : Int) - 1 ≤ (n : Int) := by omega
      obtain ⟨lo, hi, sz, L, hs', hbd, hq⟩ := HA.out ((k : Int) - 1)
      have HQ : Hid (∀ w', Below w.heap.size w w' → Asks p r ((k : Int) - 1) lo hi sz L hs' w') := hq
      obtain ⟨hb1, hb2, hb3, hb4⟩ := hbd
      have hL1 : L.length ≤ 1000 := by omega
      have hlo : (lo == lo) = true := by simp
      have hhi : (hi == hi) = true := by simp
      have hsz : (sz == sz) = true := by simp
      clear hq
      go_wp2_with fail
      go_cut [97] from 39 to 130 (fun s97 wx => s97 = .bool false ∧ Hid (Below w.heap.size w wx))
      case first =>
        go_region_held3 (fun w' => w'.cell? ⟨P, 0, none⟩ = some (.pointer (some ⟨p, 0, none⟩)) ∧ w'.cell? ⟨P, 1, none⟩ = some (.pointer (some ⟨r, 0, none⟩)) ∧ Below w.heap.size w w')
          (first | exact HS.out _ HB6.out.drew | exact HS.out _ (bl_next (And.right (And.right (by assumption))) (by assumption)) | assumption)
          (first
            | (go_at_call 24; refine calls_at (HQ.out _ (And.right (And.right (by assumption)))).lo1 (by with_reducible rfl) (by with_reducible rfl) ?_; rintro e w7 ⟨rfl, hbw7⟩)
            | (go_at_call 37; refine calls_at (HQ.out _ (And.right (And.right (by assumption)))).lo2 (by with_reducible rfl) (by with_reducible rfl) ?_; rintro e w8 ⟨rfl, hbw8⟩)
            | (go_at_call 23; refine calls_at (HQ.out _ (And.right (And.right (by assumption)))).hi1 (by with_reducible rfl) (by with_reducible rfl) ?_; rintro e w9 ⟨rfl, hbw9⟩)
            | (go_at_call 59; refine calls_at (HQ.out _ (And.right (And.right (by assumption)))).hi2 (by with_reducible rfl) (by with_reducible rfl) ?_; rintro e w10 ⟨rfl, hbw10⟩)
            | (go_at_call 20; refine calls_at (HQ.out _ (And.right (And.right (by assumption)))).sz1 (by with_reducible rfl) (by with_reducible rfl) ?_; rintro e w11 ⟨rfl, hbw11⟩)
            | (go_at_call 60; refine calls_at (HQ.out _ (And.right (And.right (by assumption)))).sz2 (by with_reducible rfl) (by with_reducible rfl) ?_; rintro e w12 ⟨rfl, hbw12⟩)
            | (go_at_call 11; refine calls_at (HQ.out _ (And.right (And.right (by assumption)))).vs1 (by with_reducible rfl) (by with_reducible rfl) ?_; rintro e w13 ⟨v3, rfl, ho3, hb13⟩)
            | (go_at_call 13; refine calls_at (HQ.out _ (And.right (And.right (by assumption)))).vs2 (by with_reducible rfl) (by with_reducible rfl) ?_; rintro e w14 ⟨v4, rfl, ho4, hb14⟩; (have HI4 : Hid (Calls Tryz.prog 12 #[v3, v4] w14 fun e w' => e = .returned (.bool true) ∧ Below w14.heap.size w14 w') := ints_same _ _ v3 v4 L w14 (own_below ho3 hb14) ho4 hL1); clear ho3 ho4)
            | (go_at_call 12; refine calls_at HI4.out (by with_reducible rfl) (by with_reducible rfl) ?_; rintro e w15 ⟨rfl, hb15⟩))
        have HB15 : Hid (Below w.heap.size w w15) := And.right (And.right (by assumption))
        go_wp2_with fail
        go_meet
        exact ⟨by simp, HB15⟩
      case rest =>
      obtain ⟨rfl, HBx⟩ := hcut
      rename World => wx
      obtain ⟨y0, y1, _⟩ := HS.out wx HBx.out
      have el : IntKind.i64.wrap (lo - 2) = lo - 2 := wrap_id (by omega) (by omega)
      go_wp2_with fail
      refine calls_at (HQ.out wx HBx.out).lo2 (by with_reducible rfl) (by with_reducible rfl) ?_
      rintro e w16 ⟨rfl, hb16⟩
      have HB16 : Hid (Below w.heap.size w w16) := bl_next HBx.out hb16
      clear hb16 y0 y1
      go_wp2_with fail
      go_loopw [4] (fun iv wz => ∃ j : Nat, iv = .int .i64 (lo - 2 + (j : Int)) ∧ (j : Int) ≤ hi - lo + 5 ∧ Hid (Below w.heap.size w wz)) (fun iv _ => (hi + 3 - intOf iv).toNat)
      case atStart => exact ⟨0, by simp, by omega, HB16⟩
      case round =>
        obtain ⟨j, rfl, hj, HBz⟩ := hrel
        rename World => wz
        obtain ⟨y0, y1, _⟩ := HS.out wz HBz.out
        go_wp2_with fail
        refine calls_at (HQ.out wz HBz.out).hi2 (by with_reducible rfl) (by with_reducible rfl) ?_
        rintro e w17 ⟨rfl, hb17⟩
        have HB17 : Hid (Below w.heap.size w w17) := bl_next HBz.out hb17
        clear hb17 y0 y1
        have eh : IntKind.i64.wrap (hi + 2) = hi + 2 := wrap_id (by omega) (by omega)
        by_cases hjn : lo - 2 + (j : Int) ≤ hi + 2
        · obtain ⟨v, hv⟩ : ∃ v, lo - 2 + (j : Int) = v := ⟨_, rfl⟩
          have hbb : (hs' v == hs' v) = true := by simp
          have HV3 : Hid (lo - 2 + (j : Int) = v) := hv
          rw [hv] at hjn
          rw [hv]
          have hvb : -1000000002 ≤ v ∧ v ≤ 2000000002 := by omega
          clear hv
          go_wp2_with fail
          go_cut [130] from 116 to 130 (fun s130 wx => s130 = .bool false ∧ Hid (Below w.heap.size w wx))
          case first =>
            go_region_held3 (fun w' => w'.cell? ⟨P, 0, none⟩ = some (.pointer (some ⟨p, 0, none⟩)) ∧ w'.cell? ⟨P, 1, none⟩ = some (.pointer (some ⟨r, 0, none⟩)) ∧ Below w.heap.size w w')
              (first | exact HS.out _ HB17.out.drew | exact HS.out _ (bl_next (And.right (And.right (by assumption))) (by assumption)) | assumption)
              (first
                | (go_at_call 25; refine calls_at ((HQ.out _ (And.right (And.right (by assumption)))).hs1 v) (by with_reducible rfl) (by with_reducible rfl) ?_; rintro e w18 ⟨rfl, hb18⟩)
                | (go_at_call 61; refine calls_at ((HQ.out _ (And.right (And.right (by assumption)))).hs2 v) (by with_reducible rfl) (by with_reducible rfl) ?_; rintro e w19 ⟨rfl, hb19⟩))
            have HB19 : Hid (Below w.heap.size w w19) := And.right (And.right (by assumption))
            go_wp2_with fail
            go_meet
            exact ⟨by simp, HB19⟩
          case rest =>
          obtain ⟨rfl, HBy⟩ := hcut
          have ev : IntKind.i64.wrap (v + 1) = v + 1 := wrap_id (by omega) (by omega)
          go_wp2_with fail
          go_roundw
          case rel => exact ⟨j + 1, by have e3 := HV3.out; simp; omega, by have := HV3.out; omega, HBy⟩
          case measure => (have e3 := HV3.out; simp only [intOf]; omega)
        · have hjn' : hi + 2 < lo - 2 + (j : Int) := by omega
          go_wp2_with fail
          go_roundw
          case rel => exact ⟨k + 1, by first | rfl | go_num | (simp; omega), by omega, HB17⟩
          case measure => simp [intOf]; omega
    · have hkI : (n : Int) < (k : Int) - 1 := by omega
      go_wp2_with fail
      go_ret
      exact ⟨rfl, HB6.out⟩
end Go.Proofs.YtchpapppkmnfnaaGreatDoor

namespace Go.Proofs.YtchpapppkmnfnaaGreatDoor
open Go.RowKit

set_option maxRecDepth 10000 in
set_option maxHeartbeats 1000000 in
theorem plays_look {B P : Nat} {O : Nat → Prop} {s : St} (k x v n : Int) (w : World) (h : PaAt B P O w s) (hT : Tz w) (hs : 0 < w.heap.size) : Calls Tryz.prog 9 #[.pointer (some ⟨P, 0, none⟩), .agg #[.int .i64 4, .int .i64 k, .int .i64 x, .int .i64 v, .int .i64 n]] w (PlOut B P O s w) := by
  have hBw : B ≤ w.heap.size := Nat.le_of_lt (Nat.lt_of_le_of_lt (h.lo P h.op) (h.lt P h.op))
  obtain ⟨W, hW⟩ : ∃ W, w.alloc (.cells #[.int .i64 4, .int .i64 k, .int .i64 x, .int .i64 v, .int .i64 n] 63) = W := ⟨_, rfl⟩
  have hb0 : Below w.heap.size w W := by rw [← hW]; exact (Below.refl _ _).alloc (Nat.le_refl _) _
  have g0 : W.heap[w.heap.size]? = some (.cells #[.int .i64 4, .int .i64 k, .int .i64 x, .int .i64 v, .int .i64 n] 63 (0, 0)) := by rw [← hW]; exact heap_alloc_new w _
  have c0 : W.cell? ⟨w.heap.size, 0, none⟩ = some (.int .i64 4) := cell_of g0 0
  have HC : Hid (Calls Tryz.prog 18 #[.pointer (some ⟨P, 0, none⟩)] W fun e w' => e = .returned (.bool true) ∧ Below W.heap.size W w') := like_any W (h.below hb0) (hT.below hb0 hs) (Nat.lt_of_lt_of_le hs hb0.size)
  have HE : Hid (∀ w', Below W.heap.size W w' → ∃ O' s', PaAt B P O' w' s' ∧ s'.marks ≤ s.marks + 1 ∧ SStp B O w w' ∧ Grown O w w' O') := fun w' hb => ⟨O, s, (h.below hb0).below hb, by omega, SStp.of_below (bl_next hb0 hb) hBw, Grown.refl _ _ _⟩
  clear h hb0 g0 hT
  go_enter Tryz.func9, Tryz.ntmps9
  go_wp2_with fail
  refine calls_at HC.out (by with_reducible rfl) (by with_reducible rfl) ?_
  rintro e w2 ⟨rfl, hb2⟩
  have HE2 : Hid (∃ O' s', PaAt B P O' w2 s' ∧ s'.marks ≤ s.marks + 1 ∧ SStp B O w w2 ∧ Grown O w w2 O') := HE.out w2 hb2
  clear hb2
  go_wp2_with fail
  go_ret
  exact ⟨rfl, HE2.out⟩
set_option maxRecDepth 10000 in
set_option maxHeartbeats 1000000 in
theorem plays_none {B P : Nat} {O : Nat → Prop} {s : St} (kd k x v n : Int) (w : World) (h : PaAt B P O w s) (h1 : kd ≠ 1) (h2 : kd ≠ 2) (h3 : kd ≠ 3) (h4 : kd ≠ 4) (h5 : kd ≠ 5) : Calls Tryz.prog 9 #[.pointer (some ⟨P, 0, none⟩), .agg #[.int .i64 kd, .int .i64 k, .int .i64 x, .int .i64 v, .int .i64 n]] w (PlOut B P O s w) := by
  have hBw : B ≤ w.heap.size := Nat.le_of_lt (Nat.lt_of_le_of_lt (h.lo P h.op) (h.lt P h.op))
  obtain ⟨W, hW⟩ : ∃ W, w.alloc (.cells #[.int .i64 kd, .int .i64 k, .int .i64 x, .int .i64 v, .int .i64 n] 63) = W := ⟨_, rfl⟩
  have hb0 : Below w.heap.size w W := by rw [← hW]; exact (Below.refl _ _).alloc (Nat.le_refl _) _
  have g0 : W.heap[w.heap.size]? = some (.cells #[.int .i64 kd, .int .i64 k, .int .i64 x, .int .i64 v, .int .i64 n] 63 (0, 0)) := by rw [← hW]; exact heap_alloc_new w _
  have c0 : W.cell? ⟨w.heap.size, 0, none⟩ = some (.int .i64 kd) := cell_of g0 0
  have HE : Hid (∃ O' s', PaAt B P O' W s' ∧ s'.marks ≤ s.marks + 1 ∧ SStp B O w W ∧ Grown O w W O') := ⟨O, s, h.below hb0, by omega, SStp.of_below hb0 hBw, Grown.refl _ _ _⟩
  have e1 : (kd == 1) = false := by simpa using h1
  have e2 : (kd == 2) = false := by simpa using h2
  have e3 : (kd == 3) = false := by simpa using h3
  have e4 : (kd == 4) = false := by simpa using h4
  have e5 : (kd == 5) = false := by simpa using h5
  clear h hb0 g0
  go_enter Tryz.func9, Tryz.ntmps9
  go_wp2_with fail
  go_ret
  exact ⟨rfl, HE.out⟩

/-- The old store and the document's copy, as they go on by themselves. -/
structure Cy (B n : Nat) (T : Nat → Prop) (w6 : World) (p r : Nat) (w : World) : Prop where
  ex : ∃ O t, Duo B O w p r t (t.now.map Dm.all) (mksOf t) ∧ Alls t ∧ AllsM t ∧ t.now.length = n ∧ Ch B T w6 w O
structure Cz (B n : Nat) (T : Nat → Prop) (w6 : World) (p r : Nat) (k x v : Int) (w : World) : Prop where
  ex : ∃ O t, Duo B O w p r (t.cut k x v) (t.now.map Dm.all) (mksOf t) ∧ Alls t ∧ AllsM t ∧ t.now.length = n ∧ Ch B T w6 w O
structure Cb (B n : Nat) (T : Nat → Prop) (w6 : World) (p r : Nat) (w : World) : Prop where
  ex : ∃ O t, Duo B O w p r (t.back 0) (t.now.map Dm.all) (mksOf t) ∧ Alls t ∧ AllsM t ∧ t.noted.length = t.marks * t.now.length ∧ Ch B T w6 w O
section
variable {B n : Nat} {T : Nat → Prop} {w6 w w' : World} {p r : Nat}
theorem Duo.size {O : Nat → Prop} {s : St} {LL : List (List Int)} {MM : List (List (List Int))} (h : Duo B O w p r s LL MM) : B ≤ w.heap.size := by
  obtain ⟨nv, mv, S, Bs, h2, h3, h4, _⟩ := h.ex
  exact Nat.le_trans h4 h2.size
theorem Cy.below (h : Cy B n T w6 p r w) (hb : Below w.heap.size w w') : Cy B n T w6 p r w' := by
  obtain ⟨O, t, h1, h2, h3, h4, h5⟩ := h.ex
  exact ⟨O, t, h1.below hb, h2, h3, h4, h5.read hb h1.size⟩
theorem Cy.vars (h : Cy B n T w6 p r w) : Calls Tryz.prog 10 #[.pointer (some ⟨r, 0, none⟩)] w fun e w' => e = .returned (.int .i64 (n : Int)) ∧ w' = w := by
  obtain ⟨O, t, h1, h2, h3, h4, h5⟩ := h.ex
  obtain ⟨nv, mv, S, Bs, a2, a3, _⟩ := h1.ex
  have := rVars_any w a3
  rw [List.length_map, h4] at this
  exact this
theorem Cy.lo (h : Cy B n T w6 p r w) (x : Nat) (hx : x < n) : Calls Tryz.prog 37 #[.pointer (some ⟨r, 0, none⟩), .int .i64 (x : Int)] w fun e w' => (∃ z, e = .returned (.int .i64 z)) ∧ Below w.heap.size w w' := by
  obtain ⟨O, t, h1, h2, h3, h4, h5⟩ := h.ex
  obtain ⟨nv, mv, S, Bs, a2, a3, _⟩ := h1.ex
  have hq : x < t.now.length := by omega
  obtain ⟨ho, hA⟩ := h2 _ (List.getElem_mem hq)
  exact (rLo_in x (by rw [List.length_map]; exact hq) (by rw [List.getElem_map]; exact all_pos ho hA) w a3).mono fun e w' hq => ⟨⟨_, hq.1⟩, hq.2⟩
theorem Cy.cut1 {w0 : World} (h : Cy B n T w6 p r w0) (hb : Below w0.heap.size w0 w) (k x v : Int) : Calls Tryz.prog 21 #[.pointer (some ⟨p, 0, none⟩), .agg #[.int .i64 k, .int .i64 x, .int .i64 v]] w fun e w' => (∃ a b, e = .returned (.tuple #[.bool a, .bool b])) ∧ Cz B n T w6 p r k x v w' ∧ ∀ b, w0.heap.size ≤ b → b < w.heap.size → w'.heap[b]? = w.heap[b]? := by
  obtain ⟨O, t, h1, h2, h3, h4, h5⟩ := h.ex
  refine ((h1.below hb).cut1 k x v).mono fun e w' hq => ?_
  obtain ⟨q1, O', q2, q3, q4⟩ := hq
  exact ⟨⟨_, _, q1⟩, ⟨O', t, q2, h2, h3, h4, (h5.read hb h1.size).next q3 q4⟩, fun b a1 a2 => q3.off.block b a2 fun e => by have := h1.lt b e; omega⟩
theorem Cz.cut2 {k x v : Int} (h : Cz B n T w6 p r k x v w) : Calls Tryz.prog 33 #[.pointer (some ⟨r, 0, none⟩), .agg #[.int .i64 k, .int .i64 x, .int .i64 v]] w fun e w' => (∃ a b, e = .returned (.tuple #[.bool a, .bool b])) ∧ Cy B n T w6 p r w' := by
  obtain ⟨O, t, h1, h2, h3, h4, h5⟩ := h.ex
  refine (h1.cut2 k x v).mono fun e w' hq => ?_
  obtain ⟨q1, O', q2, q3, q4⟩ := hq
  obtain ⟨e1, e2, e3⟩ := cut_len t k x v
  refine ⟨⟨_, _, q1⟩, ⟨O', t.cut k x v, ?_, alls_cut h2 k x v, ?_, by rw [e1]; exact h4, h5.next q3 q4⟩⟩
  · rw [(cut_rel h2 k x v).1, cut_mks]
    exact q2
  · intro d hd
    rw [e2] at hd
    exact h3 d hd
theorem Cy.back1 (h : Cy B n T w6 p r w) : Calls Tryz.prog 26 #[.pointer (some ⟨p, 0, none⟩), .int .i64 0] w fun e w' => (∃ a, e = .returned (.bool a)) ∧ Cb B n T w6 p r w' := by
  obtain ⟨O, t, h1, h2, h3, h4, h5⟩ := h.ex
  have hl : t.noted.length = t.marks * t.now.length := by
    obtain ⟨_, _, _, _, a2, _⟩ := h1.ex
    exact a2.len
  refine (h1.back1 0).mono fun e w' hq => ?_
  obtain ⟨q1, O', q2, q3, q4⟩ := hq
  exact ⟨⟨_, q1⟩, ⟨O', t, q2, h2, h3, hl, h5.next q3 q4⟩⟩
theorem Cb.back2 (h : Cb B n T w6 p r w) : Calls Tryz.prog 35 #[.pointer (some ⟨r, 0, none⟩), .int .i64 0] w fun e w' => (∃ a, e = .returned (.bool a)) ∧ ∃ O t, Duo B O w' p r t (t.now.map Dm.all) (mksOf t) ∧ Alls t ∧ AllsM t ∧ Ch B T w6 w' O := by
  obtain ⟨O, t, h1, h2, h3, h4, h5⟩ := h.ex
  refine (h1.back2 0).mono fun e w' hq => ?_
  obtain ⟨q1, O', q2, q3, q4⟩ := hq
  obtain ⟨e1, e2, e3, e4, e5, _⟩ := back_rel h2 h3 h4 0
  refine ⟨⟨_, q1⟩, O', t.back 0, ?_, e4, e5, h5.next q3 q4⟩
  rw [e2, e3]
  exact q2
end
end Go.Proofs.YtchpapppkmnfnaaGreatDoor

namespace Go.Proofs.YtchpapppkmnfnaaGreatDoor
open Go.RowKit

/-- A store and its copy, the document's and its copy: two pairs apart. -/
structure Fo (B P n L : Nat) (O T N : Nat → Prop) (p p2 r r2 : Nat) (s : St) (w : World) : Prop where
  old : Cy B n T w p r2 w
  new : Duo B N w p2 r s (s.now.map Dm.all) (mksOf s)
  apart : ∀ k, T k → ¬ N k
  nt : ¬ T P
  nn : ¬ N P
  box : w.heap[P]? = some (.cells #[.pointer (some ⟨p2, 0, none⟩), .pointer (some ⟨r, 0, none⟩)] 39 (0, 0))
  lo : B ≤ P
  al : Alls s
  alm : AllsM s
  tO : ∀ k, T k → O k ∨ L ≤ k
  nO : ∀ k, N k → O k ∨ L ≤ k
theorem fo_of {B P : Nat} {O : Nat → Prop} {W w2 w4 w5 : World} {p r p2 r2 : Nat} {s : St} {nv mv nv2 mv2 : Value} {S S2 : Nat → Prop} {Bs : Nat} (hB : B ≤ P) (hP : P < W.heap.size) (h1 : W.heap[P]? = some (.cells #[.pointer (some ⟨p, 0, none⟩), .pointer (some ⟨r, 0, none⟩)] 39 (0, 0)))
    (h2 : StAt Bs W p nv mv s) (h3 : RsAt B S W r (s.now.map Dm.all) (mksOf s)) (h4 : B ≤ Bs) (h5 : ∀ k, Own p nv mv k → O k ∧ k ≠ P) (h6 : ∀ k, S k → O k ∧ k ≠ P) (h7 : ∀ k, Own p nv mv k → ¬ S k) (al : Alls s) (alm : AllsM s)
    (a1 : StAt W.heap.size w2 p2 nv2 mv2 s) (b1 : Below W.heap.size W w2) (b2 : Below w2.heap.size w2 w4) (a2 : RsAt w4.heap.size S2 w5 r2 (s.now.map Dm.all) (mksOf s)) (b3 : Below w4.heap.size w4 w5) :
    Fo B P s.now.length W.heap.size O (fun k => Own p nv mv k ∨ S2 k) (fun k => Own p2 nv2 mv2 k ∨ S k) p p2 r r2 s (w5.setCell ⟨P, 0, none⟩ (.pointer (some ⟨p2, 0, none⟩))) ∧ w5.heap[P]? = some (.cells #[.pointer (some ⟨p, 0, none⟩), .pointer (some ⟨r, 0, none⟩)] 39 (0, 0)) := by
  have z1 := b1.size
  have z2 := b2.size
  have z3 := b3.size
  have hBs : Bs ≤ W.heap.size := h2.size
  have bW5 : Below W.heap.size W w5 := b1.trans ((b2.trans (b3.mono z2)).mono z1)
  have hP5 := (bW5.block P hP).trans h1
  have hsz : (w5.setCell ⟨P, 0, none⟩ (.pointer (some ⟨p2, 0, none⟩))).heap.size = w5.heap.size := by simp
  have ne : ∀ k, k ≠ P → (w5.setCell ⟨P, 0, none⟩ (.pointer (some ⟨p2, 0, none⟩))).heap[k]? = w5.heap[k]? := fun k hk => heap_setCell_other _ _ _ _ hk
  have o1 : ∀ k, Own p nv mv k → B ≤ k ∧ k < W.heap.size := fun k hk => ⟨Nat.le_trans h4 (own_lo h2 hk), own_lt h2 hk⟩
  have o2 : ∀ k, Own p2 nv2 mv2 k → W.heap.size ≤ k ∧ k < w2.heap.size := fun k hk => ⟨own_lo a1 hk, own_lt a1 hk⟩
  have o3 : ∀ k, S k → B ≤ k ∧ k < W.heap.size := fun k hk => ⟨h3.lo k hk, h3.lt k hk⟩
  have o4 : ∀ k, S2 k → w4.heap.size ≤ k ∧ k < w5.heap.size := fun k hk => ⟨a2.lo k hk, a2.lt k hk⟩
  have p1 : StAt Bs (w5.setCell ⟨P, 0, none⟩ (.pointer (some ⟨p2, 0, none⟩))) p nv mv s := h2.keep fun k _ hk => (ne k (h5 k hk).2).trans (bW5.block k (o1 k hk).2)
  have p2' : StAt W.heap.size (w5.setCell ⟨P, 0, none⟩ (.pointer (some ⟨p2, 0, none⟩))) p2 nv2 mv2 s := a1.keep fun k _ hk => (ne k (by have := (o2 k hk).1; omega)).trans (((b2.trans (b3.mono z2)).block k (o2 k hk).2))
  have p3 : RsAt B S (w5.setCell ⟨P, 0, none⟩ (.pointer (some ⟨p2, 0, none⟩))) r (s.now.map Dm.all) (mksOf s) := h3.keep (by rw [hsz]; omega) fun k hk => (ne k (h6 k hk).2).trans (bW5.block k (o3 k hk).2)
  have p4 : RsAt B S2 (w5.setCell ⟨P, 0, none⟩ (.pointer (some ⟨p2, 0, none⟩))) r2 (s.now.map Dm.all) (mksOf s) := by
    have := a2.keep (w' := w5.setCell ⟨P, 0, none⟩ (.pointer (some ⟨p2, 0, none⟩))) (by rw [hsz]; omega) fun k hk => ne k (by have := (o4 k hk).1; omega)
    exact { this with lo := fun k hk => by have := (o4 k hk).1; omega }
  refine ⟨⟨⟨fun k => Own p nv mv k ∨ S2 k, s, ⟨⟨nv, mv, S2, Bs, p1, p4, h4, fun k hk => .inl hk, fun k hk => .inr hk, fun k hk hS => ?_⟩, ?_, ?_⟩, al, alm, rfl, Ch.refl _ _ _⟩, ⟨⟨nv2, mv2, S, W.heap.size, p2', p3, by omega, fun k hk => .inl hk, fun k hk => .inr hk, fun k hk hS => ?_⟩, ?_, ?_⟩, ?_, ?_, ?_, ?_, hB, al, alm, ?_, ?_⟩, hP5⟩
  · have := (o1 k hk).2; have := (o4 k hS).1; omega
  · rintro k (e | e)
    · exact (o1 k e).1
    · have := (o4 k e).1; omega
  · rintro k (e | e)
    · rw [hsz]; have := (o1 k e).2; omega
    · rw [hsz]; exact (o4 k e).2
  · have := (o2 k hk).1; have := (o3 k hS).2; omega
  · rintro k (e | e)
    · have := (o2 k e).1; omega
    · exact (o3 k e).1
  · rintro k (e | e)
    · rw [hsz]; have := (o2 k e).2; omega
    · rw [hsz]; have := (o3 k e).2; omega
  · rintro k (e | e) (f | f)
    · have := (o1 k e).2; have := (o2 k f).1; omega
    · exact h7 k e f
    · have := (o4 k e).1; have := (o2 k f).2; omega
    · have := (o4 k e).1; have := (o3 k f).2; omega
  · rintro (e | e)
    · exact (h5 P e).2 rfl
    · have := (o4 P e).1; omega
  · rintro (e | e)
    · have := (o2 P e).1; omega
    · exact (h6 P e).2 rfl
  · rw [heap_setCell_same _ _ _ _ _ _ hP5]
    rfl
  · rintro k (e | e)
    · exact .inl (h5 k e).1
    · exact .inr (by have := (o4 k e).1; omega)
  · rintro k (e | e)
    · exact .inr (o2 k e).1
    · exact .inl (h6 k e).1

set_option maxRecDepth 10000 in
set_option maxHeartbeats 4000000 in
theorem plays_copy {B P : Nat} {O : Nat → Prop} {s : St} (k x v n : Int) (w : World) (h : PaAt B P O w s) (hT : Tz w) (hs : 0 < w.heap.size) (hB1 : 1 ≤ B) : Calls Tryz.prog 9 #[.pointer (some ⟨P, 0, none⟩), .agg #[.int .i64 5, .int .i64 k, .int .i64 x, .int .i64 v, .int .i64 n]] w (PlOut B P O s w) := by
  have hBw : B ≤ w.heap.size := Nat.le_of_lt (Nat.lt_of_le_of_lt (h.lo P h.op) (h.lt P h.op))
  obtain ⟨W, hW⟩ : ∃ W, w.alloc (.cells #[.int .i64 5, .int .i64 k, .int .i64 x, .int .i64 v, .int .i64 n] 63) = W := ⟨_, rfl⟩
  have hb0 : Below w.heap.size w W := by rw [← hW]; exact (Below.refl _ _).alloc (Nat.le_refl _) _
  have HB : Hid (Below w.heap.size w W) := hb0
  have g0 : W.heap[w.heap.size]? = some (.cells #[.int .i64 5, .int .i64 k, .int .i64 x, .int .i64 v, .int .i64 n] 63 (0, 0)) := by rw [← hW]; exact heap_alloc_new w _
  have c0 : W.cell? ⟨w.heap.size, 0, none⟩ = some (.int .i64 5) := cell_of g0 0
  have hA := h.below hb0
  have hTW := hT.below hb0 hs
  have hsW : 0 < W.heap.size := Nat.lt_of_lt_of_le hs hb0.size
  obtain ⟨p, nv, mv, r, S, Bs, h1, h2, h3, h4, h5, h6, h7⟩ := hA.ex
  have hPl := hA.lt P hA.op
  have HX : Hid (∀ w', Below W.heap.size W w' → w'.cell? ⟨P, 0, none⟩ = some (.pointer (some ⟨p, 0, none⟩)) ∧ w'.cell? ⟨P, 1, none⟩ = some (.pointer (some ⟨r, 0, none⟩)) ∧ (∀ i, w'.frozen? ⟨P, i, none⟩ = false) ∧ Below W.heap.size W w') := fun w' hb => by
    have f := (hb.block P hPl).trans h1
    exact ⟨cell_of f 0, cell_of f 1, frozen_of f, hb⟩
  have HCp : Hid (Calls Tryz.prog 27 #[.pointer (some ⟨p, 0, none⟩)] W (CopyOut s W)) := copy_any _ p _ _ s W h2
  have HSm : Hid (∀ w' p2 nv2 mv2, Below W.heap.size W w' → StAt W.heap.size w' p2 nv2 mv2 s → (Calls Tryz.prog 28 #[.pointer (some ⟨p2, 0, none⟩), .pointer (some ⟨p, 0, none⟩)] w' fun e w2 => e = .returned (.bool true) ∧ Below w'.heap.size w' w2) ∧ (Calls Tryz.prog 28 #[.pointer (some ⟨p, 0, none⟩), .pointer (some ⟨p2, 0, none⟩)] w' fun e w2 => e = .returned (.bool true) ∧ Below w'.heap.size w' w2)) := fun w' p2 nv2 mv2 hb hq => by
    have hTw := hTW.below hb hsW
    exact ⟨same_any _ p2 _ p _ _ _ _ s s w' hq (h2.below hb) rfl hTw, same_any _ p _ p2 _ _ _ _ s s w' (h2.below hb) hq rfl hTw⟩
  have HCr : Hid (∀ w', Below W.heap.size W w' → Calls Tryz.prog 36 #[.pointer (some ⟨r, 0, none⟩)] w' (RyOut (s.now.map Dm.all) (mksOf s) w')) := fun w' hb => rCopy_any w' (h3.below hb)
  have HFo : Hid (∀ (w2 w4 w5 : World) (p2 r2 : Nat) (nv2 mv2 : Value) (S2 : Nat → Prop), StAt W.heap.size w2 p2 nv2 mv2 s → Below W.heap.size W w2 → Below w2.heap.size w2 w4 → RsAt w4.heap.size S2 w5 r2 (s.now.map Dm.all) (mksOf s) → Below w4.heap.size w4 w5 → Fo B P s.now.length W.heap.size O (fun k => Own p nv mv k ∨ S2 k) (fun k => Own p2 nv2 mv2 k ∨ S k) p p2 r r2 s (w5.setCell ⟨P, 0, none⟩ (.pointer (some ⟨p2, 0, none⟩)))) := fun w2 w4 w5 p2 r2 nv2 mv2 S2 q1 q2 q3 q4 q5 => (fo_of (h.lo P h.op) hPl h1 h2 h3 h4 h5 h6 h7 h.al h.alm q1 q2 q3 q4 q5).1
  have HTz : Hid (∀ w', Below B W w' → Tz w' ∧ 0 < w'.heap.size) := fun w' hb => ⟨fun r hr => (hb.cell (p := ⟨0, r, none⟩) (by show 0 < B; omega)).trans (hTW r hr), Nat.lt_of_lt_of_le hsW hb.size⟩
  have HOP : Hid (O P) := h.op
  have HPB : Hid (B ≤ P ∧ B ≤ W.heap.size) := ⟨h.lo P h.op, Nat.le_trans hBw hb0.size⟩
  have hn := h2.n32
  obtain ⟨y0, y1, _, _⟩ := HX.out W (Below.refl _ _)
  clear h hA hb0 g0 h1 h2 h3 h4 h5 h6 h7 hPl hT hTW
  go_enter Tryz.func9, Tryz.ntmps9
  go_wp2_with fail
  refine calls_at HCp.out (by with_reducible rfl) (by with_reducible rfl) ?_
  rintro e w2 ⟨p2, nv2, mv2, rfl, hA2, hb2⟩
  have HA2 : Hid (StAt W.heap.size w2 p2 nv2 mv2 s) := hA2
  have HB2 : Hid (Below W.heap.size W w2) := hb2
  clear y0 y1 hA2 hb2
  obtain ⟨y0, y1, _, _⟩ := HX.out w2 HB2.out
  go_wp2_with fail
  refine calls_at (HSm.out w2 p2 nv2 mv2 HB2.out HA2.out).1 (by with_reducible rfl) (by with_reducible rfl) ?_
  rintro e w3 ⟨rfl, hb3⟩
  have HB3 : Hid (Below W.heap.size W w3) := bl_next HB2.out hb3
  have HA3 : Hid (StAt W.heap.size w3 p2 nv2 mv2 s) := HA2.out.below hb3
  have HL3 : Hid (Below w2.heap.size w2 w3) := hb3
  clear y0 y1 hb3
  obtain ⟨y0, y1, _, _⟩ := HX.out w3 HB3.out
  go_wp2_with fail
  refine calls_at (HSm.out w3 p2 nv2 mv2 HB3.out HA3.out).2 (by with_reducible rfl) (by with_reducible rfl) ?_
  rintro e w4 ⟨rfl, hb4⟩
  have HB4 : Hid (Below W.heap.size W w4) := bl_next HB3.out hb4
  have HL4 : Hid (Below w2.heap.size w2 w4) := bl_next HL3.out hb4
  clear y0 y1 hb4
  go_wp2_with fail
  go_cut [10, 11] from 108 to 159 (fun s10 s11 wx => ∃ r2, s10 = .pointer (some ⟨p, 0, none⟩) ∧ s11 = .pointer (some ⟨r2, 0, none⟩) ∧ wx.cell? ⟨P, 0, none⟩ = some (.pointer (some ⟨p, 0, none⟩)) ∧ wx.cell? ⟨P, 1, none⟩ = some (.pointer (some ⟨r, 0, none⟩)) ∧ (∀ i, wx.frozen? ⟨P, i, none⟩ = false) ∧ Hid (∃ T N, Fo B P s.now.length W.heap.size O T N p p2 r r2 s (wx.setCell ⟨P, 0, none⟩ (.pointer (some ⟨p2, 0, none⟩)))) ∧ Hid (Below W.heap.size W wx))
  case first =>
    go_region_held3 (fun w' => w'.cell? ⟨P, 0, none⟩ = some (.pointer (some ⟨p, 0, none⟩)) ∧ w'.cell? ⟨P, 1, none⟩ = some (.pointer (some ⟨r, 0, none⟩)) ∧ (∀ i, w'.frozen? ⟨P, i, none⟩ = false) ∧ Below W.heap.size W w')
      (first | exact HX.out _ HB4.out.drew | exact HX.out _ HB5.out | assumption)
      (first
        | (go_at_call 36; refine calls_at (HCr.out w4.drew HB4.out.drew) (by with_reducible rfl) (by with_reducible rfl) ?_; rintro e w5 ⟨r2, S2, rfl, hR5, hb5⟩; (have HF5 : Hid (∃ T N, Fo B P s.now.length W.heap.size O T N p p2 r r2 s (w5.setCell ⟨P, 0, none⟩ (.pointer (some ⟨p2, 0, none⟩)))) := ⟨_, _, HFo.out w2 w4.drew w5 p2 r2 nv2 mv2 S2 HA2.out HB2.out HL4.out.drew hR5 hb5⟩); (have HB5 : Hid (Below W.heap.size W w5) := bl_next HB4.out.drew hb5); clear hR5 hb5))
    go_wp2_with fail
    go_meet
    obtain ⟨z0, z1, z2, _⟩ := HX.out w5 HB5.out
    exact ⟨r2, rfl, rfl, z0, z1, z2, HF5, HB5⟩
  case rest =>
  obtain ⟨r2, rfl, rfl, z0, z1, z2, HF5, HB5⟩ := hcut
  rename World => w5
  obtain ⟨T, N, hFo⟩ := HF5.out
  obtain ⟨w6, hw6⟩ : ∃ w6, w5.setCell ⟨P, 0, none⟩ (.pointer (some ⟨p2, 0, none⟩)) = w6 := ⟨_, rfl⟩
  rw [hw6] at hFo
  have HF6 : Hid (Fo B P s.now.length W.heap.size O T N p p2 r r2 s w6) := hFo
  have HB6 : Hid (Below B W w6) := by show Below _ _ _; rw [← hw6]; exact (HB5.out.mono HPB.out.2).setCell HPB.out.1 _
  have HW6 : Hid (∀ k, k < W.heap.size → k ≠ P → w6.heap[k]? = W.heap[k]?) := fun k hk hp => by rw [← hw6, heap_setCell_other _ _ _ _ hp]; exact HB5.out.block k hk
  have HW6s : Hid (W.heap.size ≤ w6.heap.size) := by show _ ≤ _; rw [← hw6]; simpa using HB5.out.size
  obtain ⟨n', hnn⟩ : ∃ n', s.now.length = n' := ⟨_, rfl⟩
  rw [hnn] at HF6 hn
  clear hFo HF5 hnn
  go_wp2_with fail
  go_loopw [12] (fun iv wr => ∃ j : Nat, iv = .int .i64 (j : Int) ∧ j ≤ n' ∧ Hid (Cy B n' T w6 p r2 wr)) (fun iv _ => n' - (intOf iv).toNat)
  case atStart => exact ⟨0, rfl, Nat.zero_le _, HF6.out.old⟩
  case round =>
  obtain ⟨j, rfl, hj, HC⟩ := hrel
  go_wp2_with fail
  refine calls_at HC.out.vars (by with_reducible rfl) (by with_reducible rfl) ?_
  rintro e w7 ⟨rfl, rfl⟩
  by_cases hjn : j < n'
  · have hjI : (j : Int) < (n' : Int) := by omega
    go_wp2_with fail
    refine calls_at (HC.out.lo j hjn) (by with_reducible rfl) (by with_reducible rfl) ?_
    rintro e w8 ⟨⟨z, rfl⟩, hb8⟩
    have HC8 : Hid (Cy B n' T w6 p r2 w8) := HC.out.below hb8
    obtain ⟨X, hX⟩ : ∃ X, w8.alloc (.cells #[.int .i64 2, .int .i64 (j : Int), .int .i64 z] 61) = X := ⟨_, rfl⟩
    have hbX : Below w8.heap.size w8 X := by rw [← hX]; exact (Below.refl _ _).alloc (Nat.le_refl _) _
    have gX : X.heap[w8.heap.size]? = some (.cells #[.int .i64 2, .int .i64 (j : Int), .int .i64 z] 61 (0, 0)) := by rw [← hX]; exact heap_alloc_new w8 _
    have HC9 : Hid (Calls Tryz.prog 21 #[.pointer (some ⟨p, 0, none⟩), .agg #[.int .i64 2, .int .i64 (j : Int), .int .i64 z]] X fun e w' => (∃ a b, e = .returned (.tuple #[.bool a, .bool b])) ∧ Cz B n' T w6 p r2 2 j z w' ∧ ∀ b, w8.heap.size ≤ b → b < X.heap.size → w'.heap[b]? = X.heap[b]?) := HC8.out.cut1 hbX 2 j z
    have x0 : X.cell? ⟨w8.heap.size, 0, none⟩ = some (.int .i64 2) := cell_of gX 0
    have x1 : X.cell? ⟨w8.heap.size, 1, none⟩ = some (.int .i64 (j : Int)) := cell_of gX 1
    have x2 : X.cell? ⟨w8.heap.size, 2, none⟩ = some (.int .i64 z) := cell_of gX 2
    have HGX : Hid (X.heap[w8.heap.size]? = some (.cells #[.int .i64 2, .int .i64 (j : Int), .int .i64 z] 61 (0, 0))) := gX
    clear hb8 hbX gX
    go_wp2_with fail
    refine calls_at HC9.out (by with_reducible rfl) (by with_reducible rfl) ?_
    rintro e w9 ⟨⟨a9, b9, rfl⟩, hz9, hk9⟩
    have g9 := (hk9 w8.heap.size (Nat.le_refl _) (Array.getElem?_eq_some_iff.1 HGX.out).1).trans HGX.out
    have v0 : w9.cell? ⟨w8.heap.size, 0, none⟩ = some (.int .i64 2) := cell_of g9 0
    have v1 : w9.cell? ⟨w8.heap.size, 1, none⟩ = some (.int .i64 (j : Int)) := cell_of g9 1
    have v2 : w9.cell? ⟨w8.heap.size, 2, none⟩ = some (.int .i64 z) := cell_of g9 2
    have HC10 : Hid (Calls Tryz.prog 33 #[.pointer (some ⟨r2, 0, none⟩), .agg #[.int .i64 2, .int .i64 (j : Int), .int .i64 z]] w9 fun e w' => (∃ a b, e = .returned (.tuple #[.bool a, .bool b])) ∧ Cy B n' T w6 p r2 w') := hz9.cut2
    clear hz9 hk9 g9 x0 x1 x2 hX
    go_wp2_with fail
    refine calls_at HC10.out (by with_reducible rfl) (by with_reducible rfl) ?_
    rintro e w10 ⟨⟨a10, b10, rfl⟩, hc10⟩
    have HCf : Hid (Cy B n' T w6 p r2 w10) := hc10
    clear hc10 v0 v1 v2
    go_wp2_with fail
    go_roundw
    case rel => exact ⟨j + 1, by go_num, hjn, HCf⟩
    case measure => simp [intOf]; omega
  · have hje : j = n' := by omega
    subst hje
    have hjI : ¬ (j : Int) < (j : Int) := by omega
    have HC11 : Hid (Calls Tryz.prog 26 #[.pointer (some ⟨p, 0, none⟩), .int .i64 0] w7 fun e w' => (∃ a, e = .returned (.bool a)) ∧ Cb B j T w6 p r2 w') := HC.out.back1
    go_wp2_with fail
    refine calls_at HC11.out (by with_reducible rfl) (by with_reducible rfl) ?_
    rintro e w11 ⟨⟨a11, rfl⟩, hc11⟩
    have HC12 : Hid (Calls Tryz.prog 35 #[.pointer (some ⟨r2, 0, none⟩), .int .i64 0] w11 fun e w' => (∃ a, e = .returned (.bool a)) ∧ ∃ O t, Duo B O w' p r2 t (t.now.map Dm.all) (mksOf t) ∧ Alls t ∧ AllsM t ∧ Ch B T w6 w' O) := hc11.back2
    clear hc11
    go_wp2_with fail
    refine calls_at HC12.out (by with_reducible rfl) (by with_reducible rfl) ?_
    rintro e w12 ⟨⟨a12, rfl⟩, Oq, t, hD, hAl, hAm, hCh⟩
    obtain ⟨X, hX⟩ : ∃ X, w12.alloc (.cells #[.pointer (some ⟨p, 0, none⟩), .pointer (some ⟨r2, 0, none⟩)] 39) = X := ⟨_, rfl⟩
    have hbX : Below w12.heap.size w12 X := by rw [← hX]; exact (Below.refl _ _).alloc (Nat.le_refl _) _
    have gX : X.heap[w12.heap.size]? = some (.cells #[.pointer (some ⟨p, 0, none⟩), .pointer (some ⟨r2, 0, none⟩)] 39 (0, 0)) := by rw [← hX]; exact heap_alloc_new w12 _
    have hf := HF6.out
    have hq : PaAt B w12.heap.size (fun k => Oq k ∨ k = w12.heap.size) X t := (hD.below hbX).pair gX (fun e => by have := hD.lt _ e; omega) hD.size hAl hAm
    have h6X : ∀ k, k < w6.heap.size → ¬ T k → X.heap[k]? = w6.heap[k]? := fun k hk hn => (hbX.block k (Nat.lt_of_lt_of_le hk hCh.off.size)).trans (hCh.off.block k hk hn)
    have hN : Duo B N X p2 r s (s.now.map Dm.all) (mksOf s) := hf.new.keep (Nat.le_trans hCh.off.size hbX.size) fun k hk => h6X k (hf.new.lt k hk) (fun e => hf.apart k e hk)
    have hP6 := (Array.getElem?_eq_some_iff.1 hf.box).1
    have hPX := (h6X P hP6 hf.nt).trans hf.box
    have HBX : Hid (Below B W X) := HB6.out.trans (hCh.below.trans (hbX.mono hD.size))
    have HEnd : Hid (∀ w', Below X.heap.size X w' → ∃ O' s', PaAt B P O' w' s' ∧ s'.marks ≤ s.marks + 1 ∧ SStp B O w w' ∧ Grown O w w' O') := fun w' hb => by
      have hWX : W.heap.size ≤ X.heap.size := Nat.le_trans HW6s.out (Nat.le_trans hCh.off.size hbX.size)
      refine ⟨_, s, (hN.below hb).pair ((hb.block P (Array.getElem?_eq_some_iff.1 hPX).1).trans hPX) hf.nn hf.lo hf.al hf.alm, by omega, ⟨(HB.out.mono hBw).trans (HBX.out.trans (hb.mono hN.size)), ⟨Nat.le_trans HB.out.size (Nat.le_trans hWX hb.size), fun k hk hn => ?_⟩⟩, fun k hk => ?_⟩
      · have hkW : k < W.heap.size := Nat.lt_of_lt_of_le hk HB.out.size
        rw [hb.block k (Nat.lt_of_lt_of_le hkW hWX), h6X k (Nat.lt_of_lt_of_le hkW HW6s.out) (fun e => by
          rcases hf.tO k e with a | a
          · exact hn a
          · omega), HW6.out k hkW (fun e => hn (e ▸ HOP.out)), HB.out.block k hk]
      · rcases hk with e | e
        · rcases hf.nO k e with a | a
          · exact .inl a
          · exact .inr ⟨Nat.le_trans HB.out.size a, Nat.lt_of_lt_of_le (hN.lt k e) hb.size⟩
        · rw [e]; exact .inl HOP.out
    have HXq : Hid (∀ w', Below X.heap.size X w' → w'.cell? ⟨P, 1, none⟩ = some (.pointer (some ⟨r, 0, none⟩)) ∧ Below X.heap.size X w') := fun w' hb => ⟨cell_of ((hb.block P (Array.getElem?_eq_some_iff.1 hPX).1).trans hPX) 1, hb⟩
    have HTq : Hid (∀ w', Below X.heap.size X w' → Tz w' ∧ 0 < w'.heap.size) := fun w' hb => HTz.out w' (HBX.out.trans (hb.mono hN.size))
    have HLk : Hid (∀ w', Below X.heap.size X w' → Calls Tryz.prog 18 #[.pointer (some ⟨w12.heap.size, 0, none⟩)] w' fun e w2 => e = .returned (.bool true) ∧ Below w'.heap.size w' w2) := fun w' hb => like_any w' (hq.below hb) (HTq.out w' hb).1 (HTq.out w' hb).2
    obtain ⟨bb, hbb⟩ : ∃ bb, decide (s.now.map Dm.all = t.now.map Dm.all) = bb := ⟨_, rfl⟩
    have HS1 : Hid (∀ w', Below X.heap.size X w' → Calls Tryz.prog 28 #[.pointer (some ⟨p2, 0, none⟩), .pointer (some ⟨p, 0, none⟩)] w' fun e w2 => e = .returned (.bool bb) ∧ Below w'.heap.size w' w2) := fun w' hb => by
      obtain ⟨_, _, _, _, q2, _⟩ := hN.ex
      obtain ⟨_, _, _, _, q3, _⟩ := (hD.below hbX).ex
      rw [← hbb]
      exact same_stores _ p2 _ p _ _ _ _ s t w' (q2.below hb) (q3.below hb) hf.al hAl (HTq.out w' hb).1
    have HS2 : Hid (∀ w', Below X.heap.size X w' → Calls Tryz.prog 38 #[.pointer (some ⟨r, 0, none⟩), .pointer (some ⟨r2, 0, none⟩)] w' fun e w2 => e = .returned (.bool bb) ∧ Below w'.heap.size w' w2) := fun w' hb => by
      obtain ⟨_, _, _, _, _, q2, _⟩ := hN.ex
      obtain ⟨_, _, _, _, _, q3, _⟩ := (hD.below hbX).ex
      rw [← hbb]
      exact rSame_any w' (q2.below hb) (q3.below hb)
    have hb2 : (bb == bb) = true := by simp
    clear hD hAl hAm hCh hbX gX hf hq h6X hN hP6 hPX hbb
    go_wp2_with fail
    go_region_held3 (fun w' => w'.cell? ⟨P, 1, none⟩ = some (.pointer (some ⟨r, 0, none⟩)) ∧ Below X.heap.size X w')
      (first | exact HXq.out _ (Below.refl _ _).drew | exact HXq.out _ (bl_next (And.right (by assumption)) (by assumption)) | assumption)
      (first
        | (go_at_call 18; refine calls_at (HLk.out _ (And.right (by assumption))) (by with_reducible rfl) (by with_reducible rfl) ?_; rintro e w13 ⟨rfl, hb13⟩)
        | (go_at_call 28; refine calls_at (HS1.out _ (And.right (by assumption))) (by with_reducible rfl) (by with_reducible rfl) ?_; rintro e w14 ⟨rfl, hb14⟩)
        | (go_at_call 38; refine calls_at (HS2.out _ (And.right (by assumption))) (by with_reducible rfl) (by with_reducible rfl) ?_; rintro e w15 ⟨rfl, hb15⟩))
    have HB15 : Hid (Below X.heap.size X w15) := And.right (by assumption)
    go_wp2_with fail
    go_ret
    exact ⟨ret_bool (by simp), HEnd.out w15 HB15.out⟩
end Go.Proofs.YtchpapppkmnfnaaGreatDoor

namespace Go.Proofs.YtchpapppkmnfnaaGreatDoor
open Go.RowKit

/-- A call of any kind. -/
theorem plays_any {B P : Nat} {O : Nat → Prop} {s : St} (o : Cl) (w : World) (h : PaAt B P O w s) (hT : Tz w) (hs : 0 < w.heap.size) (hB : 1 ≤ B) (hm : s.marks + 1 ≤ 10000) : Calls Tryz.prog 9 #[.pointer (some ⟨P, 0, none⟩), .agg #[.int .i64 o.kind, .int .i64 o.ck, .int .i64 o.cx, .int .i64 o.cv, .int .i64 o.n]] w (PlOut B P O s w) := by
  by_cases h1 : o.kind = 1
  · rw [h1]
    refine (plays_cut o.ck o.cx o.cv o.n w h).mono fun e w' hq => ?_
    obtain ⟨q1, O', q2, q3, q4⟩ := hq
    exact ⟨q1, O', _, q2, by rw [(cut_len s o.ck o.cx o.cv).2.2]; omega, q3, q4⟩
  by_cases h2 : o.kind = 2
  · rw [h2]
    exact plays_mark o.ck o.cx o.cv o.n w h hm
  by_cases h3 : o.kind = 3
  · rw [h3]
    exact plays_back o.ck o.cx o.cv o.n w h
  by_cases h4 : o.kind = 4
  · rw [h4]
    exact plays_look o.ck o.cx o.cv o.n w h hT hs
  by_cases h5 : o.kind = 5
  · rw [h5]
    exact plays_copy o.ck o.cx o.cv o.n w h hT hs hB
  exact plays_none o.kind o.ck o.cx o.cv o.n w h h1 h2 h3 h4 h5

end Go.Proofs.YtchpapppkmnfnaaGreatDoor
