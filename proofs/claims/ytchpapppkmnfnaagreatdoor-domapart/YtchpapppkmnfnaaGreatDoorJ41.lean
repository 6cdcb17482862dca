/-
  Put together: DtLike, DtPlayA, DtPlayB.
-/
import Derived.Test.YtchpapppkmnfnaaGreatDoorJ40
namespace Go.Proofs.YtchpapppkmnfnaaGreatDoor
open Go.RowKit

set_option maxRecDepth 10000 in
set_option maxHeartbeats 4000000 in
theorem like_any {B P : Nat} {O : Nat → Prop} {s : St} (w : World) (h : PaAt B P O w s) (hT : Tz w) (hs : 0 < w.heap.size) : Calls Tryz.prog 18 #[.pointer (some ⟨P, 0, none⟩)] w fun e w' => e = .returned (.bool true) ∧ Below w.heap.size w w' := by
  obtain ⟨p, nv, mv, r, S, Bs, h1, h2, h3, _⟩ := h.ex
  have hPl := h.lt P h.op
  have HS : Hid (∀ w', Below w.heap.size w w' → w'.cell? ⟨P, 0, none⟩ = some (.pointer (some ⟨p, 0, none⟩)) ∧ w'.cell? ⟨P, 1, none⟩ = some (.pointer (some ⟨r, 0, none⟩)) ∧ Below w.heap.size w w') := fun w' hb => by
    have f := (hb.block P hPl).trans h1
    exact ⟨cell_of f 0, cell_of f 1, hb⟩
  have hn := h2.n32
  have HV1 : Hid (∀ w', Below w.heap.size w w' → Calls Tryz.prog 19 #[.pointer (some ⟨p, 0, none⟩)] w' fun e w2 => e = .returned (.int .i64 (s.now.length : Int)) ∧ Below w'.heap.size w' w2) := fun w' hb => (vars_any _ p _ _ s w' (h2.below hb)).mono fun e w2 hq => ⟨hq.1, by rw [hq.2]; exact Below.refl _ _⟩
  have HV2 : Hid (∀ w', Below w.heap.size w w' → Calls Tryz.prog 10 #[.pointer (some ⟨r, 0, none⟩)] w' fun e w2 => e = .returned (.int .i64 (s.now.length : Int)) ∧ Below w'.heap.size w' w2) := fun w' hb => (rVars_any w' (h3.below hb)).mono fun e w2 hq => ⟨by rw [hq.1, List.length_map], by rw [hq.2]; exact Below.refl _ _⟩
  have HO1 : Hid (∀ w', Below w.heap.size w w' → Calls Tryz.prog 15 #[.pointer (some ⟨p, 0, none⟩)] w' (VsOut (openL s.now s.now.length) w')) := fun w' hb => open_any _ p _ _ s w' (h2.below hb)
  have HO2 : Hid (∀ w', Below w.heap.size w w' → Calls Tryz.prog 16 #[.pointer (some ⟨r, 0, none⟩)] w' (VsOut (openL s.now s.now.length) w')) := fun w' hb => by
    have := rOpen_any w' (h3.below hb)
    rw [List.length_map, open_rel h.al _ (Nat.le_refl _)] at this
    exact this
  have HA : Hid (∀ x : Int, ∃ lo hi sz L hs, (-1000000000 ≤ lo ∧ lo ≤ hi ∧ hi ≤ 2000000000 ∧ L.length ≤ 64) ∧ ∀ w', Below w.heap.size w w' → Asks p r x lo hi sz L hs w') := fun x => by
    obtain ⟨lo, hi, sz, L, hs', q1, q2⟩ := asks_at x h2 h3 h.al
    exact ⟨lo, hi, sz, L, hs', q1, fun w' hb => q2 w' hb (hT.below hb hs)⟩
  obtain ⟨OL, hOL⟩ : ∃ OL, openL s.now s.now.length = OL := ⟨_, rfl⟩
  have hol : OL.length ≤ 1000 := by rw [← hOL]; have := openL_len s.now s.now.length; omega
  rw [hOL] at HO1 HO2
  obtain ⟨n, hnn⟩ : ∃ n, s.now.length = n := ⟨_, rfl⟩
  rw [hnn] at HV1 HV2 hn
  clear h h1 h2 h3 hPl hT hOL hnn
  go_enter Tryz.func18, Tryz.ntmps18
  go_wp2_with fail
  go_region_held3 (fun w' => w'.cell? ⟨P, 0, none⟩ = some (.pointer (some ⟨p, 0, none⟩)) ∧ w'.cell? ⟨P, 1, none⟩ = some (.pointer (some ⟨r, 0, none⟩)) ∧ Below w.heap.size w w')
    (first | exact HS.out _ (Below.refl _ _).drew | exact HS.out _ (bl_next (And.right (And.right (by assumption))) (by assumption)) | assumption)
    (first
      | (go_at_call 19; refine calls_at (HV1.out _ (And.right (And.right (by assumption)))) (by with_reducible rfl) (by with_reducible rfl) ?_; rintro e w1 ⟨rfl, hb1⟩)
      | (go_at_call 10; refine calls_at (HV2.out _ (And.right (And.right (by assumption)))) (by with_reducible rfl) (by with_reducible rfl) ?_; rintro e w2 ⟨rfl, hb2⟩)
      | (go_at_call 15; refine calls_at (HO1.out _ (And.right (And.right (by assumption)))) (by with_reducible rfl) (by with_reducible rfl) ?_; rintro e w3 ⟨v3, rfl, ho3, hb3⟩)
      | (go_at_call 16; refine calls_at (HO2.out _ (And.right (And.right (by assumption)))) (by with_reducible rfl) (by with_reducible rfl) ?_; rintro e w4 ⟨v4, rfl, ho4, hb4⟩; (have HI4 : Hid (Calls Tryz.prog 12 #[v3, v4] w4 fun e w' => e = .returned (.bool true) ∧ Below w4.heap.size w4 w') := ints_same _ _ v3 v4 OL w4 (own_below ho3 hb4) ho4 hol); clear ho3 ho4)
      | (go_at_call 12; refine calls_at HI4.out (by with_reducible rfl) (by with_reducible rfl) ?_; rintro e w5 ⟨rfl, hb5⟩))
  have HB5 : Hid (Below w.heap.size w w5) := And.right (And.right (by assumption))
  go_wp2_with fail
  go_loopw [3] (fun iv wr => ∃ k : Nat, iv = .int .i64 ((k : Int) - 1) ∧ k ≤ n + 2 ∧ Hid (Below w.heap.size w wr)) (fun iv _ => ((n : Int) + 2 - intOf iv).toNat)
  case atStart => exact ⟨0, rfl, Nat.zero_le _, HB5⟩
  case round =>
    obtain ⟨k, rfl, hk, HBr⟩ := hrel
    obtain ⟨y0, y1, _⟩ := HS.out wr HBr.out
    go_wp2_with fail
    refine calls_at (HV2.out wr HBr.out) (by with_reducible rfl) (by with_reducible rfl) ?_
    rintro e w6 ⟨rfl, hb6⟩
    have HB6 : Hid (Below w.heap.size w w6) := bl_next HBr.out hb6
    clear hb6 y0 y1
    by_cases hkn : k < n + 2
    · have hkI : (k : Int) - 1 ≤ (n : Int) := by omega
      obtain ⟨lo, hi, sz, L, hs', hbd, hq⟩ := HA.out ((k : Int) - 1)
      have HQ : Hid (∀ w', Below w.heap.size w w' → Asks p r ((k : Int) - 1) lo hi sz L hs' w') := hq
      obtain ⟨hb1, hb2, hb3, hb4⟩ := hbd
      have hL1 : L.length ≤ 1000 := by omega
      have hlo : (lo == lo) = true := by simp
      have hhi : (hi == hi) = true := by simp
      have hsz : (sz == sz) = true := by simp
      clear hq
      go_wp2_with fail
      go_cut [97] from 39 to 130 (fun s97 wx => s97 = .bool false ∧ Hid (Below w.heap.size w wx))
      case first =>
        go_region_held3 (fun w' => w'.cell? ⟨P, 0, none⟩ = some (.pointer (some ⟨p, 0, none⟩)) ∧ w'.cell? ⟨P, 1, none⟩ = some (.pointer (some ⟨r, 0, none⟩)) ∧ Below w.heap.size w w')
          (first | exact HS.out _ HB6.out.drew | exact HS.out _ (bl_next (And.right (And.right (by assumption))) (by assumption)) | assumption)
          (first
            | (go_at_call 24; refine calls_at (HQ.out _ (And.right (And.right (by assumption)))).lo1 (by with_reducible rfl) (by with_reducible rfl) ?_; rintro e w7 ⟨rfl, hbw7⟩)
            | (go_at_call 37; refine calls_at (HQ.out _ (And.right (And.right (by assumption)))).lo2 (by with_reducible rfl) (by with_reducible rfl) ?_; rintro e w8 ⟨rfl, hbw8⟩)
            | (go_at_call 23; refine calls_at (HQ.out _ (And.right (And.right (by assumption)))).hi1 (by with_reducible rfl) (by with_reducible rfl) ?_; rintro e w9 ⟨rfl, hbw9⟩)
            | (go_at_call 59; refine calls_at (HQ.out _ (And.right (And.right (by assumption)))).hi2 (by with_reducible rfl) (by with_reducible rfl) ?_; rintro e w10 ⟨rfl, hbw10⟩)
            | (go_at_call 20; refine calls_at (HQ.out _ (And.right (And.right (by assumption)))).sz1 (by with_reducible rfl) (by with_reducible rfl) ?_; rintro e w11 ⟨rfl, hbw11⟩)
            | (go_at_call 60; refine calls_at (HQ.out _ (And.right (And.right (by assumption)))).sz2 (by with_reducible rfl) (by with_reducible rfl) ?_; rintro e w12 ⟨rfl, hbw12⟩)
            | (go_at_call 11; refine calls_at (HQ.out _ (And.right (And.right (by assumption)))).vs1 (by with_reducible rfl) (by with_reducible rfl) ?_; rintro e w13 ⟨v3, rfl, ho3, hb13⟩)
            | (go_at_call 13; refine calls_at (HQ.out _ (And.right (And.right (by assumption)))).vs2 (by with_reducible rfl) (by with_reducible rfl) ?_; rintro e w14 ⟨v4, rfl, ho4, hb14⟩; (have HI4 : Hid (Calls Tryz.prog 12 #[v3, v4] w14 fun e w' => e = .returned (.bool true) ∧ Below w14.heap.size w14 w') := ints_same _ _ v3 v4 L w14 (own_below ho3 hb14) ho4 hL1); clear ho3 ho4)
            | (go_at_call 12; refine calls_at HI4.out (by with_reducible rfl) (by with_reducible rfl) ?_; rintro e w15 ⟨rfl, hb15⟩))
        have HB15 : Hid (Below w.heap.size w w15) := And.right (And.right (by assumption))
        go_wp2_with fail
        go_meet
        exact ⟨by simp, HB15⟩
      case rest =>
      obtain ⟨rfl, HBx⟩ := hcut
      rename World => wx
      obtain ⟨y0, y1, _⟩ := HS.out wx HBx.out
      have el : IntKind.i64.wrap (lo - 2) = lo - 2 := wrap_id (by omega) (by omega)
      go_wp2_with fail
      refine calls_at (HQ.out wx HBx.out).lo2 (by with_reducible rfl) (by with_reducible rfl) ?_
      rintro e w16 ⟨rfl, hb16⟩
      have HB16 : Hid (Below w.heap.size w w16) := bl_next HBx.out hb16
      clear hb16 y0 y1
      go_wp2_with fail
      go_loopw [4] (fun iv wz => ∃ j : Nat, iv = .int .i64 (lo - 2 + (j : Int)) ∧ (j : Int) ≤ hi - lo + 5 ∧ Hid (Below w.heap.size w wz)) (fun iv _ => (hi + 3 - intOf iv).toNat)
      case atStart => exact ⟨0, by simp, by omega, HB16⟩
      case round =>
        obtain ⟨j, rfl, hj, HBz⟩ := hrel
        rename World => wz
        obtain ⟨y0, y1, _⟩ := HS.out wz HBz.out
        go_wp2_with fail
        refine calls_at (HQ.out wz HBz.out).hi2 (by with_reducible rfl) (by with_reducible rfl) ?_
        rintro e w17 ⟨rfl, hb17⟩
        have HB17 : Hid (Below w.heap.size w w17) := bl_next HBz.out hb17
        clear hb17 y0 y1
        have eh : IntKind.i64.wrap (hi + 2) = hi + 2 := wrap_id (by omega) (by omega)
        by_cases hjn : lo - 2 + (j : Int) ≤ hi + 2
        · obtain ⟨v, hv⟩ : ∃ v, lo - 2 + (j : Int) = v := ⟨_, rfl⟩
          have hbb : (hs' v == hs' v) = true := by simp
          have HV3 : Hid (lo - 2 + (j : Int) = v) := hv
          rw [hv] at hjn
          rw [hv]
          have hvb : -1000000002 ≤ v ∧ v ≤ 2000000002 := by omega
          clear hv
          go_wp2_with fail
          go_cut [130] from 116 to 130 (fun s130 wx => s130 = .bool false ∧ Hid (Below w.heap.size w wx))
          case first =>
            go_region_held3 (fun w' => w'.cell? ⟨P, 0, none⟩ = some (.pointer (some ⟨p, 0, none⟩)) ∧ w'.cell? ⟨P, 1, none⟩ = some (.pointer (some ⟨r, 0, none⟩)) ∧ Below w.heap.size w w')
              (first | exact HS.out _ HB17.out.drew | exact HS.out _ (bl_next (And.right (And.right (by assumption))) (by assumption)) | assumption)
              (first
                | (go_at_call 25; refine calls_at ((HQ.out _ (And.right (And.right (by assumption)))).hs1 v) (by with_reducible rfl) (by with_reducible rfl) ?_; rintro e w18 ⟨rfl, hb18⟩)
                | (go_at_call 61; refine calls_at ((HQ.out _ (And.right (And.right (by assumption)))).hs2 v) (by with_reducible rfl) (by with_reducible rfl) ?_; rintro e w19 ⟨rfl, hb19⟩))
            have HB19 : Hid (Below w.heap.size w w19) := And.right (And.right (by assumption))
            go_wp2_with fail
            go_meet
            exact ⟨by simp, HB19⟩
          case rest =>
          obtain ⟨rfl, HBy⟩ := hcut
          have ev : IntKind.i64.wrap (v + 1) = v + 1 := wrap_id (by omega) (by omega)
          go_wp2_with fail
          go_roundw
          case rel => exact ⟨j + 1, by have e3 := HV3.out; simp; omega, by have := HV3.out; omega, HBy⟩
          case measure => (have e3 := HV3.out; simp only [intOf]; omega)
        · have hjn' : hi + 2 < lo - 2 + (j : Int) := by omega
          go_wp2_with fail
          go_roundw
          case rel => exact ⟨k + 1, by first | rfl | go_num | (simp; omega), by omega, HB17⟩
          case measure => simp [intOf]; omega
    · have hkI : (n : Int) < (k : Int) - 1 := by omega
      go_wp2_with fail
      go_ret
      exact ⟨rfl, HB6.out⟩
end Go.Proofs.YtchpapppkmnfnaaGreatDoor

namespace Go.Proofs.YtchpapppkmnfnaaGreatDoor
open Go.RowKit

/-- What calls on two stores have changed since W. -/
structure Ch (B : Nat) (T : Nat → Prop) (W w : World) (O : Nat → Prop) : Prop where
  off : Off T W w
  below : Below B W w
  own : ∀ k, O k → T k ∨ W.heap.size ≤ k
theorem Ch.refl (B : Nat) (T : Nat → Prop) (W : World) : Ch B T W W T := ⟨Off.refl _ _, Below.refl _ _, fun _ h => .inl h⟩
theorem Ch.next {B : Nat} {T O O' : Nat → Prop} {W w w' : World} (h : Ch B T W w O) (h1 : SStp B O w w') (h2 : Grown O w w' O') : Ch B T W w' O' :=
  ⟨⟨Nat.le_trans h.off.size h1.off.size, fun k hk hn => (h1.off.block k (Nat.lt_of_lt_of_le hk h.off.size) fun e => by
      rcases h.own k e with a | a
      · exact hn a
      · omega).trans (h.off.block k hk hn)⟩,
    h.below.trans h1.below, fun k hk => by
      rcases h2 k hk with a | a
      · exact h.own k a
      · exact .inr (Nat.le_trans h.off.size a.1)⟩
theorem Ch.read {B : Nat} {T O : Nat → Prop} {W w w' : World} (h : Ch B T W w O) (hb : Below w.heap.size w w') (hB : B ≤ w.heap.size) : Ch B T W w' O :=
  ⟨h.off.trans (Off.of_below hb), h.below.trans (hb.mono hB), h.own⟩
theorem Ch.drew {B : Nat} {T O : Nat → Prop} {W w : World} (h : Ch B T W w O) : Ch B T W w.drew O := ⟨⟨h.off.size, h.off.block⟩, h.below.drew, h.own⟩
theorem Ch.pair {B P : Nat} {T O : Nat → Prop} {W w : World} {p r : Nat} {s : St} (h : Ch B T W w O) (hd : Duo B O w p r s (s.now.map Dm.all) (mksOf s)) (h1 : W.heap[P]? = some (.cells #[.pointer (some ⟨p, 0, none⟩), .pointer (some ⟨r, 0, none⟩)] 39 (0, 0))) (hT : ¬ T P) (hB : B ≤ P) (ha : Alls s) (hm : AllsM s) : PaAt B P (fun k => O k ∨ k = P) w s := by
  have hPl := (Array.getElem?_eq_some_iff.1 h1).1
  refine hd.pair ((h.off.block P hPl hT).trans h1) (fun e => ?_) hB ha hm
  rcases h.own P e with a | a
  · exact hT a
  · omega
def PlOut (B P : Nat) (O : Nat → Prop) (s : St) (w : World) (e : Ending) (w' : World) : Prop := e = .returned (.bool true) ∧ ∃ O' s', PaAt B P O' w' s' ∧ s'.marks ≤ s.marks + 1 ∧ SStp B O w w' ∧ Grown O w w' O'
theorem Ch.fin {B P : Nat} {O T O3 : Nat → Prop} {w W w3 : World} (h : Ch B T W w3 O3) (hb : Below w.heap.size w W) (hB : B ≤ w.heap.size) (hO : O P) (hT : ∀ k, T k → O k) (hlt : ∀ k, O3 k → k < w3.heap.size) : SStp B O w w3 ∧ Grown O w w3 (fun k => O3 k ∨ k = P) := by
  refine ⟨⟨(hb.mono hB).trans h.below, (Off.of_below hb).trans (h.off.less hT)⟩, fun k hk => ?_⟩
  rcases hk with e | e
  · rcases h.own k e with a | a
    · exact .inl (hT k a)
    · exact .inr ⟨Nat.le_trans hb.size a, hlt k e⟩
  · rw [e]; exact .inl hO
theorem noted_len {B P : Nat} {O : Nat → Prop} {w : World} {s : St} (h : PaAt B P O w s) : s.noted.length = s.marks * s.now.length := by
  obtain ⟨_, _, _, _, _, _, _, h2, _⟩ := h.ex
  exact h2.len

set_option maxRecDepth 10000 in
set_option maxHeartbeats 1000000 in
theorem plays_mark {B P : Nat} {O : Nat → Prop} {s : St} (k x v n : Int) (w : World) (h : PaAt B P O w s) (hm : s.marks + 1 ≤ 10000) : Calls Tryz.prog 9 #[.pointer (some ⟨P, 0, none⟩), .agg #[.int .i64 2, .int .i64 k, .int .i64 x, .int .i64 v, .int .i64 n]] w (PlOut B P O s w) := by
  have hBw : B ≤ w.heap.size := Nat.le_of_lt (Nat.lt_of_le_of_lt (h.lo P h.op) (h.lt P h.op))
  obtain ⟨W, hW⟩ : ∃ W, w.alloc (.cells #[.int .i64 2, .int .i64 k, .int .i64 x, .int .i64 v, .int .i64 n] 63) = W := ⟨_, rfl⟩
  have hb0 : Below w.heap.size w W := by rw [← hW]; exact (Below.refl _ _).alloc (Nat.le_refl _) _
  have HB : Hid (Below w.heap.size w W) := hb0
  have g0 : W.heap[w.heap.size]? = some (.cells #[.int .i64 2, .int .i64 k, .int .i64 x, .int .i64 v, .int .i64 n] 63 (0, 0)) := by rw [← hW]; exact heap_alloc_new w _
  have c0 : W.cell? ⟨w.heap.size, 0, none⟩ = some (.int .i64 2) := cell_of g0 0
  have hA := h.below hb0
  obtain ⟨p, r, h1, hd⟩ := hA.duo
  obtain ⟨T, hT⟩ : ∃ T, (fun k => O k ∧ k ≠ P) = T := ⟨_, rfl⟩
  have hTP : ¬ T P := by rw [← hT]; exact fun e => e.2 rfl
  rw [hT] at hd
  have HX : Hid (∀ w' O', Ch B T W w' O' → w'.cell? ⟨P, 0, none⟩ = some (.pointer (some ⟨p, 0, none⟩)) ∧ w'.cell? ⟨P, 1, none⟩ = some (.pointer (some ⟨r, 0, none⟩))) := fun w' O' hc => by
    have f := (hc.off.block P (hA.lt P hA.op) hTP).trans h1
    exact ⟨cell_of f 0, cell_of f 1⟩
  obtain ⟨e1, e2, e3, e4, e5⟩ := mark_rel h.al h.alm (noted_len h)
  obtain ⟨mk, hmk⟩ : ∃ mk, s.marks = mk := ⟨_, rfl⟩
  have HC1 : Hid (Calls Tryz.prog 22 #[.pointer (some ⟨p, 0, none⟩)] W.drew (DuOut B T p r s.mark (s.now.map Dm.all) (mksOf s) (.int .i64 (mk : Int)) W.drew)) := by
    have := (hd.below (Below.refl _ _).drew).mark1 hm
    rw [hmk] at this
    exact this
  have HC2 : Hid (∀ w2 O2, Duo B O2 w2 p r s.mark (s.now.map Dm.all) (mksOf s) → Calls Tryz.prog 34 #[.pointer (some ⟨r, 0, none⟩)] w2 (DuOut B O2 p r s.mark (s.mark.now.map Dm.all) (mksOf s.mark) (.int .i64 (mk : Int)) w2)) := fun w2 O2 hq => by
    have := hq.mark2 (by rw [e3]; exact hm)
    rw [e3, hmk] at this
    rw [e1, e2]
    exact this
  have HE : Hid (∀ w3 O3, Ch B T W w3 O3 → Duo B O3 w3 p r s.mark (s.mark.now.map Dm.all) (mksOf s.mark) → ∃ O' s', PaAt B P O' w3 s' ∧ s'.marks ≤ s.marks + 1 ∧ SStp B O w w3 ∧ Grown O w w3 O') := fun w3 O3 hc hq => ⟨_, s.mark, hc.pair hq h1 hTP (h.lo P h.op) e4 e5, Nat.le_refl _, hc.fin hb0 hBw h.op (fun k hk => by rw [← hT] at hk; exact hk.1) hq.lt⟩
  have HK0 : Hid (Ch B T W W.drew T) := (Ch.refl B T W).drew
  have hmm : ((mk : Int) == (mk : Int)) = true := by simp
  clear h hA hb0 g0 h1 hd hT hTP hmk e1 e2 e3 e4 e5 hm
  go_enter Tryz.func9, Tryz.ntmps9
  go_wp2_with fail
  go_region_held3 (fun w' => w'.cell? ⟨P, 0, none⟩ = some (.pointer (some ⟨p, 0, none⟩)) ∧ w'.cell? ⟨P, 1, none⟩ = some (.pointer (some ⟨r, 0, none⟩)))
    (first | exact HX.out _ _ HK0.out | exact HX.out _ _ HK3.out | exact HX.out _ _ HK2.out | assumption)
    (first
      | (go_at_call 22; refine calls_at HC1.out (by with_reducible rfl) (by with_reducible rfl) ?_; rintro e w2 ⟨rfl, O2, hD2, hS2, hG2⟩; (have HK2 : Hid (Ch B T W w2 O2) := HK0.out.next hS2 hG2); (have HD2 : Hid (Duo B O2 w2 p r s.mark (s.now.map Dm.all) (mksOf s)) := hD2); clear hD2 hS2 hG2)
      | (go_at_call 34; refine calls_at (HC2.out w2 O2 HD2.out) (by with_reducible rfl) (by with_reducible rfl) ?_; rintro e w3 ⟨rfl, O3, hD3, hS3, hG3⟩; (have HK3 : Hid (Ch B T W w3 O3) := HK2.out.next hS3 hG3); (have HD3 : Hid (Duo B O3 w3 p r s.mark (s.mark.now.map Dm.all) (mksOf s.mark)) := hD3); clear hD3 hS3 hG3))
  go_wp2_with fail
  go_ret
  exact ⟨ret_bool (by simp), HE.out w3 O3 HK3.out HD3.out⟩

set_option maxRecDepth 10000 in
set_option maxHeartbeats 1000000 in
theorem plays_back {B P : Nat} {O : Nat → Prop} {s : St} (k x v n : Int) (w : World) (h : PaAt B P O w s) : Calls Tryz.prog 9 #[.pointer (some ⟨P, 0, none⟩), .agg #[.int .i64 3, .int .i64 k, .int .i64 x, .int .i64 v, .int .i64 n]] w (PlOut B P O s w) := by
  have hBw : B ≤ w.heap.size := Nat.le_of_lt (Nat.lt_of_le_of_lt (h.lo P h.op) (h.lt P h.op))
  obtain ⟨W, hW⟩ : ∃ W, w.alloc (.cells #[.int .i64 3, .int .i64 k, .int .i64 x, .int .i64 v, .int .i64 n] 63) = W := ⟨_, rfl⟩
  have hb0 : Below w.heap.size w W := by rw [← hW]; exact (Below.refl _ _).alloc (Nat.le_refl _) _
  have HB : Hid (Below w.heap.size w W) := hb0
  have g0 : W.heap[w.heap.size]? = some (.cells #[.int .i64 3, .int .i64 k, .int .i64 x, .int .i64 v, .int .i64 n] 63 (0, 0)) := by rw [← hW]; exact heap_alloc_new w _
  have hlt := (Array.getElem?_eq_some_iff.1 g0).1
  have c0 : W.cell? ⟨w.heap.size, 0, none⟩ = some (.int .i64 3) := cell_of g0 0
  have hA := h.below hb0
  obtain ⟨p, r, h1, hd⟩ := hA.duo
  obtain ⟨T, hT⟩ : ∃ T, (fun k => O k ∧ k ≠ P) = T := ⟨_, rfl⟩
  have hTP : ¬ T P := by rw [← hT]; exact fun e => e.2 rfl
  have hTW : ¬ T w.heap.size := by rw [← hT]; exact fun e => by have := h.lt _ e.1; omega
  rw [hT] at hd
  have HX : Hid (∀ w' O', Ch B T W w' O' → w'.cell? ⟨P, 0, none⟩ = some (.pointer (some ⟨p, 0, none⟩)) ∧ w'.cell? ⟨P, 1, none⟩ = some (.pointer (some ⟨r, 0, none⟩)) ∧ w'.cell? ⟨w.heap.size, 4, none⟩ = some (.int .i64 n)) := fun w' O' hc => by
    have f := (hc.off.block P (hA.lt P hA.op) hTP).trans h1
    have f2 := (hc.off.block _ hlt hTW).trans g0
    exact ⟨cell_of f 0, cell_of f 1, cell_of f2 4⟩
  obtain ⟨e1, e2, e3, e4, e5, e6⟩ := back_rel h.al h.alm (noted_len h) n
  obtain ⟨bb, hbb⟩ : ∃ bb, s.backB n = bb := ⟨_, rfl⟩
  have HC1 : Hid (Calls Tryz.prog 26 #[.pointer (some ⟨p, 0, none⟩), .int .i64 n] W.drew (DuOut B T p r (s.back n) (s.now.map Dm.all) (mksOf s) (.bool bb) W.drew)) := by
    have := (hd.below (Below.refl _ _).drew).back1 n
    rw [hbb] at this
    exact this
  have HC2 : Hid (∀ w2 O2, Duo B O2 w2 p r (s.back n) (s.now.map Dm.all) (mksOf s) → Calls Tryz.prog 35 #[.pointer (some ⟨r, 0, none⟩), .int .i64 n] w2 (DuOut B O2 p r (s.back n) ((s.back n).now.map Dm.all) (mksOf (s.back n)) (.bool bb) w2)) := fun w2 O2 hq => by
    have := hq.back2 n
    rw [e2, e3, ← hbb, e1]
    exact this
  have HE : Hid (∀ w3 O3, Ch B T W w3 O3 → Duo B O3 w3 p r (s.back n) ((s.back n).now.map Dm.all) (mksOf (s.back n)) → ∃ O' s', PaAt B P O' w3 s' ∧ s'.marks ≤ s.marks + 1 ∧ SStp B O w w3 ∧ Grown O w w3 O') := fun w3 O3 hc hq => ⟨_, s.back n, hc.pair hq h1 hTP (h.lo P h.op) e4 e5, by omega, hc.fin hb0 hBw h.op (fun k hk => by rw [← hT] at hk; exact hk.1) hq.lt⟩
  have HK0 : Hid (Ch B T W W.drew T) := (Ch.refl B T W).drew
  have hmm : (bb == bb) = true := by simp
  clear h hA hb0 g0 hlt h1 hd hT hTP hTW hbb e1 e2 e3 e4 e5 e6
  go_enter Tryz.func9, Tryz.ntmps9
  go_wp2_with fail
  go_region_held3 (fun w' => w'.cell? ⟨P, 0, none⟩ = some (.pointer (some ⟨p, 0, none⟩)) ∧ w'.cell? ⟨P, 1, none⟩ = some (.pointer (some ⟨r, 0, none⟩)) ∧ w'.cell? ⟨w.heap.size, 4, none⟩ = some (.int .i64 n))
    (first | exact HX.out _ _ HK0.out | exact HX.out _ _ HK3.out | exact HX.out _ _ HK2.out | assumption)
    (first
      | (go_at_call 26; refine calls_at HC1.out (by with_reducible rfl) (by with_reducible rfl) ?_; rintro e w2 ⟨rfl, O2, hD2, hS2, hG2⟩; (have HK2 : Hid (Ch B T W w2 O2) := HK0.out.next hS2 hG2); (have HD2 : Hid (Duo B O2 w2 p r (s.back n) (s.now.map Dm.all) (mksOf s)) := hD2); clear hD2 hS2 hG2)
      | (go_at_call 35; refine calls_at (HC2.out w2 O2 HD2.out) (by with_reducible rfl) (by with_reducible rfl) ?_; rintro e w3 ⟨rfl, O3, hD3, hS3, hG3⟩; (have HK3 : Hid (Ch B T W w3 O3) := HK2.out.next hS3 hG3); (have HD3 : Hid (Duo B O3 w3 p r (s.back n) ((s.back n).now.map Dm.all) (mksOf (s.back n))) := hD3); clear hD3 hS3 hG3))
  go_wp2_with fail
  go_ret
  exact ⟨ret_bool (by simp), HE.out w3 O3 HK3.out HD3.out⟩
end Go.Proofs.YtchpapppkmnfnaaGreatDoor

namespace Go.Proofs.YtchpapppkmnfnaaGreatDoor
open Go.RowKit

set_option maxRecDepth 10000 in
set_option maxHeartbeats 1000000 in
theorem plays_look {B P : Nat} {O : Nat → Prop} {s : St} (k x v n : Int) (w : World) (h : PaAt B P O w s) (hT : Tz w) (hs : 0 < w.heap.size) : Calls Tryz.prog 9 #[.pointer (some ⟨P, 0, none⟩), .agg #[.int .i64 4, .int .i64 k, .int .i64 x, .int .i64 v, .int .i64 n]] w (PlOut B P O s w) := by
  have hBw : B ≤ w.heap.size := Nat.le_of_lt (Nat.lt_of_le_of_lt (h.lo P h.op) (h.lt P h.op))
  obtain ⟨W, hW⟩ : ∃ W, w.alloc (.cells #[.int .i64 4, .int .i64 k, .int .i64 x, .int .i64 v, .int .i64 n] 63) = W := ⟨_, rfl⟩
  have hb0 : Below w.heap.size w W := by rw [← hW]; exact (Below.refl _ _).alloc (Nat.le_refl _) _
  have g0 : W.heap[w.heap.size]? = some (.cells #[.int .i64 4, .int .i64 k, .int .i64 x, .int .i64 v, .int .i64 n] 63 (0, 0)) := by rw [← hW]; exact heap_alloc_new w _
  have c0 : W.cell? ⟨w.heap.size, 0, none⟩ = some (.int .i64 4) := cell_of g0 0
  have HC : Hid (Calls Tryz.prog 18 #[.pointer (some ⟨P, 0, none⟩)] W fun e w' => e = .returned (.bool true) ∧ Below W.heap.size W w') := like_any W (h.below hb0) (hT.below hb0 hs) (Nat.lt_of_lt_of_le hs hb0.size)
  have HE : Hid (∀ w', Below W.heap.size W w' → ∃ O' s', PaAt B P O' w' s' ∧ s'.marks ≤ s.marks + 1 ∧ SStp B O w w' ∧ Grown O w w' O') := fun w' hb => ⟨O, s, (h.below hb0).below hb, by omega, SStp.of_below (bl_next hb0 hb) hBw, Grown.refl _ _ _⟩
  clear h hb0 g0 hT
  go_enter Tryz.func9, Tryz.ntmps9
  go_wp2_with fail
  refine calls_at HC.out (by with_reducible rfl) (by with_reducible rfl) ?_
  rintro e w2 ⟨rfl, hb2⟩
  have HE2 : Hid (∃ O' s', PaAt B P O' w2 s' ∧ s'.marks ≤ s.marks + 1 ∧ SStp B O w w2 ∧ Grown O w w2 O') := HE.out w2 hb2
  clear hb2
  go_wp2_with fail
  go_ret
  exact ⟨rfl, HE2.out⟩
set_option maxRecDepth 10000 in
set_option maxHeartbeats 1000000 in
theorem plays_none {B P : Nat} {O : Nat → Prop} {s : St} (kd k x v n : Int) (w : World) (h : PaAt B P O w s) (h1 : kd ≠ 1) (h2 : kd ≠ 2) (h3 : kd ≠ 3) (h4 : kd ≠ 4) (h5 : kd ≠ 5) : Calls Tryz.prog 9 #[.pointer (some ⟨P, 0, none⟩), .agg #[.int .i64 kd, .int .i64 k, .int .i64 x, .int .i64 v, .int .i64 n]] w (PlOut B P O s w) := by
  have hBw : B ≤ w.heap.size := Nat.le_of_lt (Nat.lt_of_le_of_lt (h.lo P h.op) (h.lt P h.op))
  obtain ⟨W, hW⟩ : ∃ W, w.alloc (.cells #[.int .i64 kd, .int .i64 k, .int .i64 x, .int .i64 v, .int .i64 n] 63) = W := ⟨_, rfl⟩
  have hb0 : Below w.heap.size w W := by rw [← hW]; exact (Below.refl _ _).alloc (Nat.le_refl _) _
  have g0 : W.heap[w.heap.size]? = some (.cells #[.int .i64 kd, .int .i64 k, .int .i64 x, .int .i64 v, .int .i64 n] 63 (0, 0)) := by rw [← hW]; exact heap_alloc_new w _
  have c0 : W.cell? ⟨w.heap.size, 0, none⟩ = some (.int .i64 kd) := cell_of g0 0
  have HE : Hid (∃ O' s', PaAt B P O' W s' ∧ s'.marks ≤ s.marks + 1 ∧ SStp B O w W ∧ Grown O w W O') := ⟨O, s, h.below hb0, by omega, SStp.of_below hb0 hBw, Grown.refl _ _ _⟩
  have e1 : (kd == 1) = false := by simpa using h1
  have e2 : (kd == 2) = false := by simpa using h2
  have e3 : (kd == 3) = false := by simpa using h3
  have e4 : (kd == 4) = false := by simpa using h4
  have e5 : (kd == 5) = false := by simpa using h5
  clear h hb0 g0
  go_enter Tryz.func9, Tryz.ntmps9
  go_wp2_with fail
  go_ret
  exact ⟨rfl, HE.out⟩

/-- The old store and the document's copy, as they go on by themselves. -/
structure Cy (B n : Nat) (T : Nat → Prop) (w6 : World) (p r : Nat) (w : World) : Prop where
  ex : ∃ O t, Duo B O w p r t (t.now.map Dm.all) (mksOf t) ∧ Alls t ∧ AllsM t ∧ t.now.length = n ∧ Ch B T w6 w O
structure Cz (B n : Nat) (T : Nat → Prop) (w6 : World) (p r : Nat) (k x v : Int) (w : World) : Prop where
  ex : ∃ O t, Duo B O w p r (t.cut k x v) (t.now.map Dm.all) (mksOf t) ∧ Alls t ∧ AllsM t ∧ t.now.length = n ∧ Ch B T w6 w O
structure Cb (B n : Nat) (T : Nat → Prop) (w6 : World) (p r : Nat) (w : World) : Prop where
  ex : ∃ O t, Duo B O w p r (t.back 0) (t.now.map Dm.all) (mksOf t) ∧ Alls t ∧ AllsM t ∧ t.noted.length = t.marks * t.now.length ∧ Ch B T w6 w O
section
variable {B n : Nat} {T : Nat → Prop} {w6 w w' : World} {p r : Nat}
theorem Duo.size {O : Nat → Prop} {s : St} {LL : List (List Int)} {MM : List (List (List Int))} (h : Duo B O w p r s LL MM) : B ≤ w.heap.size := by
  obtain ⟨nv, mv, S, Bs, h2, h3, h4, _⟩ := h.ex
  exact Nat.le_trans h4 h2.size
theorem Cy.below (h : Cy B n T w6 p r w) (hb : Below w.heap.size w w') : Cy B n T w6 p r w' := by
  obtain ⟨O, t, h1, h2, h3, h4, h5⟩ := h.ex
  exact ⟨O, t, h1.below hb, h2, h3, h4, h5.read hb h1.size⟩
theorem Cy.vars (h : Cy B n T w6 p r w) : Calls Tryz.prog 10 #[.pointer (some ⟨r, 0, none⟩)] w fun e w' => e = .returned (.int .i64 (n : Int)) ∧ w' = w := by
  obtain ⟨O, t, h1, h2, h3, h4, h5⟩ := h.ex
  obtain ⟨nv, mv, S, Bs, a2, a3, _⟩ := h1.ex
  have := rVars_any w a3
  rw [List.length_map, h4] at this
  exact this
theorem Cy.lo (h : Cy B n T w6 p r w) (x : Nat) (hx : x < n) : Calls Tryz.prog 37 #[.pointer (some ⟨r, 0, none⟩), .int .i64 (x : Int)] w fun e w' => (∃ z, e = .returned (.int .i64 z)) ∧ Below w.heap.size w w' := by
  obtain ⟨O, t, h1, h2, h3, h4, h5⟩ := h.ex
  obtain ⟨nv, mv, S, Bs, a2, a3, _⟩ := h1.ex
  have hq : x < t.now.length := by omega
  obtain ⟨ho, hA⟩ := h2 _ (List.getElem_mem hq)
  exact (rLo_in x (by rw [List.length_map]; exact hq) (by rw [List.getElem_map]; exact all_pos ho hA) w a3).mono fun e w' hq => ⟨⟨_, hq.1⟩, hq.2⟩
theorem Cy.cut1 {w0 : World} (h : Cy B n T w6 p r w0) (hb : Below w0.heap.size w0 w) (k x v : Int) : Calls Tryz.prog 21 #[.pointer (some ⟨p, 0, none⟩), .agg #[.int .i64 k, .int .i64 x, .int .i64 v]] w fun e w' => (∃ a b, e = .returned (.tuple #[.bool a, .bool b])) ∧ Cz B n T w6 p r k x v w' ∧ ∀ b, w0.heap.size ≤ b → b < w.heap.size → w'.heap[b]? = w.heap[b]? := by
  obtain ⟨O, t, h1, h2, h3, h4, h5⟩ := h.ex
  refine ((h1.below hb).cut1 k x v).mono fun e w' hq => ?_
  obtain ⟨q1, O', q2, q3, q4⟩ := hq
  exact ⟨⟨_, _, q1⟩, ⟨O', t, q2, h2, h3, h4, (h5.read hb h1.size).next q3 q4⟩, fun b a1 a2 => q3.off.block b a2 fun e => by have := h1.lt b e; omega⟩
theorem Cz.cut2 {k x v : Int} (h : Cz B n T w6 p r k x v w) : Calls Tryz.prog 33 #[.pointer (some ⟨r, 0, none⟩), .agg #[.int .i64 k, .int .i64 x, .int .i64 v]] w fun e w' => (∃ a b, e = .returned (.tuple #[.bool a, .bool b])) ∧ Cy B n T w6 p r w' := by
  obtain ⟨O, t, h1, h2, h3, h4, h5⟩ := h.ex
  refine (h1.cut2 k x v).mono fun e w' hq => ?_
  obtain ⟨q1, O', q2, q3, q4⟩ := hq
  obtain ⟨e1, e2, e3⟩ := cut_len t k x v
  refine ⟨⟨_, _, q1⟩, ⟨O', t.cut k x v, ?_, alls_cut h2 k x v, ?_, by rw [e1]; exact h4, h5.next q3 q4⟩⟩
  · rw [(cut_rel h2 k x v).1, cut_mks]
    exact q2
  · intro d hd
    rw [e2] at hd
    exact h3 d hd
theorem Cy.back1 (h : Cy B n T w6 p r w) : Calls Tryz.prog 26 #[.pointer (some ⟨p, 0, none⟩), .int .i64 0] w fun e w' => (∃ a, e = .returned (.bool a)) ∧ Cb B n T w6 p r w' := by
  obtain ⟨O, t, h1, h2, h3, h4, h5⟩ := h.ex
  have hl : t.noted.length = t.marks * t.now.length := by
    obtain ⟨_, _, _, _, a2, _⟩ := h1.ex
    exact a2.len
  refine (h1.back1 0).mono fun e w' hq => ?_
  obtain ⟨q1, O', q2, q3, q4⟩ := hq
  exact ⟨⟨_, q1⟩, ⟨O', t, q2, h2, h3, hl, h5.next q3 q4⟩⟩
theorem Cb.back2 (h : Cb B n T w6 p r w) : Calls Tryz.prog 35 #[.pointer (some ⟨r, 0, none⟩), .int .i64 0] w fun e w' => (∃ a, e = .returned (.bool a)) ∧ ∃ O t, Duo B O w' p r t (t.now.map Dm.all) (mksOf t) ∧ Alls t ∧ AllsM t ∧ Ch B T w6 w' O := by
  obtain ⟨O, t, h1, h2, h3, h4, h5⟩ := h.ex
  refine (h1.back2 0).mono fun e w' hq => ?_
  obtain ⟨q1, O', q2, q3, q4⟩ := hq
  obtain ⟨e1, e2, e3, e4, e5, _⟩ := back_rel h2 h3 h4 0
  refine ⟨⟨_, q1⟩, O', t.back 0, ?_, e4, e5, h5.next q3 q4⟩
  rw [e2, e3]
  exact q2
end
end Go.Proofs.YtchpapppkmnfnaaGreatDoor
