/-
  Put together: DtPlayC, DtPlayD.
-/
import Derived.Test.YtchpapppkmnfnaaGreatDoorJ41
import Derived.Test.YtchpapppkmnfnaaGreatDoorJ42
namespace Go.Proofs.YtchpapppkmnfnaaGreatDoor
open Go.RowKit

/-- A store and its copy, the document's and its copy: two pairs apart. -/
structure Fo (B P n L : Nat) (O T N : Nat → Prop) (p p2 r r2 : Nat) (s : St) (w : World) : Prop where
  old : Cy B n T w p r2 w
  new : Duo B N w p2 r s (s.now.map Dm.all) (mksOf s)
  apart : ∀ k, T k → ¬ N k
  nt : ¬ T P
  nn : ¬ N P
  box : w.heap[P]? = some (.cells #[.pointer (some ⟨p2, 0, none⟩), .pointer (some ⟨r, 0, none⟩)] 39 (0, 0))
  lo : B ≤ P
  al : Alls s
  alm : AllsM s
  tO : ∀ k, T k → O k ∨ L ≤ k
  nO : ∀ k, N k → O k ∨ L ≤ k
theorem fo_of {B P : Nat} {O : Nat → Prop} {W w2 w4 w5 : World} {p r p2 r2 : Nat} {s : St} {nv mv nv2 mv2 : Value} {S S2 : Nat → Prop} {Bs : Nat} (hB : B ≤ P) (hP : P < W.heap.size) (h1 : W.heap[P]? = some (.cells #[.pointer (some ⟨p, 0, none⟩), .pointer (some ⟨r, 0, none⟩)] 39 (0, 0)))
    (h2 : StAt Bs W p nv mv s) (h3 : RsAt B S W r (s.now.map Dm.all) (mksOf s)) (h4 : B ≤ Bs) (h5 : ∀ k, Own p nv mv k → O k ∧ k ≠ P) (h6 : ∀ k, S k → O k ∧ k ≠ P) (h7 : ∀ k, Own p nv mv k → ¬ S k) (al : Alls s) (alm : AllsM s)
    (a1 : StAt W.heap.size w2 p2 nv2 mv2 s) (b1 : Below W.heap.size W w2) (b2 : Below w2.heap.size w2 w4) (a2 : RsAt w4.heap.size S2 w5 r2 (s.now.map Dm.all) (mksOf s)) (b3 : Below w4.heap.size w4 w5) :
    Fo B P s.now.length W.heap.size O (fun k => Own p nv mv k ∨ S2 k) (fun k => Own p2 nv2 mv2 k ∨ S k) p p2 r r2 s (w5.setCell ⟨P, 0, none⟩ (.pointer (some ⟨p2, 0, none⟩))) ∧ w5.heap[P]? = some (.cells #[.pointer (some ⟨p, 0, none⟩), .pointer (some ⟨r, 0, none⟩)] 39 (0, 0)) := by
  have z1 := b1.size
  have z2 := b2.size
  have z3 := b3.size
  have hBs : Bs ≤ W.heap.size := h2.size
  have bW5 : Below W.heap.size W w5 := b1.trans ((b2.trans (b3.mono z2)).mono z1)
  have hP5 := (bW5.block P hP).trans h1
  have hsz : (w5.setCell ⟨P, 0, none⟩ (.pointer (some ⟨p2, 0, none⟩))).heap.size = w5.heap.size := by simp
  have ne : ∀ k, k ≠ P → (w5.setCell ⟨P, 0, none⟩ (.pointer (some ⟨p2, 0, none⟩))).heap[k]? = w5.heap[k]? := fun k hk => heap_setCell_other _ _ _ _ hk
  have o1 : ∀ k, Own p nv mv k → B ≤ k ∧ k < W.heap.size := fun k hk => ⟨Nat.le_trans h4 (own_lo h2 hk), own_lt h2 hk⟩
  have o2 : ∀ k, Own p2 nv2 mv2 k → W.heap.size ≤ k ∧ k < w2.heap.size := fun k hk => ⟨own_lo a1 hk, own_lt a1 hk⟩
  have o3 : ∀ k, S k → B ≤ k ∧ k < W.heap.size := fun k hk => ⟨h3.lo k hk, h3.lt k hk⟩
  have o4 : ∀ k, S2 k → w4.heap.size ≤ k ∧ k < w5.heap.size := fun k hk => ⟨a2.lo k hk, a2.lt k hk⟩
  have p1 : StAt Bs (w5.setCell ⟨P, 0, none⟩ (.pointer (some ⟨p2, 0, none⟩))) p nv mv s := h2.keep fun k _ hk => (ne k (h5 k hk).2).trans (bW5.block k (o1 k hk).2)
  have p2' : StAt W.heap.size (w5.setCell ⟨P, 0, none⟩ (.pointer (some ⟨p2, 0, none⟩))) p2 nv2 mv2 s := a1.keep fun k _ hk => (ne k (by have := (o2 k hk).1; omega)).trans (((b2.trans (b3.mono z2)).block k (o2 k hk).2))
  have p3 : RsAt B S (w5.setCell ⟨P, 0, none⟩ (.pointer (some ⟨p2, 0, none⟩))) r (s.now.map Dm.all) (mksOf s) := h3.keep (by rw [hsz]; omega) fun k hk => (ne k (h6 k hk).2).trans (bW5.block k (o3 k hk).2)
  have p4 : RsAt B S2 (w5.setCell ⟨P, 0, none⟩ (.pointer (some ⟨p2, 0, none⟩))) r2 (s.now.map Dm.all) (mksOf s) := by
    have := a2.keep (w' := w5.setCell ⟨P, 0, none⟩ (.pointer (some ⟨p2, 0, none⟩))) (by rw [hsz]; omega) fun k hk => ne k (by have := (o4 k hk).1; omega)
    exact { this with lo := fun k hk => by have := (o4 k hk).1; omega }
  refine ⟨⟨⟨fun k => Own p nv mv k ∨ S2 k, s, ⟨⟨nv, mv, S2, Bs, p1, p4, h4, fun k hk => .inl hk, fun k hk => .inr hk, fun k hk hS => ?_⟩, ?_, ?_⟩, al, alm, rfl, Ch.refl _ _ _⟩, ⟨⟨nv2, mv2, S, W.heap.size, p2', p3, by omega, fun k hk => .inl hk, fun k hk => .inr hk, fun k hk hS => ?_⟩, ?_, ?_⟩, ?_, ?_, ?_, ?_, hB, al, alm, ?_, ?_⟩, hP5⟩
  · have := (o1 k hk).2; have := (o4 k hS).1; omega
  · rintro k (e | e)
    · exact (o1 k e).1
    · have := (o4 k e).1; omega
  · rintro k (e | e)
    · rw [hsz]; have := (o1 k e).2; omega
    · rw [hsz]; exact (o4 k e).2
  · have := (o2 k hk).1; have := (o3 k hS).2; omega
  · rintro k (e | e)
    · have := (o2 k e).1; omega
    · exact (o3 k e).1
  · rintro k (e | e)
    · rw [hsz]; have := (o2 k e).2; omega
    · rw [hsz]; have := (o3 k e).2; omega
  · rintro k (e | e) (f | f)
    · have := (o1 k e).2; have := (o2 k f).1; omega
    · exact h7 k e f
    · have := (o4 k e).1; have := (o2 k f).2; omega
    · have := (o4 k e).1; have := (o3 k f).2; omega
  · rintro (e | e)
    · exact (h5 P e).2 rfl
    · have := (o4 P e).1; omega
  · rintro (e | e)
    · have := (o2 P e).1; omega
    · exact (h6 P e).2 rfl
  · rw [heap_setCell_same _ _ _ _ _ _ hP5]
    rfl
  · rintro k (e | e)
    · exact .inl (h5 k e).1
    · exact .inr (by have := (o4 k e).1; omega)
  · rintro k (e | e)
    · exact .inr (o2 k e).1
    · exact .inl (h6 k e).1

set_option maxRecDepth 10000 in
set_option maxHeartbeats 4000000 in
theorem plays_copy {B P : Nat} {O : Nat → Prop} {s : St} (k x v n : Int) (w : World) (h : PaAt B P O w s) (hT : Tz w) (hs : 0 < w.heap.size) (hB1 : 1 ≤ B) : Calls Tryz.prog 9 #[.pointer (some ⟨P, 0, none⟩), .agg #[.int .i64 5, .int .i64 k, .int .i64 x, .int .i64 v, .int .i64 n]] w (PlOut B P O s w) := by
  have hBw : B ≤ w.heap.size := Nat.le_of_lt (Nat.lt_of_le_of_lt (h.lo P h.op) (h.lt P h.op))
  obtain ⟨W, hW⟩ : ∃ W, w.alloc (.cells #[.int .i64 5, .int .i64 k, .int .i64 x, .int .i64 v, .int .i64 n] 63) = W := ⟨_, rfl⟩
  have hb0 : Below w.heap.size w W := by rw [← hW]; exact (Below.refl _ _).alloc (Nat.le_refl _) _
  have HB : Hid (Below w.heap.size w W) := hb0
  have g0 : W.heap[w.heap.size]? = some (.cells #[.int .i64 5, .int .i64 k, .int .i64 x, .int .i64 v, .int .i64 n] 63 (0, 0)) := by rw [← hW]; exact heap_alloc_new w _
  have c0 : W.cell? ⟨w.heap.size, 0, none⟩ = some (.int .i64 5) := cell_of g0 0
  have hA := h.below hb0
  have hTW := hT.below hb0 hs
  have hsW : 0 < W.heap.size := Nat.lt_of_lt_of_le hs hb0.size
  obtain ⟨p, nv, mv, r, S, Bs, h1, h2, h3, h4, h5, h6, h7⟩ := hA.ex
  have hPl := hA.lt P hA.op
  have HX : Hid (∀ w', Below W.heap.size W w' → w'.cell? ⟨P, 0, none⟩ = some (.pointer (some ⟨p, 0, none⟩)) ∧ w'.cell? ⟨P, 1, none⟩ = some (.pointer (some ⟨r, 0, none⟩)) ∧ (∀ i, w'.frozen? ⟨P, i, none⟩ = false) ∧ Below W.heap.size W w') := fun w' hb => by
    have f := (hb.block P hPl).trans h1
    exact ⟨cell_of f 0, cell_of f 1, frozen_of f, hb⟩
  have HCp : Hid (Calls Tryz.prog 27 #[.pointer (some ⟨p, 0, none⟩)] W (CopyOut s W)) := copy_any _ p _ _ s W h2
  have HSm : Hid (∀ w' p2 nv2 mv2, Below W.heap.size W w' → StAt W.heap.size w' p2 nv2 mv2 s → (Calls Tryz.prog 28 #[.pointer (some ⟨p2, 0, none⟩), .pointer (some ⟨p, 0, none⟩)] w' fun e w2 => e = .returned (.bool true) ∧ Below w'.heap.size w' w2) ∧ (Calls Tryz.prog 28 #[.pointer (some ⟨p, 0, none⟩), .pointer (some ⟨p2, 0, none⟩)] w' fun e w2 => e = .returned (.bool true) ∧ Below w'.heap.size w' w2)) := fun w' p2 nv2 mv2 hb hq => by
    have hTw := hTW.below hb hsW
    exact ⟨same_any _ p2 _ p _ _ _ _ s s w' hq (h2.below hb) rfl hTw, same_any _ p _ p2 _ _ _ _ s s w' (h2.below hb) hq rfl hTw⟩
  have HCr : Hid (∀ w', Below W.heap.size W w' → Calls Tryz.prog 36 #[.pointer (some ⟨r, 0, none⟩)] w' (RyOut (s.now.map Dm.all) (mksOf s) w')) := fun w' hb => rCopy_any w' (h3.below hb)
  have HFo : Hid (∀ (w2 w4 w5 : World) (p2 r2 : Nat) (nv2 mv2 : Value) (S2 : Nat → Prop), StAt W.heap.size w2 p2 nv2 mv2 s → Below W.heap.size W w2 → Below w2.heap.size w2 w4 → RsAt w4.heap.size S2 w5 r2 (s.now.map Dm.all) (mksOf s) → Below w4.heap.size w4 w5 → Fo B P s.now.length W.heap.size O (fun k => Own p nv mv k ∨ S2 k) (fun k => Own p2 nv2 mv2 k ∨ S k) p p2 r r2 s (w5.setCell ⟨P, 0, none⟩ (.pointer (some ⟨p2, 0, none⟩)))) := fun w2 w4 w5 p2 r2 nv2 mv2 S2 q1 q2 q3 q4 q5 => (fo_of (h.lo P h.op) hPl h1 h2 h3 h4 h5 h6 h7 h.al h.alm q1 q2 q3 q4 q5).1
  have HTz : Hid (∀ w', Below B W w' → Tz w' ∧ 0 < w'.heap.size) := fun w' hb => ⟨fun r hr => (hb.cell (p := ⟨0, r, none⟩) (by show 0 < B; omega)).trans (hTW r hr), Nat.lt_of_lt_of_le hsW hb.size⟩
  have HOP : Hid (O P) := h.op
  have HPB : Hid (B ≤ P ∧ B ≤ W.heap.size) := ⟨h.lo P h.op, Nat.le_trans hBw hb0.size⟩
  have hn := h2.n32
  obtain ⟨y0, y1, _, _⟩ := HX.out W (Below.refl _ _)
  clear h hA hb0 g0 h1 h2 h3 h4 h5 h6 h7 hPl hT hTW
  go_enter Tryz.func9, Tryz.ntmps9
  go_wp2_with fail
  refine calls_at HCp.out (by with_reducible rfl) (by with_reducible rfl) ?_
  rintro e w2 ⟨p2, nv2, mv2, rfl, hA2, hb2⟩
  have HA2 : Hid (StAt W.heap.size w2 p2 nv2 mv2 s) := hA2
  have HB2 : Hid (Below W.heap.size W w2) := hb2
  clear y0 y1 hA2 hb2
  obtain ⟨y0, y1, _, _⟩ := HX.out w2 HB2.out
  go_wp2_with fail
  refine calls_at (HSm.out w2 p2 nv2 mv2 HB2.out HA2.out).1 (by with_reducible rfl) (by with_reducible rfl) ?_
  rintro e w3 ⟨rfl, hb3⟩
  have HB3 : Hid (Below W.heap.size W w3) := bl_next HB2.out hb3
  have HA3 : Hid (StAt W.heap.size w3 p2 nv2 mv2 s) := HA2.out.below hb3
  have HL3 : Hid (Below w2.heap.size w2 w3) := hb3
  clear y0 y1 hb3
  obtain ⟨y0, y1, _, _⟩ := HX.out w3 HB3.out
  go_wp2_with fail
  refine calls_at (HSm.out w3 p2 nv2 mv2 HB3.out HA3.out).2 (by with_reducible rfl) (by with_reducible rfl) ?_
  rintro e w4 ⟨rfl, hb4⟩
  have HB4 : Hid (Below W.heap.size W w4) := bl_next HB3.out hb4
  have HL4 : Hid (Below w2.heap.size w2 w4) := bl_next HL3.out hb4
  clear y0 y1 hb4
  go_wp2_with fail
  go_cut [10, 11] from 108 to 159 (fun s10 s11 wx => ∃ r2, s10 = .pointer (some ⟨p, 0, none⟩) ∧ s11 = .pointer (some ⟨r2, 0, none⟩) ∧ wx.cell? ⟨P, 0, none⟩ = some (.pointer (some ⟨p, 0, none⟩)) ∧ wx.cell? ⟨P, 1, none⟩ = some (.pointer (some ⟨r, 0, none⟩)) ∧ (∀ i, wx.frozen? ⟨P, i, none⟩ = false) ∧ Hid (∃ T N, Fo B P s.now.length W.heap.size O T N p p2 r r2 s (wx.setCell ⟨P, 0, none⟩ (.pointer (some ⟨p2, 0, none⟩)))) ∧ Hid (Below W.heap.size W wx))
  case first =>
    go_region_held3 (fun w' => w'.cell? ⟨P, 0, none⟩ = some (.pointer (some ⟨p, 0, none⟩)) ∧ w'.cell? ⟨P, 1, none⟩ = some (.pointer (some ⟨r, 0, none⟩)) ∧ (∀ i, w'.frozen? ⟨P, i, none⟩ = false) ∧ Below W.heap.size W w')
      (first | exact HX.out _ HB4.out.drew | exact HX.out _ HB5.out | assumption)
      (first
        | (go_at_call 36; refine calls_at (HCr.out w4.drew HB4.out.drew) (by with_reducible rfl) (by with_reducible rfl) ?_; rintro e w5 ⟨r2, S2, rfl, hR5, hb5⟩; (have HF5 : Hid (∃ T N, Fo B P s.now.length W.heap.size O T N p p2 r r2 s (w5.setCell ⟨P, 0, none⟩ (.pointer (some ⟨p2, 0, none⟩)))) := ⟨_, _, HFo.out w2 w4.drew w5 p2 r2 nv2 mv2 S2 HA2.out HB2.out HL4.out.drew hR5 hb5⟩); (have HB5 : Hid (Below W.heap.size W w5) := bl_next HB4.out.drew hb5); clear hR5 hb5))
    go_wp2_with fail
    go_meet
    obtain ⟨z0, z1, z2, _⟩ := HX.out w5 HB5.out
    exact ⟨r2, rfl, rfl, z0, z1, z2, HF5, HB5⟩
  case rest =>
  obtain ⟨r2, rfl, rfl, z0, z1, z2, HF5, HB5⟩ := hcut
  rename World => w5
  obtain ⟨T, N, hFo⟩ := HF5.out
  obtain ⟨w6, hw6⟩ : ∃ w6, w5.setCell ⟨P, 0, none⟩ (.pointer (some ⟨p2, 0, none⟩)) = w6 := ⟨_, rfl⟩
  rw [hw6] at hFo
  have HF6 : Hid (Fo B P s.now.length W.heap.size O T N p p2 r r2 s w6) := hFo
  have HB6 : Hid (Below B W w6) := by show Below _ _ _; rw [← hw6]; exact (HB5.out.mono HPB.out.2).setCell HPB.out.1 _
  have HW6 : Hid (∀ k, k < W.heap.size → k ≠ P → w6.heap[k]? = W.heap[k]?) := fun k hk hp => by rw [← hw6, heap_setCell_other _ _ _ _ hp]; exact HB5.out.block k hk
  have HW6s : Hid (W.heap.size ≤ w6.heap.size) := by show _ ≤ _; rw [← hw6]; simpa using HB5.out.size
  obtain ⟨n', hnn⟩ : ∃ n', s.now.length = n' := ⟨_, rfl⟩
  rw [hnn] at HF6 hn
  clear hFo HF5 hnn
  go_wp2_with fail
  go_loopw [12] (fun iv wr => ∃ j : Nat, iv = .int .i64 (j : Int) ∧ j ≤ n' ∧ Hid (Cy B n' T w6 p r2 wr)) (fun iv _ => n' - (intOf iv).toNat)
  case atStart => exact ⟨0, rfl, Nat.zero_le _, HF6.out.old⟩
  case round =>
  obtain ⟨j, rfl, hj, HC⟩ := hrel
  go_wp2_with fail
  refine calls_at HC.out.vars (by with_reducible rfl) (by with_reducible rfl) ?_
  rintro e w7 ⟨rfl, rfl⟩
  by_cases hjn : j < n'
  · have hjI : (j : Int) < (n' : Int) := by omega
    go_wp2_with fail
    refine calls_at (HC.out.lo j hjn) (by with_reducible rfl) (by with_reducible rfl) ?_
    rintro e w8 ⟨⟨z, rfl⟩, hb8⟩
    have HC8 : Hid (Cy B n' T w6 p r2 w8) := HC.out.below hb8
    obtain ⟨X, hX⟩ : ∃ X, w8.alloc (.cells #[.int .i64 2, .int .i64 (j : Int), .int .i64 z] 61) = X := ⟨_, rfl⟩
    have hbX : Below w8.heap.size w8 X := by rw [← hX]; exact (Below.refl _ _).alloc (Nat.le_refl _) _
    have gX : X.heap[w8.heap.size]? = some (.cells #[.int .i64 2, .int .i64 (j : Int), .int .i64 z] 61 (0, 0)) := by rw [← hX]; exact heap_alloc_new w8 _
    have HC9 : Hid (Calls Tryz.prog 21 #[.pointer (some ⟨p, 0, none⟩), .agg #[.int .i64 2, .int .i64 (j : Int), .int .i64 z]] X fun e w' => (∃ a b, e = .returned (.tuple #[.bool a, .bool b])) ∧ Cz B n' T w6 p r2 2 j z w' ∧ ∀ b, w8.heap.size ≤ b → b < X.heap.size → w'.heap[b]? = X.heap[b]?) := HC8.out.cut1 hbX 2 j z
    have x0 : X.cell? ⟨w8.heap.size, 0, none⟩ = some (.int .i64 2) := cell_of gX 0
    have x1 : X.cell? ⟨w8.heap.size, 1, none⟩ = some (.int .i64 (j : Int)) := cell_of gX 1
    have x2 : X.cell? ⟨w8.heap.size, 2, none⟩ = some (.int .i64 z) := cell_of gX 2
    have HGX : Hid (X.heap[w8.heap.size]? = some (.cells #[.int .i64 2, .int .i64 (j : Int), .int .i64 z] 61 (0, 0))) := gX
    clear hb8 hbX gX
    go_wp2_with fail
    refine calls_at HC9.out (by with_reducible rfl) (by with_reducible rfl) ?_
    rintro e w9 ⟨⟨a9, b9, rfl⟩, hz9, hk9⟩
    have g9 := (hk9 w8.heap.size (Nat.le_refl _) (Array.getElem?_eq_some_iff.1 HGX.out).1).trans HGX.out
    have v0 : w9.cell? ⟨w8.heap.size, 0, none⟩ = some (.int .i64 2) := cell_of g9 0
    have v1 : w9.cell? ⟨w8.heap.size, 1, none⟩ = some (.int .i64 (j : Int)) := cell_of g9 1
    have v2 : w9.cell? ⟨w8.heap.size, 2, none⟩ = some (.int .i64 z) := cell_of g9 2
    have HC10 : Hid (Calls Tryz.prog 33 #[.pointer (some ⟨r2, 0, none⟩), .agg #[.int .i64 2, .int .i64 (j : Int), .int .i64 z]] w9 fun e w' => (∃ a b, e = .returned (.tuple #[.bool a, .bool b])) ∧ Cy B n' T w6 p r2 w') := hz9.cut2
    clear hz9 hk9 g9 x0 x1 x2 hX
    go_wp2_with fail
    refine calls_at HC10.out (by with_reducible rfl) (by with_reducible rfl) ?_
    rintro e w10 ⟨⟨a10, b10, rfl⟩, hc10⟩
    have HCf : Hid (Cy B n' T w6 p r2 w10) := hc10
    clear hc10 v0 v1 v2
    go_wp2_with fail
    go_roundw
    case rel => exact ⟨j + 1, by go_num, hjn, HCf⟩
    case measure => simp [intOf]; omega
  · have hje : j = n' := by omega
    subst hje
    have hjI : ¬ (j : Int) < (j : Int) := by omega
    have HC11 : Hid (Calls Tryz.prog 26 #[.pointer (some ⟨p, 0, none⟩), .int .i64 0] w7 fun e w' => (∃ a, e = .returned (.bool a)) ∧ Cb B j T w6 p r2 w') := HC.out.back1
    go_wp2_with fail
    refine calls_at HC11.out (by with_reducible rfl) (by with_reducible rfl) ?_
    rintro e w11 ⟨⟨a11, rfl⟩, hc11⟩
    have HC12 : Hid (Calls Tryz.prog 35 #[.pointer (some ⟨r2, 0, none⟩), .int .i64 0] w11 fun e w' => (∃ a, e = .returned (.bool a)) ∧ ∃ O t, Duo B O w' p r2 t (t.now.map Dm.all) (mksOf t) ∧ Alls t ∧ AllsM t ∧ Ch B T w6 w' O) := hc11.back2
    clear hc11
    go_wp2_with fail
    refine calls_at HC12.out (by with_reducible rfl) (by with_reducible rfl) ?_
    rintro e w12 ⟨⟨a12, rfl⟩, Oq, t, hD, hAl, hAm, hCh⟩
    obtain ⟨X, hX⟩ : ∃ X, w12.alloc (.cells #[.pointer (some ⟨p, 0, none⟩), .pointer (some ⟨r2, 0, none⟩)] 39) = X := ⟨_, rfl⟩
    have hbX : Below w12.heap.size w12 X := by rw [← hX]; exact (Below.refl _ _).alloc (Nat.le_refl _) _
    have gX : X.heap[w12.heap.size]? = some (.cells #[.pointer (some ⟨p, 0, none⟩), .pointer (some ⟨r2, 0, none⟩)] 39 (0, 0)) := by rw [← hX]; exact heap_alloc_new w12 _
    have hf := HF6.out
    have hq : PaAt B w12.heap.size (fun k => Oq k ∨ k = w12.heap.size) X t := (hD.below hbX).pair gX (fun e => by have := hD.lt _ e; omega) hD.size hAl hAm
    have h6X : ∀ k, k < w6.heap.size → ¬ T k → X.heap[k]? = w6.heap[k]? := fun k hk hn => (hbX.block k (Nat.lt_of_lt_of_le hk hCh.off.size)).trans (hCh.off.block k hk hn)
    have hN : Duo B N X p2 r s (s.now.map Dm.all) (mksOf s) := hf.new.keep (Nat.le_trans hCh.off.size hbX.size) fun k hk => h6X k (hf.new.lt k hk) (fun e => hf.apart k e hk)
    have hP6 := (Array.getElem?_eq_some_iff.1 hf.box).1
    have hPX := (h6X P hP6 hf.nt).trans hf.box
    have HBX : Hid (Below B W X) := HB6.out.trans (hCh.below.trans (hbX.mono hD.size))
    have HEnd : Hid (∀ w', Below X.heap.size X w' → ∃ O' s', PaAt B P O' w' s' ∧ s'.marks ≤ s.marks + 1 ∧ SStp B O w w' ∧ Grown O w w' O') := fun w' hb => by
      have hWX : W.heap.size ≤ X.heap.size := Nat.le_trans HW6s.out (Nat.le_trans hCh.off.size hbX.size)
      refine ⟨_, s, (hN.below hb).pair ((hb.block P (Array.getElem?_eq_some_iff.1 hPX).1).trans hPX) hf.nn hf.lo hf.al hf.alm, by omega, ⟨(HB.out.mono hBw).trans (HBX.out.trans (hb.mono hN.size)), ⟨Nat.le_trans HB.out.size (Nat.le_trans hWX hb.size), fun k hk hn => ?_⟩⟩, fun k hk => ?_⟩
      · have hkW : k < W.heap.size := Nat.lt_of_lt_of_le hk HB.out.size
        rw [hb.block k (Nat.lt_of_lt_of_le hkW hWX), h6X k (Nat.lt_of_lt_of_le hkW HW6s.out) (fun e => by
          rcases hf.tO k e with a | a
          · exact hn a
          · omega), HW6.out k hkW (fun e => hn (e ▸ HOP.out)), HB.out.block k hk]
      · rcases hk with e | e
        · rcases hf.nO k e with a | a
          · exact .inl a
          · exact .inr ⟨Nat.le_trans HB.out.size a, Nat.lt_of_lt_of_le (hN.lt k e) hb.size⟩
        · rw [e]; exact .inl HOP.out
    have HXq : Hid (∀ w', Below X.heap.size X w' → w'.cell? ⟨P, 1, none⟩ = some (.pointer (some ⟨r, 0, none⟩)) ∧ Below X.heap.size X w') := fun w' hb => ⟨cell_of ((hb.block P (Array.getElem?_eq_some_iff.1 hPX).1).trans hPX) 1, hb⟩
    have HTq : Hid (∀ w', Below X.heap.size X w' → Tz w' ∧ 0 < w'.heap.size) := fun w' hb => HTz.out w' (HBX.out.trans (hb.mono hN.size))
    have HLk : Hid (∀ w', Below X.heap.size X w' → Calls Tryz.prog 18 #[.pointer (some ⟨w12.heap.size, 0, none⟩)] w' fun e w2 => e = .returned (.bool true) ∧ Below w'.heap.size w' w2) := fun w' hb => like_any w' (hq.below hb) (HTq.out w' hb).1 (HTq.out w' hb).2
    obtain ⟨bb, hbb⟩ : ∃ bb, decide (s.now.map Dm.all = t.now.map Dm.all) = bb := ⟨_, rfl⟩
    have HS1 : Hid (∀ w', Below X.heap.size X w' → Calls Tryz.prog 28 #[.pointer (some ⟨p2, 0, none⟩), .pointer (some ⟨p, 0, none⟩)] w' fun e w2 => e = .returned (.bool bb) ∧ Below w'.heap.size w' w2) := fun w' hb => by
      obtain ⟨_, _, _, _, q2, _⟩ := hN.ex
      obtain ⟨_, _, _, _, q3, _⟩ := (hD.below hbX).ex
      rw [← hbb]
      exact same_stores _ p2 _ p _ _ _ _ s t w' (q2.below hb) (q3.below hb) hf.al hAl (HTq.out w' hb).1
    have HS2 : Hid (∀ w', Below X.heap.size X w' → Calls Tryz.prog 38 #[.pointer (some ⟨r, 0, none⟩), .pointer (some ⟨r2, 0, none⟩)] w' fun e w2 => e = .returned (.bool bb) ∧ Below w'.heap.size w' w2) := fun w' hb => by
      obtain ⟨_, _, _, _, _, q2, _⟩ := hN.ex
      obtain ⟨_, _, _, _, _, q3, _⟩ := (hD.below hbX).ex
      rw [← hbb]
      exact rSame_any w' (q2.below hb) (q3.below hb)
    have hb2 : (bb == bb) = true := by simp
    clear hD hAl hAm hCh hbX gX hf hq h6X hN hP6 hPX hbb
    go_wp2_with fail
    go_region_held3 (fun w' => w'.cell? ⟨P, 1, none⟩ = some (.pointer (some ⟨r, 0, none⟩)) ∧ Below X.heap.size X w')
      (first | exact HXq.out _ (Below.refl _ _).drew | exact HXq.out _ (bl_next (And.right (by assumption)) (by assumption)) | assumption)
      (first
        | (go_at_call 18; refine calls_at (HLk.out _ (And.right (by assumption))) (by with_reducible rfl) (by with_reducible rfl) ?_; rintro e w13 ⟨rfl, hb13⟩)
        | (go_at_call 28; refine calls_at (HS1.out _ (And.right (by assumption))) (by with_reducible rfl) (by with_reducible rfl) ?_; rintro e w14 ⟨rfl, hb14⟩)
        | (go_at_call 38; refine calls_at (HS2.out _ (And.right (by assumption))) (by with_reducible rfl) (by with_reducible rfl) ?_; rintro e w15 ⟨rfl, hb15⟩))
    have HB15 : Hid (Below X.heap.size X w15) := And.right (by assumption)
    go_wp2_with fail
    go_ret
    exact ⟨ret_bool (by simp), HEnd.out w15 HB15.out⟩
end Go.Proofs.YtchpapppkmnfnaaGreatDoor

namespace Go.Proofs.YtchpapppkmnfnaaGreatDoor
open Go.RowKit

/-- A call of any kind. -/
theorem plays_any {B P : Nat} {O : Nat → Prop} {s : St} (o : Cl) (w : World) (h : PaAt B P O w s) (hT : Tz w) (hs : 0 < w.heap.size) (hB : 1 ≤ B) (hm : s.marks + 1 ≤ 10000) : Calls Tryz.prog 9 #[.pointer (some ⟨P, 0, none⟩), .agg #[.int .i64 o.kind, .int .i64 o.ck, .int .i64 o.cx, .int .i64 o.cv, .int .i64 o.n]] w (PlOut B P O s w) := by
  by_cases h1 : o.kind = 1
  · rw [h1]
    refine (plays_cut o.ck o.cx o.cv o.n w h).mono fun e w' hq => ?_
    obtain ⟨q1, O', q2, q3, q4⟩ := hq
    exact ⟨q1, O', _, q2, by rw [(cut_len s o.ck o.cx o.cv).2.2]; omega, q3, q4⟩
  by_cases h2 : o.kind = 2
  · rw [h2]
    exact plays_mark o.ck o.cx o.cv o.n w h hm
  by_cases h3 : o.kind = 3
  · rw [h3]
    exact plays_back o.ck o.cx o.cv o.n w h
  by_cases h4 : o.kind = 4
  · rw [h4]
    exact plays_look o.ck o.cx o.cv o.n w h hT hs
  by_cases h5 : o.kind = 5
  · rw [h5]
    exact plays_copy o.ck o.cx o.cv o.n w h hT hs hB
  exact plays_none o.kind o.ck o.cx o.cv o.n w h h1 h2 h3 h4 h5

end Go.Proofs.YtchpapppkmnfnaaGreatDoor
