/-
  layPicks: the program's.
-/
import Derived.Test.YtkgeknlmkkoobaaOdEnts
namespace Od
def xsOf (c : Md.Cn) : List Int := if c.kind = 8 then c.xs else []
def rowsOf (c : Md.Cn) : List (List Int) := if c.kind = 8 then c.rows else []
theorem rN_len (c : Md.Cn) : rN c = (rowsOf c).length := by unfold rN rowsOf; split <;> rfl
end Od
namespace Go.Proofs.Ytkgeknlmkkoobaa
open Go.RowKit

/-- Entries in memory. -/
def EAt (w : World) (B2 : Nat) (rows : List (List Int)) (vr : Value) : Prop := (rows = [] ∧ vr = .slice none 0 0) ∨ ∃ E, vr = .slice (some ⟨E, 0, none⟩) rows.length rows.length ∧ B2 ≤ E ∧ w.rowIs E 104 (rows.length * 8) (fun i => .int .i64 (Od.ent rows i))
structure PickAt (w : World) (B2 : Nat) (c : Md.Cn) (vx vr : Value) : Prop where
  x : w.ownsRow B2 3 1 vx (Od.xsOf c).length ((Od.xsOf c).map (.int .i64))
  r : EAt w B2 (Od.rowsOf c) vr
theorem PickAt.off {S : Nat → Prop} {w w' : World} {B2 : Nat} {c : Md.Cn} {vx vr : Value} (h : PickAt w B2 c vx vr) (hS : ∀ k, S k → k < B2) (ho : Off S w w') : PickAt w' B2 c vx vr := by
  refine ⟨own_off h.x (fun g hg hs => by have := (h.x.lt g hg).1; have := hS g hs; omega) ho, ?_⟩
  rcases h.r with h | ⟨E, h1, h2, h3⟩
  · exact .inl h
  · exact .inr ⟨E, h1, h2, h3.of_block (ho.block E h3.lt (fun hs => by have := hS E hs; omega))⟩
theorem PickAt.forms {w : World} {B2 : Nat} {c : Md.Cn} {vx vr : Value} (h : PickAt w B2 c vx vr) : (∃ a n c, vx = .slice a n c) ∧ ∃ a n c, vr = .slice a n c := by
  obtain ⟨a, k, e⟩ := own_form h.x
  refine ⟨⟨_, _, _, e⟩, ?_⟩
  rcases h.r with ⟨_, h⟩ | ⟨E, h, _⟩
  · exact ⟨_, _, _, h⟩
  · exact ⟨_, _, _, h⟩
def KOk (w : World) (B2 : Nat) (vs : List Md.Vr) (cs : List Md.Cn) (k : Nat) (K : Nat → Value) : Prop :=
  (∀ j (_ : j < cs.length), j < k → K (j * 5) = .int .i64 (Od.aK vs cs j) ∧ K (j * 5 + 1) = .int .i64 0 ∧ K (j * 5 + 2) = .int .i64 ((Od.rN cs[j] : Int) - 1) ∧ PickAt w B2 cs[j] (K (j * 5 + 3)) (K (j * 5 + 4))) ∧
  ∀ j, j < cs.length → k ≤ j → K (j * 5 + 3) = .slice none 0 0 ∧ K (j * 5 + 4) = .slice none 0 0
theorem KOk.off {S : Nat → Prop} {w w' : World} {B2 : Nat} {vs : List Md.Vr} {cs : List Md.Cn} {k : Nat} {K : Nat → Value} (h : KOk w B2 vs cs k K) (hS : ∀ k, S k → k < B2) (ho : Off S w w') : KOk w' B2 vs cs k K :=
  ⟨fun j hj hk => by obtain ⟨h1, h2, h3, h4⟩ := h.1 j hj hk; exact ⟨h1, h2, h3, h4.off hS ho⟩, h.2⟩
theorem KOk.next {w : World} {B2 : Nat} {vs : List Md.Vr} {cs : List Md.Cn} {k : Nat} {K : Nat → Value} (h : KOk w B2 vs cs k K) (hk : k < cs.length) (K' : Nat → Value) (ho : ∀ i, i < k * 5 ∨ (k + 1) * 5 ≤ i → K' i = K i)
    (h0 : K' (k * 5) = .int .i64 (Od.aK vs cs k)) (h1 : K' (k * 5 + 1) = .int .i64 0) (h2 : K' (k * 5 + 2) = .int .i64 ((Od.rN cs[k] : Int) - 1)) (h3 : PickAt w B2 cs[k] (K' (k * 5 + 3)) (K' (k * 5 + 4))) : KOk w B2 vs cs (k + 1) K' := by
  refine ⟨fun j hj hjk => ?_, fun j hj hjk => ?_⟩
  · by_cases e : j = k
    · subst e; exact ⟨h0, h1, h2, h3⟩
    · rw [ho _ (by omega), ho _ (by omega), ho _ (by omega), ho _ (by omega), ho _ (by omega)]
      exact h.1 j hj (by omega)
  · rw [ho _ (by omega), ho _ (by omega)]
    exact h.2 j hj (by omega)

def put5 (f : Nat → Value) (i : Nat) (a b c d e : Value) : Nat → Value := put (put (put (put (put f i a) (i + 1) b) (i + 2) c) (i + 3) d) (i + 4) e
theorem put5_at (f : Nat → Value) (i : Nat) (a b c d e : Value) : put5 f i a b c d e i = a ∧ put5 f i a b c d e (i + 1) = b ∧ put5 f i a b c d e (i + 2) = c ∧ put5 f i a b c d e (i + 3) = d ∧ put5 f i a b c d e (i + 4) = e := by
  refine ⟨?_, ?_, ?_, ?_, ?_⟩ <;> simp [put5, put]
theorem put5_other {f : Nat → Value} {i j : Nat} {a b c d e : Value} (h : j < i ∨ i + 4 < j) : put5 f i a b c d e j = f j := by
  unfold put5
  rw [put_other (by omega), put_other (by omega), put_other (by omega), put_other (by omega), put_other (by omega)]
def Lp4 (P kb nc : Nat) (w' : World) : Prop := w'.cell? ⟨P, 3, none⟩ = some (.slice (some ⟨kb, 0, none⟩) nc nc) ∧ True
def Lp5 (P kb nc N : Nat) (vx vr : Value) (w' : World) : Prop := w'.cell? ⟨P, 3, none⟩ = some (.slice (some ⟨kb, 0, none⟩) nc nc) ∧ w'.cell? ⟨N, 7, none⟩ = some vx ∧ w'.cell? ⟨N, 9, none⟩ = some vr ∧ True
theorem Lp5.of {s : Sh} {cnt : Int} {X w' : World} {V M K : Nat → Value} {N : Nat} {a0 a1 a2 a3 a4 a5 a6 vx a8 vr : Value} (h : OrdAt s w' cnt V M K) (hn : X.heap[N]? = some (.cells #[a0, a1, a2, a3, a4, a5, a6, vx, a8, vr] 51 (0, 0))) (ho : ¬ s.own N) (hs : Off s.own X w') : Lp5 s.P s.kb s.nc N vx vr w' := by
  have hn' := (hs.block N (Array.getElem?_eq_some_iff.1 hn).1 ho).trans hn
  exact ⟨h.cells.1.2.2.2, (box10 hn').1.2.2.2.2.2.2.2.1, (box10 hn').1.2.2.2.2.2.2.2.2.2, trivial⟩
theorem OrdAt.own_lt {s : Sh} {w : World} {cnt : Int} {V M K : Nat → Value} (h : OrdAt s w cnt V M K) : ∀ k, s.own k → k < w.heap.size := by
  obtain ⟨h1, h2, h3, h4⟩ := h.lt
  rintro k (rfl | rfl | rfl | rfl) <;> assumption

set_option maxRecDepth 10000 in
set_option maxHeartbeats 4000000 in
theorem layPicks_any (s : Sh) (B : Nat) (vs : List Md.Vr) (cs : List Md.Cn) (vc : Value) (V M Kq : Nat → Value) (w : World) (h : OrdAt s w (Od.aP vs cs vs.length) V M Kq) (hK0 : ∀ j, j < cs.length → Kq (j * 5 + 3) = .slice none 0 0 ∧ Kq (j * 5 + 4) = .slice none 0 0) (ok : s.Ok B) (hB : B ≤ w.heap.size) (hg : Od.Good vs) (hgc : Od.GoodC vs.length cs) (hn : s.nc = cs.length) (w0 : World) (hC : ConsAt w0 vc cs) (hw0 : Below w0.heap.size w0 w) (hB0 : w0.heap.size ≤ B) :
    Calls Try.prog 24 #[.pointer (some ⟨s.P, 0, none⟩), vc] w fun e w' => e = .returned (.tuple #[]) ∧ ∃ K', OrdAt s w' (Od.aK vs cs cs.length) V M K' ∧ KOk w' w.heap.size vs cs cs.length K' ∧ Step s B w w' := by
  obtain ⟨ca, cp, rfl, _⟩ := hC.form
  have HG : Hid (Od.Good vs) := hg
  have HGC : Hid (Od.GoodC vs.length cs) := hgc
  have HOK : Hid (s.Ok B) := ok
  have HB : Hid (B ≤ w.heap.size) := hB
  have H0 : Hid (OrdAt s w (Od.aK vs cs 0) V M Kq) := h
  have Hn : Hid (s.nc = cs.length) := hn
  have hcl : cs.length ≤ 64 := hgc.n1
  have HC : Hid (∀ j (hj : j < cs.length), ∃ b off vt vx vb vr, ca = some ⟨b, off, none⟩ ∧ ∀ w', Below B w w' → CnAt w' cs[j] vt vx vb vr ∧ CnCells w' b (off + j * 10) cs[j] vt vx vb vr) := fun j hj => by
    obtain ⟨b, off, vt, vx, vb, vr, e, hh⟩ := cons_all hC j hj
    exact ⟨b, off, vt, vx, vb, vr, e, fun w' hb => hh w' (hw0.trans (hb.mono hB0))⟩
  have HS : Hid (∀ k, s.own k → k < w.heap.size) := h.own_lt
  have HK0 : Hid (KOk w w.heap.size vs cs 0 Kq) := ⟨fun j _ h => absurd h (Nat.not_lt_zero _), fun j hj _ => hK0 j hj⟩
  clear h ok hB hg hgc hn hC hw0 hB0 hK0
  go_enter Try.func24, Try.ntmps24
  go_wp2_with fail
  go_loopw [8] (fun iv wr => ∃ (k : Nat) (K' : Nat → Value), iv = .int .i64 (k : Int) ∧ k ≤ cs.length ∧ Hid (OrdAt s wr (Od.aK vs cs k) V M K') ∧ Hid (KOk wr w.heap.size vs cs k K') ∧ Hid (Step s B w wr)) (fun iv _ => cs.length - (intOf iv).toNat)
  case atStart => exact ⟨0, Kq, rfl, Nat.zero_le _, H0, HK0, Step.refl _ _ _⟩
  case round =>
    obtain ⟨k, K', rfl, hk, hO, hKk, hT⟩ := hrel
    clear H0 HK0
    have HBr : Hid (B ≤ wr.heap.size) := Nat.le_trans HB.out hT.out.size
    by_cases hlt : k < cs.length
    · have hkI : (k : Int) < (cs.length : Int) := by omega
      obtain ⟨b, off, vt, vx, vb, vr, rfl, hal⟩ := HC.out k hlt
      obtain ⟨hCn, d0, d1, d2, d3, d4, d5, d6, d7, d8, d9⟩ := hal wr hT.out.below
      have HAl : Hid (∀ w', Below B w w' → CnAt w' cs[k] vt vx vb vr) := fun w' hb => (hal w' hb).1
      have HFit : Hid (Od.Run.Fit ⟨Od.aK vs cs k, 0, (Od.rN cs[k] : Int) - 1⟩) := Od.pkR_fit HG.out HGC.out k hlt
      have HNx : Hid (Od.aK vs cs (k + 1) = Od.aK vs cs k + (Od.rN cs[k] : Int)) := Od.aK_next hlt
      have HKn : Hid (∀ (w' : World) (K2 : Nat → Value), KOk w' w.heap.size vs cs k K' → (∀ i, i < k * 5 ∨ (k + 1) * 5 ≤ i → K2 i = K' i) → K2 (k * 5) = .int .i64 (Od.aK vs cs k) → K2 (k * 5 + 1) = .int .i64 0 → K2 (k * 5 + 2) = .int .i64 ((Od.rN cs[k] : Int) - 1) → PickAt w' w.heap.size cs[k] (K2 (k * 5 + 3)) (K2 (k * 5 + 4)) → KOk w' w.heap.size vs cs (k + 1) K2) := fun w' K2 h1 h2 h3 h4 h5 h6 => h1.next hlt K2 h2 h3 h4 h5 h6
      have HGx : Hid (cs[k].kind = 8 → cs[k].xs.length ≤ 8 ∧ ∀ r ∈ cs[k].rows, r.length = cs[k].xs.length) := HGC.out.t k hlt
      have HGr : Hid (cs[k].rows.length ≤ 1000000) := HGC.out.r k hlt
      have HKz : Hid (K' (k * 5 + 3) = .slice none 0 0 ∧ K' (k * 5 + 4) = .slice none 0 0) := hKk.out.2 k hlt (Nat.le_refl _)
      clear hal
      generalize cs[k] = c at *
      generalize Od.aK vs cs k = cnt at *
      obtain ⟨xa, xc, rfl, hxm⟩ := hCn.x.form
      obtain ⟨ta, tc, rfl, _⟩ := hCn.t.form
      obtain ⟨ba, bc, rfl, _⟩ := hCn.b.form
      obtain ⟨ra, rc, rfl, _⟩ := hCn.r.form
      obtain ⟨X, hX⟩ : ∃ X, wr.alloc (.cells #[.int .i64 c.kind, .int .i64 c.op, .slice ta c.terms.length tc, .int .i64 c.k, .int .i64 c.v, .int .i64 c.x, .int .i64 c.y, .slice xa c.xs.length xc, .slice ba c.table.length bc, .slice ra c.rows.length rc] 51) = X := ⟨_, rfl⟩
      have hbX : Below wr.heap.size wr X := by rw [← hX]; exact (Below.refl _ _).alloc (Nat.le_refl _) _
      have hNX : X.heap[wr.heap.size]? = some (.cells #[.int .i64 c.kind, .int .i64 c.op, .slice ta c.terms.length tc, .int .i64 c.k, .int .i64 c.v, .int .i64 c.x, .int .i64 c.y, .slice xa c.xs.length xc, .slice ba c.table.length bc, .slice ra c.rows.length rc] 51) := by rw [← hX]; exact heap_alloc_new wr _
      have HOX : Hid (OrdAt s X cnt V M K') := hO.out.next hbX
      have HTX : Hid (Step s B w X) := hT.out.new hbX HB.out
      have HNX : Hid (X.heap[wr.heap.size]? = some (.cells #[.int .i64 c.kind, .int .i64 c.op, .slice ta c.terms.length tc, .int .i64 c.k, .int .i64 c.v, .int .i64 c.x, .int .i64 c.y, .slice xa c.xs.length xc, .slice ba c.table.length bc, .slice ra c.rows.length rc] 51)) := hNX
      have HKX : Hid (KOk X w.heap.size vs cs k K') := hKk.out.off HS.out (Off.of_below hbX)
      have HBX : Hid (B ≤ X.heap.size) := Nat.le_trans HBr.out hbX.size
      have HwX : Hid (w.heap.size ≤ X.heap.size) := HTX.out.size
      have Hno : Hid (¬ s.own wr.heap.size) := fun h => by have := hO.out.own_lt _ h; omega
      obtain ⟨⟨p0, p1, p2, p3, p4, p5, p6, p7, p8, p9⟩, _⟩ := box10 hNX
      have hkn2 : (k : Int) < (s.nc : Int) := by have := Hn.out; omega
      clear hbX hNX hCn
      by_cases h8 : c.kind = 8
      · have h8B : (c.kind != 8) = false := by simp [h8]
        have HrN : Hid (Od.rN c = c.rows.length) := by show _ = _; simp [Od.rN, h8]
        have Hxs : Hid (Od.xsOf c = c.xs) := by show _ = _; simp [Od.xsOf, h8]
        have Hrs : Hid (Od.rowsOf c = c.rows) := by show _ = _; simp [Od.rowsOf, h8]
        have Hx8 : Hid (c.xs.length ≤ 8 ∧ ∀ r ∈ c.rows, r.length = c.xs.length) := HGx.out h8
        have hwr : IntKind.i64.wrap ((c.rows.length : Int) - 1) = (c.rows.length : Int) - 1 := by have := HGr.out; exact wrap_ok (by omega) (by omega)
        rw [HrN.out] at HFit HNx HKn
        clear h8 HGx
        go_wp2_with fail
        clear p0 p1 p2 p3 p4 p5 p6 p7 p8 p9 d0 d1 d2 d3 d4 d5 d6 d7 d8 d9
        refine wp_region_T (fun _ => True) (Lp5 s.P s.kb s.nc wr.heap.size (.slice xa c.xs.length xc) (.slice ra c.rows.length rc)) [19] (by kernel_rfl) ⟨trivial, Lp5.of (HOX.out.next (Below.refl _ _).drew) HNX.out Hno.out (Off.of_below (Below.refl _ _).drew)⟩ (fun hHeld => ?_)
        unfold Lp5 at hHeld ⊢
        refine wpAnyT_takeB (i := 0) (oi := ⟨some 25, .move (.tmp 0), _, _, _, _⟩) (v := ?vR5c1x0) rfl (by kernel_rfl) (by kernel_rfl) (by kernel_rfl) (by kernel_rfl) (fun _ _ _ h => h) (Or.inl ⟨by rfl, ?hyR5c1x0⟩) (by assumption) ?restR5c1x0
        case hyR5c1x0 => (intro w hSw; (try dsimp only at hSw); go_simp; try (with_reducible rfl))
        try simp only [Act.put, List.setIfInBounds_toArray, List.set_cons_zero, List.set_cons_succ]
        refine wpAnyT_takeB (i := 1) (oi := ⟨some 26, .nilCheck (.tmp 25), _, _, _, _⟩) (v := ?vR5c1x1) rfl (by kernel_rfl) (by kernel_rfl) (by kernel_rfl) (by kernel_rfl) (fun _ _ _ h => h) (Or.inl ⟨by rfl, ?hyR5c1x1⟩) (by assumption) ?restR5c1x1
        case hyR5c1x1 => (intro w hSw; (try dsimp only at hSw); go_simp; try (with_reducible rfl))
        try simp only [Act.put, List.setIfInBounds_toArray, List.set_cons_zero, List.set_cons_succ]
        refine wpAnyT_takeB (i := 2) (oi := ⟨some 27, .fieldAddr 67 (.tmp 26) 3, _, _, _, _⟩) (v := ?vR5c1x2) rfl (by kernel_rfl) (by kernel_rfl) (by kernel_rfl) (by kernel_rfl) (fun _ _ _ h => h) (Or.inl ⟨by rfl, ?hyR5c1x2⟩) (by assumption) ?restR5c1x2
        case hyR5c1x2 => (intro w hSw; (try dsimp only at hSw); go_simp; try (with_reducible rfl))
        try simp only [Act.put, List.setIfInBounds_toArray, List.set_cons_zero, List.set_cons_succ]
        refine wpAnyT_take (i := 3) (oi := ⟨some 28, .load 65 (.tmp 27), _, _, _, _⟩) (v := ?vR5c1x3) rfl (by kernel_rfl) (by kernel_rfl) (by kernel_rfl) (by kernel_rfl) (by kernel_rfl) (fun _ _ _ h => h) (Or.inl ⟨by rfl, ?hyR5c1x3⟩) (by assumption) ?restR5c1x3
        case hyR5c1x3 => (intro w hSw; (try dsimp only at hSw); go_simp; try (with_reducible rfl))
        try simp only [Act.put, List.setIfInBounds_toArray, List.set_cons_zero, List.set_cons_succ]
        refine wpAnyT_takeB (i := 4) (oi := ⟨some 29, .move (.tmp 4), _, _, _, _⟩) (v := ?vR5c1x4) rfl (by kernel_rfl) (by kernel_rfl) (by kernel_rfl) (by kernel_rfl) (fun _ _ _ h => h) (Or.inl ⟨by rfl, ?hyR5c1x4⟩) (by assumption) ?restR5c1x4
        case hyR5c1x4 => (intro w hSw; (try dsimp only at hSw); go_simp; try (with_reducible rfl))
        try simp only [Act.put, List.setIfInBounds_toArray, List.set_cons_zero, List.set_cons_succ]
        refine wpAnyT_takeB (i := 5) (oi := ⟨some 30, .move (.tmp 0), _, _, _, _⟩) (v := ?vR5c1x5) rfl (by kernel_rfl) (by kernel_rfl) (by kernel_rfl) (by kernel_rfl) (fun _ _ _ h => h) (Or.inl ⟨by rfl, ?hyR5c1x5⟩) (by assumption) ?restR5c1x5
        case hyR5c1x5 => (intro w hSw; (try dsimp only at hSw); go_simp; try (with_reducible rfl))
        try simp only [Act.put, List.setIfInBounds_toArray, List.set_cons_zero, List.set_cons_succ]
        refine wpAnyT_takeB (i := 6) (oi := ⟨some 31, .fieldAddr 51 (.tmp 5) 9, _, _, _, _⟩) (v := ?vR5c1x6) rfl (by kernel_rfl) (by kernel_rfl) (by kernel_rfl) (by kernel_rfl) (fun _ _ _ h => h) (Or.inl ⟨by rfl, ?hyR5c1x6⟩) (by assumption) ?restR5c1x6
        case hyR5c1x6 => (intro w hSw; (try dsimp only at hSw); go_simp; try (with_reducible rfl))
        try simp only [Act.put, List.setIfInBounds_toArray, List.set_cons_zero, List.set_cons_succ]
        refine wpAnyT_take (i := 7) (oi := ⟨some 32, .load 49 (.tmp 31), _, _, _, _⟩) (v := ?vR5c1x7) rfl (by kernel_rfl) (by kernel_rfl) (by kernel_rfl) (by kernel_rfl) (by kernel_rfl) (fun _ _ _ h => h) (Or.inl ⟨by rfl, ?hyR5c1x7⟩) (by assumption) ?restR5c1x7
        case hyR5c1x7 => (intro w hSw; (try dsimp only at hSw); go_simp; try (with_reducible rfl))
        try simp only [Act.put, List.setIfInBounds_toArray, List.set_cons_zero, List.set_cons_succ]
        refine wpAnyT_takeB (i := 8) (oi := ⟨some 33, .call { callee := .builtin .len, args := #[(.tmp 32)], argTypes := #[49] }, _, _, _, _⟩) (v := ?vR5c1x8) rfl (by kernel_rfl) (by kernel_rfl) (by kernel_rfl) (by kernel_rfl) (fun _ _ _ h => h) (Or.inl ⟨by rfl, ?hyR5c1x8⟩) (by assumption) ?restR5c1x8
        case hyR5c1x8 => (intro w hSw; (try dsimp only at hSw); go_simp; try (with_reducible rfl))
        try simp only [Act.put, List.setIfInBounds_toArray, List.set_cons_zero, List.set_cons_succ]
        refine wpAnyT_takeB (i := 9) (oi := ⟨some 34, .binOp .sub 3 (.tmp 33) ((.const (.int .i64 1))) 3, _, _, _, _⟩) (v := ?vR5c1x9) rfl (by kernel_rfl) (by kernel_rfl) (by kernel_rfl) (by kernel_rfl) (fun _ _ _ h => h) (Or.inl ⟨by rfl, ?hyR5c1x9⟩) (by assumption) ?restR5c1x9
        case hyR5c1x9 => (intro w hSw; (try dsimp only at hSw); go_simp; try (with_reducible rfl))
        try simp only [Act.put, List.setIfInBounds_toArray, List.set_cons_zero, List.set_cons_succ]
        refine wpAnyT_takeB (i := 11) (oi := ⟨some 36, .fieldAddr 51 (.tmp 5) 7, _, _, _, _⟩) (v := ?vR5c1x11) rfl (by kernel_rfl) (by kernel_rfl) (by kernel_rfl) (by kernel_rfl) (fun _ _ _ h => h) (Or.inl ⟨by rfl, ?hyR5c1x11⟩) (by assumption) ?restR5c1x11
        case hyR5c1x11 => (intro w hSw; (try dsimp only at hSw); go_simp; try (with_reducible rfl))
        try simp only [Act.put, List.setIfInBounds_toArray, List.set_cons_zero, List.set_cons_succ]
        refine wpAnyT_take (i := 12) (oi := ⟨some 37, .load 27 (.tmp 36), _, _, _, _⟩) (v := ?vR5c1x12) rfl (by kernel_rfl) (by kernel_rfl) (by kernel_rfl) (by kernel_rfl) (by kernel_rfl) (fun _ _ _ h => h) (Or.inl ⟨by rfl, ?hyR5c1x12⟩) (by assumption) ?restR5c1x12
        case hyR5c1x12 => (intro w hSw; (try dsimp only at hSw); go_simp; try (with_reducible rfl))
        try simp only [Act.put, List.setIfInBounds_toArray, List.set_cons_zero, List.set_cons_succ]
        refine wpAnyT_takeB (i := 14) (oi := ⟨some 39, .fieldAddr 51 (.tmp 5) 9, _, _, _, _⟩) (v := ?vR5c1x14) rfl (by kernel_rfl) (by kernel_rfl) (by kernel_rfl) (by kernel_rfl) (fun _ _ _ h => h) (Or.inl ⟨by rfl, ?hyR5c1x14⟩) (by assumption) ?restR5c1x14
        case hyR5c1x14 => (intro w hSw; (try dsimp only at hSw); go_simp; try (with_reducible rfl))
        try simp only [Act.put, List.setIfInBounds_toArray, List.set_cons_zero, List.set_cons_succ]
        refine wpAnyT_take (i := 15) (oi := ⟨some 40, .load 49 (.tmp 39), _, _, _, _⟩) (v := ?vR5c1x15) rfl (by kernel_rfl) (by kernel_rfl) (by kernel_rfl) (by kernel_rfl) (by kernel_rfl) (fun _ _ _ h => h) (Or.inl ⟨by rfl, ?hyR5c1x15⟩) (by assumption) ?restR5c1x15
        case hyR5c1x15 => (intro w hSw; (try dsimp only at hSw); go_simp; try (with_reducible rfl))
        try simp only [Act.put, List.setIfInBounds_toArray, List.set_cons_zero, List.set_cons_succ]
        refine wpAnyT_one (i := 10) (o := ⟨some 35, .call { callee := .value (.func 40), args := #[(.tmp 30), (.const (.int .i64 0)), (.tmp 34)], argTypes := #[33, 3, 3] }, _, _, _, _⟩) (by kernel_rfl) rfl (fun K hK => ?_)
        go_simp
        refine calls_at (next_any s B cnt 0 ((c.rows.length : Int) - 1) V M K' _ (HOX.out.next (Below.refl _ _).drew) HOK.out HBX.out HFit.out) (by with_reducible rfl) (by with_reducible rfl) ?_
        rintro e w2 ⟨rfl, ho2, hs2⟩
        go_wp2_with fail
        have hs2' := (Step.of_below (s := s) (w := X) (Below.refl _ _).drew HBX.out).trans hs2
        have HO2 : Hid (OrdAt s w2 (cnt + ((c.rows.length : Int) - 1 - 0 + 1)) V M K') := ho2
        have HS2 : Hid (Step s B X w2) := hs2'
        have hHw : True ∧ Lp5 s.P s.kb s.nc wr.heap.size (.slice xa c.xs.length xc) (.slice ra c.rows.length rc) w2 := ⟨trivial, Lp5.of ho2 HNX.out Hno.out hs2'.off⟩
        unfold Lp5 at hHw
        refine hK.out _ _ ⟨trivial, fun _ => hHw.2⟩ ?_
        clear hK K ho2 hs2 hs2'
        refine wpAnyT_one (i := 13) (o := ⟨some 38, .call { callee := .value (.func 42), args := #[(.tmp 37)], argTypes := #[27] }, _, _, _, _⟩) (by kernel_rfl) rfl (fun K hK => ?_)
        go_simp
        refine calls_at (clone_any _ c.xs _ (HAl.out _ (HTX.out.trans HS2.out).below).x (by have := Hx8.out.1; omega)) (by with_reducible rfl) (by with_reducible rfl) ?_
        rintro e w3 ⟨v3, rfl, ho3, hb3⟩
        obtain ⟨a3, c3, rfl⟩ := own_form ho3
        go_wp2_with fail
        have HO3 : Hid (OrdAt s w3 (cnt + ((c.rows.length : Int) - 1 - 0 + 1)) V M K') := HO2.out.next hb3
        have HS3 : Hid (Step s B X w3) := HS2.out.new hb3 HBX.out
        have HX3 : Hid (w3.ownsRow w.heap.size 3 1 (.slice a3 c.xs.length c3) c.xs.length (c.xs.map (.int .i64))) := own_lower ho3 (Nat.le_trans HwX.out HS2.out.size)
        have hHw3 : True ∧ Lp5 s.P s.kb s.nc wr.heap.size (.slice xa c.xs.length xc) (.slice ra c.rows.length rc) w3 := ⟨trivial, Lp5.of HO3.out HNX.out Hno.out HS3.out.off⟩
        unfold Lp5 at hHw3
        refine hK.out _ _ ⟨trivial, fun _ => hHw3.2⟩ ?_
        clear hK K ho3 hb3 hHw HO2 HS2
        refine wpAnyT_one (i := 16) (o := ⟨some 41, .call { callee := .value (.func 43), args := #[(.tmp 40)], argTypes := #[49] }, _, _, _, _⟩) (by kernel_rfl) rfl (fun K hK => ?_)
        go_simp
        refine calls_at (entries_any _ c.rows _ (HAl.out _ (HTX.out.trans HS3.out).below).r HGr.out (fun i hi => by have := Hx8.out.2 _ (List.getElem_mem hi); have := Hx8.out.1; omega)) (by with_reducible rfl) (by with_reducible rfl) ?_
        rintro e w4 ⟨E, rfl, hE, hr4, hb4⟩
        go_wp2_with fail
        have HO4 : Hid (OrdAt s w4 (cnt + ((c.rows.length : Int) - 1 - 0 + 1)) V M K') := HO3.out.next hb4
        have HS4 : Hid (Step s B X w4) := HS3.out.new hb4 HBX.out
        have HP4 : Hid (PickAt w4 w.heap.size c (.slice a3 c.xs.length c3) (.slice (some ⟨E, 0, none⟩) c.rows.length c.rows.length)) := by
          refine ⟨by rw [Hxs.out]; exact own_off (S := fun _ => False) HX3.out (fun _ _ h => h) (Off.of_below hb4), .inr ⟨E, by rw [Hrs.out], Nat.le_trans (Nat.le_trans HwX.out HS3.out.size) hE, by rw [Hrs.out]; exact hr4⟩⟩
        have hHw4 : True ∧ Lp5 s.P s.kb s.nc wr.heap.size (.slice xa c.xs.length xc) (.slice ra c.rows.length rc) w4 := ⟨trivial, Lp5.of HO4.out HNX.out Hno.out HS4.out.off⟩
        unfold Lp5 at hHw4
        refine hK.out _ _ ⟨trivial, fun _ => hHw4.2⟩ ?_
        clear hK K hr4 hb4 hE hHw3 HO3 HS3 HX3
        have kz := HO4.out.k.frozen
        have kz0 := kz (k * 5)
        have kz1 := kz (k * 5 + 1)
        have kz2 := kz (k * 5 + 2)
        have kz3 := kz (k * 5 + 3)
        have kz4 := kz (k * 5 + 4)
        have kc0 := HO4.out.k.cell (i := k * 5) (by have := Hn.out; omega)
        have kc1 := HO4.out.k.cell (i := k * 5 + 1) (by have := Hn.out; omega)
        have kc2 := HO4.out.k.cell (i := k * 5 + 2) (by have := Hn.out; omega)
        have kc3 := HO4.out.k.cell (i := k * 5 + 3) (by have := Hn.out; omega)
        have kc4 := HO4.out.k.cell (i := k * 5 + 4) (by have := Hn.out; omega)
        clear kz
        refine wpAnyT_takeB (i := 17) (oi := ⟨some 42, .build 86 #[(0, (.tmp 35)), (1, (.tmp 38)), (2, (.tmp 41))], _, _, _, _⟩) (v := ?vR5c1x17) rfl (by kernel_rfl) (by kernel_rfl) (by kernel_rfl) (by kernel_rfl) (fun _ _ _ h => h) (Or.inl ⟨by rfl, ?hyR5c1x17⟩) (by assumption) ?restR5c1x17
        case hyR5c1x17 => (intro w hSw; (try dsimp only at hSw); go_simp; try (with_reducible rfl))
        try simp only [Act.put, List.setIfInBounds_toArray, List.set_cons_zero, List.set_cons_succ]
        refine wpAnyT_takeB (i := 18) (oi := ⟨some 43, .indexAddr 65 (.tmp 28) (.tmp 29), _, _, _, _⟩) (v := ?vR5c1x18) rfl (by kernel_rfl) (by kernel_rfl) (by kernel_rfl) (by kernel_rfl) (fun _ _ _ h => h) (Or.inl ⟨by rfl, ?hyR5c1x18⟩) (by assumption) ?restR5c1x18
        case hyR5c1x18 => (intro w hSw; (try dsimp only at hSw); go_simp; try (with_reducible rfl))
        try simp only [Act.put, List.setIfInBounds_toArray, List.set_cons_zero, List.set_cons_succ]
        refine wpAnyT_late (i := 19) (o := ⟨none, .store 86 (.tmp 43) (.tmp 42), _, _, _, _⟩) (by kernel_rfl) rfl (by kernel_rfl) (fun K hK => ?_)
        go_simp
        refine hK.out _ _ ?shR5c1x19 ?restR5c1x19
        case shR5c1x19 => ((try dsimp only); all_goals trivial)
        clear hK K
        try simp only [Act.put, List.setIfInBounds_toArray, List.set_cons_zero, List.set_cons_succ]
        refine wpAnyT_done (by kernel_rfl) ?_ _
        obtain ⟨Z, hZ⟩ : ∃ Z, ((((w4.setCell ⟨s.kb, k * 5, none⟩ (.int .i64 cnt)).setCell ⟨s.kb, k * 5 + 1, none⟩ (.int .i64 0)).setCell ⟨s.kb, k * 5 + 2, none⟩ (.int .i64 ((c.rows.length : Int) - 1))).setCell ⟨s.kb, k * 5 + 3, none⟩ (.slice a3 c.xs.length c3)).setCell ⟨s.kb, k * 5 + 4, none⟩ (.slice (some ⟨E, 0, none⟩) c.rows.length c.rows.length) = Z := ⟨_, rfl⟩
        have hs4Z : Step s B w4 Z := by
          rw [← hZ]
          exact ((((Step.set _ (.inr (.inr (.inr rfl))) HOK.out.bk).trans (Step.set _ (.inr (.inr (.inr rfl))) HOK.out.bk)).trans (Step.set _ (.inr (.inr (.inr rfl))) HOK.out.bk)).trans (Step.set _ (.inr (.inr (.inr rfl))) HOK.out.bk)).trans (Step.set _ (.inr (.inr (.inr rfl))) HOK.out.bk)
        have HOZ : Hid (OrdAt s Z (Od.aK vs cs (k + 1)) V M (put5 K' (k * 5) (.int .i64 cnt) (.int .i64 0) (.int .i64 ((c.rows.length : Int) - 1)) (.slice a3 c.xs.length c3) (.slice (some ⟨E, 0, none⟩) c.rows.length c.rows.length))) := by
          show OrdAt _ _ _ _ _ _
          rw [← hZ, HNx.out, show cnt + (c.rows.length : Int) = cnt + ((c.rows.length : Int) - 1 - 0 + 1) by omega]
          exact ((((HO4.out.setK HOK.out _ _).setK HOK.out _ _).setK HOK.out _ _).setK HOK.out _ _).setK HOK.out _ _
        have HTZ : Hid (Step s B w Z) := (HTX.out.trans HS4.out).trans hs4Z
        obtain ⟨u0, u1, u2, u3, u4⟩ := put5_at K' (k * 5) (.int .i64 cnt) (.int .i64 0) (.int .i64 ((c.rows.length : Int) - 1)) (.slice a3 c.xs.length c3) (.slice (some ⟨E, 0, none⟩) c.rows.length c.rows.length)
        have HKZ : Hid (KOk Z w.heap.size vs cs (k + 1) (put5 K' (k * 5) (.int .i64 cnt) (.int .i64 0) (.int .i64 ((c.rows.length : Int) - 1)) (.slice a3 c.xs.length c3) (.slice (some ⟨E, 0, none⟩) c.rows.length c.rows.length))) :=
          HKn.out Z _ (HKX.out.off HS.out (HS4.out.trans hs4Z).off) (fun i hi => put5_other (by omega)) u0 u1 u2 (by rw [u3, u4]; exact HP4.out.off HS.out hs4Z.off)
        rw [hZ]
        clear hZ hs4Z u0 u1 u2 u3 u4 kz0 kz1 kz2 kz3 kz4 kc0 kc1 kc2 kc3 kc4 hHw4 HO4 HS4 HP4
        go_wp2_with fail
        go_roundw
        case rel => exact ⟨k + 1, _, by go_num, by omega, HOZ, HKZ, HTZ⟩
        case measure => simp [intOf]; omega
      · have h8B : (c.kind != 8) = true := by simpa using h8
        have HrN : Hid (Od.rN c = 0) := by show _ = _; simp [Od.rN, h8]
        have Hxs : Hid (Od.xsOf c = []) := by show _ = _; simp [Od.xsOf, h8]
        have Hrs : Hid (Od.rowsOf c = []) := by show _ = _; simp [Od.rowsOf, h8]
        rw [HrN.out] at HFit HNx HKn
        have HFit2 : Hid (Od.Run.Fit ⟨cnt, 0, -1⟩) := HFit.out
        clear h8 HGx
        go_wp2_with fail
        clear p0 p1 p2 p3 p4 p5 p6 p7 p8 p9 d0 d1 d2 d3 d4 d5 d6 d7 d8 d9
        refine wp_region_T (fun _ => True) (Lp4 s.P s.kb s.nc) [9] (by kernel_rfl) ⟨trivial, (HOX.out.next (Below.refl _ _).drew).cells.1.2.2.2, trivial⟩ (fun hHeld => ?_)
        unfold Lp4 at hHeld ⊢
        refine wpAnyT_takeB (i := 0) (oi := ⟨some 16, .move (.tmp 0), _, _, _, _⟩) (v := ?vR4c2x0) rfl (by kernel_rfl) (by kernel_rfl) (by kernel_rfl) (by kernel_rfl) (fun _ _ _ h => h) (Or.inl ⟨by rfl, ?hyR4c2x0⟩) (by assumption) ?restR4c2x0
        case hyR4c2x0 => (intro w hSw; (try dsimp only at hSw); go_simp; try (with_reducible rfl))
        try simp only [Act.put, List.setIfInBounds_toArray, List.set_cons_zero, List.set_cons_succ]
        refine wpAnyT_takeB (i := 1) (oi := ⟨some 17, .nilCheck (.tmp 16), _, _, _, _⟩) (v := ?vR4c2x1) rfl (by kernel_rfl) (by kernel_rfl) (by kernel_rfl) (by kernel_rfl) (fun _ _ _ h => h) (Or.inl ⟨by rfl, ?hyR4c2x1⟩) (by assumption) ?restR4c2x1
        case hyR4c2x1 => (intro w hSw; (try dsimp only at hSw); go_simp; try (with_reducible rfl))
        try simp only [Act.put, List.setIfInBounds_toArray, List.set_cons_zero, List.set_cons_succ]
        refine wpAnyT_takeB (i := 2) (oi := ⟨some 18, .fieldAddr 67 (.tmp 17) 3, _, _, _, _⟩) (v := ?vR4c2x2) rfl (by kernel_rfl) (by kernel_rfl) (by kernel_rfl) (by kernel_rfl) (fun _ _ _ h => h) (Or.inl ⟨by rfl, ?hyR4c2x2⟩) (by assumption) ?restR4c2x2
        case hyR4c2x2 => (intro w hSw; (try dsimp only at hSw); go_simp; try (with_reducible rfl))
        try simp only [Act.put, List.setIfInBounds_toArray, List.set_cons_zero, List.set_cons_succ]
        refine wpAnyT_take (i := 3) (oi := ⟨some 19, .load 65 (.tmp 18), _, _, _, _⟩) (v := ?vR4c2x3) rfl (by kernel_rfl) (by kernel_rfl) (by kernel_rfl) (by kernel_rfl) (by kernel_rfl) (fun _ _ _ h => h) (Or.inl ⟨by rfl, ?hyR4c2x3⟩) (by assumption) ?restR4c2x3
        case hyR4c2x3 => (intro w hSw; (try dsimp only at hSw); go_simp; try (with_reducible rfl))
        try simp only [Act.put, List.setIfInBounds_toArray, List.set_cons_zero, List.set_cons_succ]
        refine wpAnyT_takeB (i := 4) (oi := ⟨some 20, .move (.tmp 4), _, _, _, _⟩) (v := ?vR4c2x4) rfl (by kernel_rfl) (by kernel_rfl) (by kernel_rfl) (by kernel_rfl) (fun _ _ _ h => h) (Or.inl ⟨by rfl, ?hyR4c2x4⟩) (by assumption) ?restR4c2x4
        case hyR4c2x4 => (intro w hSw; (try dsimp only at hSw); go_simp; try (with_reducible rfl))
        try simp only [Act.put, List.setIfInBounds_toArray, List.set_cons_zero, List.set_cons_succ]
        refine wpAnyT_takeB (i := 5) (oi := ⟨some 21, .move (.tmp 0), _, _, _, _⟩) (v := ?vR4c2x5) rfl (by kernel_rfl) (by kernel_rfl) (by kernel_rfl) (by kernel_rfl) (fun _ _ _ h => h) (Or.inl ⟨by rfl, ?hyR4c2x5⟩) (by assumption) ?restR4c2x5
        case hyR4c2x5 => (intro w hSw; (try dsimp only at hSw); go_simp; try (with_reducible rfl))
        try simp only [Act.put, List.setIfInBounds_toArray, List.set_cons_zero, List.set_cons_succ]
        refine wpAnyT_one (i := 6) (o := ⟨some 22, .call { callee := .value (.func 40), args := #[(.tmp 21), (.const (.int .i64 0)), (.const (.int .i64 (-1)))], argTypes := #[33, 3, 3] }, _, _, _, _⟩) (by kernel_rfl) rfl (fun K hK => ?_)
        go_simp
        refine calls_at (next_any s B cnt 0 (-1) V M K' _ (HOX.out.next (Below.refl _ _).drew) HOK.out HBX.out HFit2.out) (by with_reducible rfl) (by with_reducible rfl) ?_
        rintro e w2 ⟨rfl, ho2, hs2⟩
        go_wp2_with fail
        have hs2' := (Step.of_below (s := s) (w := X) (Below.refl _ _).drew HBX.out).trans hs2
        have HO2 : Hid (OrdAt s w2 (cnt + (-1 - 0 + 1)) V M K') := ho2
        have HS2 : Hid (Step s B X w2) := hs2'
        have hHw : True ∧ Lp4 s.P s.kb s.nc w2 := ⟨trivial, ho2.cells.1.2.2.2, trivial⟩
        unfold Lp4 at hHw
        refine hK.out _ _ ⟨trivial, fun _ => hHw.2⟩ ?_
        clear hK K ho2 hs2 hs2'
        have kz := HO2.out.k.frozen
        have kz0 := kz (k * 5)
        have kz1 := kz (k * 5 + 1)
        have kz2 := kz (k * 5 + 2)
        have kc0 := HO2.out.k.cell (i := k * 5) (by have := Hn.out; omega)
        have kc1 := HO2.out.k.cell (i := k * 5 + 1) (by have := Hn.out; omega)
        have kc2 := HO2.out.k.cell (i := k * 5 + 2) (by have := Hn.out; omega)
        clear kz
        refine wpAnyT_takeB (i := 7) (oi := ⟨some 23, .indexAddr 65 (.tmp 19) (.tmp 20), _, _, _, _⟩) (v := ?vR4c2x7) rfl (by kernel_rfl) (by kernel_rfl) (by kernel_rfl) (by kernel_rfl) (fun _ _ _ h => h) (Or.inl ⟨by rfl, ?hyR4c2x7⟩) (by assumption) ?restR4c2x7
        case hyR4c2x7 => (intro w hSw; (try dsimp only at hSw); go_simp; try (with_reducible rfl))
        try simp only [Act.put, List.setIfInBounds_toArray, List.set_cons_zero, List.set_cons_succ]
        refine wpAnyT_takeB (i := 8) (oi := ⟨some 24, .fieldAddr 86 (.tmp 23) 0, _, _, _, _⟩) (v := ?vR4c2x8) rfl (by kernel_rfl) (by kernel_rfl) (by kernel_rfl) (by kernel_rfl) (fun _ _ _ h => h) (Or.inl ⟨by rfl, ?hyR4c2x8⟩) (by assumption) ?restR4c2x8
        case hyR4c2x8 => (intro w hSw; (try dsimp only at hSw); go_simp; try (with_reducible rfl))
        try simp only [Act.put, List.setIfInBounds_toArray, List.set_cons_zero, List.set_cons_succ]
        refine wpAnyT_late (i := 9) (o := ⟨none, .store 72 (.tmp 24) (.tmp 22), _, _, _, _⟩) (by kernel_rfl) rfl (by kernel_rfl) (fun K hK => ?_)
        go_simp
        refine hK.out _ _ ?shR4c2x9 ?restR4c2x9
        case shR4c2x9 => ((try dsimp only); all_goals trivial)
        clear hK K
        try simp only [Act.put, List.setIfInBounds_toArray, List.set_cons_zero, List.set_cons_succ]
        refine wpAnyT_done (by kernel_rfl) ?_ _
        obtain ⟨Z, hZ⟩ : ∃ Z, ((w2.setCell ⟨s.kb, k * 5, none⟩ (.int .i64 cnt)).setCell ⟨s.kb, k * 5 + 1, none⟩ (.int .i64 0)).setCell ⟨s.kb, k * 5 + 2, none⟩ (.int .i64 (-1)) = Z := ⟨_, rfl⟩
        have hs4Z : Step s B w2 Z := by
          rw [← hZ]
          exact ((Step.set _ (.inr (.inr (.inr rfl))) HOK.out.bk).trans (Step.set _ (.inr (.inr (.inr rfl))) HOK.out.bk)).trans (Step.set _ (.inr (.inr (.inr rfl))) HOK.out.bk)
        have HOZ : Hid (OrdAt s Z (Od.aK vs cs (k + 1)) V M (put3 K' (k * 5) (.int .i64 cnt) (.int .i64 0) (.int .i64 (-1)))) := by
          show OrdAt _ _ _ _ _ _
          rw [← hZ, HNx.out, show cnt + ((0 : Nat) : Int) = cnt + (-1 - 0 + 1) by omega]
          exact ((HO2.out.setK HOK.out _ _).setK HOK.out _ _).setK HOK.out _ _
        have HTZ : Hid (Step s B w Z) := (HTX.out.trans HS2.out).trans hs4Z
        obtain ⟨u0, u1, u2⟩ := put3_at K' (k * 5) (.int .i64 cnt) (.int .i64 0) (.int .i64 (-1))
        have HKZ : Hid (KOk Z w.heap.size vs cs (k + 1) (put3 K' (k * 5) (.int .i64 cnt) (.int .i64 0) (.int .i64 (-1)))) :=
          HKn.out Z _ (HKX.out.off HS.out (HS2.out.trans hs4Z).off) (fun i hi => put3_other (by omega)) u0 u1 (by rw [u2]; rfl) (by
            rw [put3_other (by omega), put3_other (by omega), HKz.out.1, HKz.out.2]
            exact ⟨by rw [Hxs.out]; exact World.ownsRow_nil _ _ _ _, .inl ⟨Hrs.out, rfl⟩⟩)
        rw [hZ]
        clear hZ hs4Z u0 u1 u2 kz0 kz1 kz2 kc0 kc1 kc2 hHw HO2 HS2
        go_wp2_with fail
        go_roundw
        case rel => exact ⟨k + 1, _, by go_num, by omega, HOZ, HKZ, HTZ⟩
        case measure => simp [intOf]; omega
    · have hkI : ¬ (k : Int) < (cs.length : Int) := by omega
      obtain rfl : k = cs.length := by omega
      go_wp2_with fail
      go_end0
      exact ⟨rfl, _, hO.out, hKk.out, hT.out⟩
end Go.Proofs.Ytkgeknlmkkoobaa
