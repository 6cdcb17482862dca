/-
  Put together: OdVal, OdVals.
-/
import Derived.Test.YtkgeknlmkkoobaaOdAsk
namespace Od
/-- How many of the places from A on are true. -/
def cntB (g : Nat → Bool) (A : Nat) : Nat → Nat
  | 0 => 0
  | z + 1 => cntB g A z + (if g (A + z) = true then 1 else 0)
theorem cntB_le (g : Nat → Bool) (A : Nat) : ∀ z, cntB g A z ≤ z
  | 0 => Nat.le_refl _
  | z + 1 => by
    have := cntB_le g A z
    simp only [cntB]
    split <;> omega
end Od
namespace Go.Proofs.Ytkgeknlmkkoobaa
open Go.RowKit

def BoolsIs (w : World) (S N : Nat) (g : Nat → Bool) : Prop := w.rowIs S 4 N (fun i => .bool (g i))
theorem BoolsIs.next {w w' : World} {S N : Nat} {g : Nat → Bool} (h : BoolsIs w S N g) (hb : Below w.heap.size w w') : BoolsIs w' S N g := h.of_block (hb.block _ h.lt)

set_option maxRecDepth 10000 in
set_option maxHeartbeats 2000000 in
theorem value_any (r : Od.Run) (S N C : Nat) (g : Nat → Bool) (w : World) (h : r.Fit) (hR : BoolsIs w S N g) (hN : r.a + r.size ≤ (N : Int)) (hC : N ≤ C) (hM : N ≤ 1000000000000) : Calls Try.prog 35 #[runVal r, .slice (some ⟨S, 0, none⟩) N C] w fun e w' => e = .returned (.int .i64 (r.f - 1 + (Od.cntB g r.a.toNat r.size.toNat : Int))) ∧ Below w.heap.size w w' := by
  have HL : Hid (∀ w, Calls Try.prog 44 #[runVal r] w fun e w' => e = .returned (.int .i64 (r.f - 1)) ∧ Below w.heap.size w w') := fun w => least_any r w h
  have HO : Hid (∀ w, Calls Try.prog 47 #[runVal r, .slice (some ⟨S, 0, none⟩) N C] w fun e w' => OwnOut e S r.a.toNat r.size.toNat ∧ Below w.heap.size w w') := fun w => own_any r S N C w h hN hC hM
  have hf0 := h.f0
  have hf1 := h.f1
  have HA0 : Hid (r.a.toNat + r.size.toNat ≤ N) := by have := h.a0; have := h.s0; show _ ≤ _; unfold Od.Run.size at *; omega
  generalize r.size.toNat = Z at *
  generalize r.a.toNat = A at *
  unfold runVal at HL HO ⊢
  obtain ⟨a, f, t⟩ := r
  simp only at HL HO hf0 hf1 ⊢
  obtain ⟨W, hW⟩ : ∃ W, w.alloc (.cells #[.int .i64 a, .int .i64 f, .int .i64 t] 74) = W := ⟨_, rfl⟩
  have HB : Hid (Below w.heap.size w W) := by show Below _ _ _; rw [← hW]; exact (Below.refl _ _).alloc (Nat.le_refl _) _
  have hN : W.heap[w.heap.size]? = some (.cells #[.int .i64 a, .int .i64 f, .int .i64 t] 74) := by rw [← hW]; exact heap_alloc_new w _
  have HN : Hid (∀ w', Below W.heap.size W w' → w'.heap[w.heap.size]? = some (.cells #[.int .i64 a, .int .i64 f, .int .i64 t] 74)) := fun w' hb => (hb.block _ (Array.getElem?_eq_some_iff.1 hN).1).trans hN
  have HR : Hid (∀ w', Below W.heap.size W w' → BoolsIs w' S N g) := fun w' hb => (hR.next HB.out).next hb
  have hZ : Z ≤ 1000000000000 := by have := HA0.out; omega
  obtain ⟨⟨p0, p1, p2⟩, _⟩ := box3 hN
  clear hN h hR hM hC
  go_enter Try.func35, Try.ntmps35
  go_wp2_with fail
  refine calls_at (HL.out _) (by with_reducible rfl) (by with_reducible rfl) ?_
  rintro e w1 ⟨rfl, hb1⟩
  have HB1 : Hid (Below W.heap.size W w1) := hb1
  clear hb1 p0 p1 p2 hW
  obtain ⟨⟨p0, p1, p2⟩, _⟩ := box3 (HN.out _ HB1.out)
  go_wp2_with fail
  refine calls_at (HO.out _) (by with_reducible rfl) (by with_reducible rfl) ?_
  rintro e w2 ⟨⟨off, kk, rfl, hoff⟩, hb2⟩
  have HB2 : Hid (Below W.heap.size W w2) := HB1.out.trans (hb2.mono HB1.out.size)
  have Hoff : Hid (0 < Z → off = A) := hoff
  clear hb2 p0 p1 p2 hoff
  go_wp2_with fail
  go_loop [5, 7, 15] (fun vv _ iv => ∃ k : Nat, iv = .int .i64 (k : Int) ∧ k ≤ Z ∧ vv = .int .i64 (f - 1 + (Od.cntB g A k : Int))) (fun _ _ iv => Z - (intOf iv).toNat)
  case atStart => exact ⟨0, rfl, Nat.zero_le _, by simp [Od.cntB]⟩
  case round =>
    obtain ⟨k, rfl, hk, rfl⟩ := hrel
    by_cases hlt : k < Z
    · have hkI : (k : Int) < (Z : Int) := by omega
      obtain rfl : off = A := Hoff.out (by omega)
      have x0 := (HR.out w2 HB2.out).cell (i := off + k) (by have := HA0.out; omega)
      have hcl := Od.cntB_le g off k
      have HNx : Hid (Od.cntB g off (k + 1) = Od.cntB g off k + (if g (off + k) = true then 1 else 0)) := rfl
      have hwr : IntKind.i64.wrap (f - 1 + (Od.cntB g off k : Int) + 1) = f - 1 + (Od.cntB g off k : Int) + 1 := wrap_ok (by omega) (by omega)
      cases hb : g (off + k)
      · rw [hb] at x0 HNx
        have HE : Hid (f - 1 + (Od.cntB g off (k + 1) : Int) = f - 1 + (Od.cntB g off k : Int)) := by show _ = _; rw [HNx.out]; simp
        generalize Od.cntB g off k = ck at *
        go_wp2_with fail
        go_round
        case rel => exact ⟨k + 1, by go_num, by omega, by rw [HE.out]⟩
        case measure => simp [intOf]; omega
      · rw [hb] at x0 HNx
        have HE : Hid (f - 1 + (Od.cntB g off (k + 1) : Int) = f - 1 + (Od.cntB g off k : Int) + 1) := by show _ = _; rw [HNx.out]; simp; omega
        generalize Od.cntB g off k = ck at *
        go_wp2_with fail
        go_round
        case rel => exact ⟨k + 1, by go_num, by omega, by rw [HE.out]⟩
        case measure => simp [intOf]; omega
    · have hkI : ¬ (k : Int) < (Z : Int) := by omega
      obtain rfl : k = Z := by omega
      go_wp2_with fail
      go_ret
      exact ⟨rfl, HB.out.trans (HB2.out.mono HB.out.size)⟩
end Go.Proofs.Ytkgeknlmkkoobaa

namespace Od
def valV (vs : List Md.Vr) (g : Nat → Bool) (x : Nat) : Int := match vs[x]? with | some v => v.lo + 1 - 1 + (cntB g (aS vs x).toNat (v.hi - (v.lo + 1) + 1).toNat : Int) | none => 0
def valL (vs : List Md.Vr) (g : Nat → Bool) : List Int := (List.range vs.length).map (valV vs g)
theorem aS_mono {vs : List Md.Vr} (g : Good vs) : ∀ {x y : Nat}, x ≤ y → y ≤ vs.length → aS vs x ≤ aS vs y := by
  intro x y h
  induction y with
  | zero => intro _; rw [show x = 0 by omega]; exact Int.le_refl _
  | succ y ih =>
    intro hy
    by_cases e : x = y + 1
    · rw [e]; exact Int.le_refl _
    · have h1 := ih (by omega) (by omega)
      have h2 := g.b y (by omega)
      rw [aS_next (by omega)]
      omega
theorem aP_mono {vs : List Md.Vr} (g : Good vs) (cs : List Md.Cn) : ∀ {x y : Nat}, x ≤ y → y ≤ vs.length → aP vs cs x ≤ aP vs cs y := by
  intro x y h
  induction y with
  | zero => intro _; rw [show x = 0 by omega]; exact Int.le_refl _
  | succ y ih =>
    intro hy
    by_cases e : x = y + 1
    · rw [e]; exact Int.le_refl _
    · have h1 := ih (by omega) (by omega)
      have h2 := pTo_bd g cs y (by omega)
      rw [aP_next (by omega)]
      omega
theorem aK_mono {vs : List Md.Vr} {cs : List Md.Cn} : ∀ {x y : Nat}, x ≤ y → y ≤ cs.length → aK vs cs x ≤ aK vs cs y := by
  intro x y h
  induction y with
  | zero => intro _; rw [show x = 0 by omega]; exact Int.le_refl _
  | succ y ih =>
    intro hy
    by_cases e : x = y + 1
    · rw [e]; exact Int.le_refl _
    · have h1 := ih (by omega) (by omega)
      rw [aK_next (by omega)]
      omega
end Od
namespace Go.Proofs.Ytkgeknlmkkoobaa
open Go.RowKit

def ValsOut (l : List Int) (w : World) (e : Ending) (w' : World) : Prop := (∃ v, e = .returned (.tuple #[v, .bool true]) ∧ IntsAt w' v l) ∧ Below w.heap.size w w'
theorem mk27 (n : Nat) (h : n ≤ 1000000) (w : World) : (Instr.makeSlice 27 (.int .i64 (n : Int)) (.int .i64 (n : Int))).run Try.prog w = .ok (.slice (some ⟨w.heap.size, 0, none⟩) n n) (w.alloc (.cells (madeCells #[.int .i64 0] n) 3)) := by
  have := make_any (P := Try.prog) 27 3 _ 1 8 und27' info3' n (by omega) (by omega) w
  simpa [Value.cells] using this
theorem rowIs_ints {w : World} {U n : Nat} {l : List Int} (h : w.rowIs U 3 n (fun i => .int .i64 (l.getD i 0))) (hl : l.length = n) (hn : n ≤ maxLen) : IntsAt w (.slice (some ⟨U, 0, none⟩) n n) l :=
  ⟨_, n, by rw [hl], by omega, fun _ => ⟨U, 0, rfl, h.lt, fun j hj => by
    rw [Nat.zero_add, h.cell (by omega)]
    simp [List.getD_eq_getElem?_getD, hj]⟩⟩
theorem box6' {w : World} {N : Nat} {a0 a1 a2 a3 a4 a5 : Value} {t : TypeId} (h : w.heap[N]? = some (.cells #[a0, a1, a2, a3, a4, a5] t (0, 0))) : w.cell? ⟨N, 0, none⟩ = some a0 ∧ w.cell? ⟨N, 1, none⟩ = some a1 ∧ w.cell? ⟨N, 2, none⟩ = some a2 ∧ w.cell? ⟨N, 3, none⟩ = some a3 ∧ w.cell? ⟨N, 4, none⟩ = some a4 ∧ w.cell? ⟨N, 5, none⟩ = some a5 := by
  refine ⟨?_, ?_, ?_, ?_, ?_, ?_⟩ <;> simp [World.cell?, h]

set_option maxRecDepth 10000 in
set_option maxHeartbeats 4000000 in
theorem values_any {vs : List Md.Vr} {cs : List Md.Cn} {s : Sh} {V M K : Nat → Value} {B2 : Nat} {w : World} (h : Mk vs cs s V M K B2 w) (S N C : Nat) (g : Nat → Bool) (hN : (N : Int) = Od.aK vs cs cs.length) (hC : N ≤ C) (hR : BoolsIs w S N g) :
    Calls Try.prog 16 #[.pointer (some ⟨s.P, 0, none⟩), .slice (some ⟨S, 0, none⟩) N C] w (ValsOut (Od.valL vs g) w) := by
  have hvl : vs.length ≤ 32 := h.g.n1
  have Hn : Hid (s.n = vs.length) := h.hn
  have HG : Hid (Od.Good vs) := h.g
  obtain ⟨W, hW⟩ : ∃ W, w.alloc (.cells (madeCells #[.int .i64 0] s.n) 3) = W := ⟨_, rfl⟩
  have hbW : Below w.heap.size w W := by rw [← hW]; exact (Below.refl _ _).alloc (Nat.le_refl _) _
  have HR0 : Hid (W.rowIs w.heap.size 3 s.n (fun i => .int .i64 (if i < 0 then Od.valV vs g i else 0))) := by
    show World.rowIs _ _ _ _ _
    rw [← hW]
    exact (World.rowIs_made w (.int .i64 0) s.n 3).congr fun i _ => by simp
  have HB : Hid (Below w.heap.size w W) := hbW
  have HM : Hid (∀ w', Below w.heap.size w w' → Mk vs cs s V M K B2 w') := fun w' hb => h.next hb
  have HS : Hid (∀ w', Below w.heap.size w w' → BoolsIs w' S N g) := fun w' hb => hR.next hb
  have hmk := mk27 s.n (by have := Hn.out; omega)
  have HN : Hid ((N : Int) = Od.aK vs cs cs.length) := hN
  have HGC : Hid (Od.GoodC vs.length cs) := h.gc
  obtain ⟨⟨c0, c1, c2, c3⟩, _⟩ := h.o.cells
  obtain ⟨⟨c0', c1', c2', c3'⟩, _⟩ := (h.next hbW).o.cells
  rw [← hN] at c0 c0'
  have hNb : N ≤ 1000000000000 := by have := Od.aK_bd h.g h.gc cs.length (Nat.le_refl _); have := h.gc.n1; omega
  have hnn : ((N : Int) != (N : Int)) = false := by simp
  clear h hbW hR hN
  go_enter Try.func16, Try.ntmps16
  go_wp2_with fail
  clear c0 c1 c2 c3 c0' c1' c2' c3' hW hmk
  go_loopw [27] (fun iv wr => ∃ k : Nat, iv = .int .i64 (k : Int) ∧ k ≤ vs.length ∧ Hid (wr.rowIs w.heap.size 3 s.n (fun i => .int .i64 (if i < k then Od.valV vs g i else 0))) ∧ Hid (Below w.heap.size w wr)) (fun iv _ => vs.length - (intOf iv).toNat)
  case atStart => exact ⟨0, rfl, Nat.zero_le _, HR0, HB⟩
  case round =>
    obtain ⟨k, rfl, hk, hRk, hBk⟩ := hrel
    clear HR0
    by_cases hlt : k < vs.length
    · have hkI : (k : Int) < (s.n : Int) := by have := Hn.out; omega
      obtain ⟨v0, v1, v2, v3, v4, v5⟩ := (HM.out wr hBk.out).var k hlt
      have HV : Hid (∀ w', Below w.heap.size w w' → Calls Try.prog 35 #[runVal (Od.stR vs k vs[k]), .slice (some ⟨S, 0, none⟩) N C] w' fun e w'' => e = .returned (.int .i64 (Od.valV vs g k)) ∧ Below w'.heap.size w' w'') := fun w' hb => by
        have hsz : Od.aS vs k + (vs[k].hi - (vs[k].lo + 1) + 1) ≤ (N : Int) := by
          have h1 := Od.aS_mono HG.out (x := k + 1) (y := vs.length) (by omega) (Nat.le_refl _)
          have h2 := Od.aP_bd HG.out cs vs.length (Nat.le_refl _)
          have h3 := Od.aK_bd HG.out HGC.out cs.length (Nat.le_refl _)
          have h4 := HN.out
          rw [Od.aS_next hlt] at h1
          omega
        have := value_any (Od.stR vs k vs[k]) S N C g w' (Od.stR_fit HG.out k hlt) (HS.out w' hb) hsz hC hNb
        have e : Od.valV vs g k = (Od.stR vs k vs[k]).f - 1 + (Od.cntB g (Od.stR vs k vs[k]).a.toNat (Od.stR vs k vs[k]).size.toNat : Int) := by
          unfold Od.valV
          rw [List.getElem?_eq_getElem hlt]
          rfl
        rw [e]
        exact this
      unfold runVal Od.stR at HV
      simp only at HV
      have HRn : Hid (∀ (w' : World), w'.rowIs w.heap.size 3 s.n (fun i => .int .i64 (if i < k then Od.valV vs g i else 0)) → (w'.setCell ⟨w.heap.size, k, none⟩ (.int .i64 (Od.valV vs g k))).rowIs w.heap.size 3 s.n (fun i => .int .i64 (if i < k + 1 then Od.valV vs g i else 0))) := fun w' hr => (hr.set k _).congr fun i _ => by
        by_cases e : i = k
        · subst e; simp
        · rw [if_neg e]
          by_cases e2 : i < k
          · rw [if_pos e2, if_pos (by omega)]
          · rw [if_neg e2, if_neg (by omega)]
      generalize Od.valV vs g k = vk at *
      generalize Od.aS vs k = as0 at *
      generalize Od.aP vs cs k = ap0 at *
      generalize Od.pTo cs vs[k] k = tt at *
      generalize vs[k].lo = lo at *
      generalize vs[k].hi = hi at *
      obtain ⟨X, hX⟩ : ∃ X, wr.alloc (.cells #[.int .i64 as0, .int .i64 (lo + 1), .int .i64 hi, .int .i64 ap0, .int .i64 lo, .int .i64 tt] 77) = X := ⟨_, rfl⟩
      have hbX : Below wr.heap.size wr X := by rw [← hX]; exact (Below.refl _ _).alloc (Nat.le_refl _) _
      have hNX : X.heap[wr.heap.size]? = some (.cells #[.int .i64 as0, .int .i64 (lo + 1), .int .i64 hi, .int .i64 ap0, .int .i64 lo, .int .i64 tt] 77) := by rw [← hX]; exact heap_alloc_new wr _
      have HBX : Hid (Below w.heap.size w X) := hBk.out.trans (hbX.mono hBk.out.size)
      have HRX : Hid (X.rowIs w.heap.size 3 s.n (fun i => .int .i64 (if i < k then Od.valV vs g i else 0))) := hRk.out.of_block (hbX.block _ hRk.out.lt)
      obtain ⟨p0, p1, p2, p3, p4, p5⟩ := box6' hNX
      clear hbX hNX
      go_wp2_with fail
      refine calls_at (HV.out _ HBX.out) (by with_reducible rfl) (by with_reducible rfl) ?_
      rintro e w2 ⟨rfl, hb2⟩
      have HB2 : Hid (Below w.heap.size w w2) := HBX.out.trans (hb2.mono HBX.out.size)
      have HR2 : Hid (w2.rowIs w.heap.size 3 s.n (fun i => .int .i64 (if i < k then Od.valV vs g i else 0))) := HRX.out.of_block (hb2.block _ HRX.out.lt)
      have rc := HR2.out.cell (i := k) (by have := Hn.out; omega)
      have rz := HR2.out.frozen k
      clear hb2 p0 p1 p2 p3 p4 p5 v0 v1 v2 v3 v4 v5 hX
      go_wp2_with fail
      go_roundw
      case rel => exact ⟨k + 1, by go_num, by omega, HRn.out _ HR2.out, HB2.out.setCell (Nat.le_refl _) _⟩
      case measure => simp [intOf]; omega
    · have hkI : ¬ (k : Int) < (s.n : Int) := by have := Hn.out; omega
      obtain rfl : k = vs.length := by omega
      have HI : Hid (IntsAt wr (.slice (some ⟨w.heap.size, 0, none⟩) s.n s.n) (Od.valL vs g)) := by
        have hl : (Od.valL vs g).length = s.n := by rw [Hn.out]; simp [Od.valL]
        refine rowIs_ints (hRk.out.congr fun i hi => ?_) hl (by have := Hn.out; unfold maxLen; omega)
        have hi2 : i < vs.length := by have := Hn.out; omega
        rw [if_pos hi2]
        simp [Od.valL, List.getD_eq_getElem?_getD, hi2]
      go_wp2_with fail
      go_ret2
      exact ⟨⟨_, rfl, HI.out⟩, hBk.out⟩
end Go.Proofs.Ytkgeknlmkkoobaa
