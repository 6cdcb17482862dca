/-
  Put together: OdAsg, OdAsgP.
-/
import Derived.Test.YtkgeknlmkkoobaaOdVls
namespace Od
def asgB (g : Nat → Bool) (A Z : Nat) (p : Nat → Bool) : Nat → Bool := fun j => if A ≤ j ∧ j < A + Z then p (j - A) else g j
theorem asgB_zero (g : Nat → Bool) (A : Nat) (p : Nat → Bool) : asgB g A 0 p = g := by
  funext j
  unfold asgB
  rw [if_neg (by omega)]
theorem asgB_next (g : Nat → Bool) (A k : Nat) (p : Nat → Bool) (j : Nat) : (if j = A + k then p k else asgB g A k p j) = asgB g A (k + 1) p j := by
  unfold asgB
  by_cases e : j = A + k
  · rw [if_pos e, if_pos (by omega), e]
    congr 1
    omega
  · rw [if_neg e]
    by_cases e2 : A ≤ j ∧ j < A + k
    · rw [if_pos e2, if_pos (by omega)]
    · rw [if_neg e2, if_neg (by omega)]
theorem asgB_in {g : Nat → Bool} {A Z : Nat} {p : Nat → Bool} {i : Nat} (h : i < Z) : asgB g A Z p (A + i) = p i := by
  unfold asgB
  rw [if_pos (by omega)]
  congr 1
  omega
theorem asgB_out {g : Nat → Bool} {A Z : Nat} {p : Nat → Bool} {j : Nat} (h : j < A ∨ A + Z ≤ j) : asgB g A Z p j = g j := by
  unfold asgB
  rw [if_neg (by omega)]
end Od
namespace Go.Proofs.Ytkgeknlmkkoobaa
open Go.RowKit

/-- What is changed: the block S alone. -/
structure Sp (S B : Nat) (w w' : World) : Prop where
  below : Below B w w'
  off : Off (fun b => b = S) w w'
theorem Sp.refl (S B : Nat) (w : World) : Sp S B w w := ⟨Below.refl _ _, Off.refl _ _⟩
theorem Sp.trans {S B : Nat} {a b c : World} (h : Sp S B a b) (k : Sp S B b c) : Sp S B a c := ⟨h.below.trans k.below, h.off.trans k.off⟩
theorem Sp.of_below {S B : Nat} {w w' : World} (h : Below w.heap.size w w') (hB : B ≤ w.heap.size) : Sp S B w w' := ⟨h.mono hB, Off.of_below h⟩
theorem Sp.set {S B : Nat} {w : World} {i : Nat} (v : Value) (hB : B ≤ S) : Sp S B w (w.setCell ⟨S, i, none⟩ v) := ⟨(Below.refl _ _).setCell hB _, Off.set v rfl⟩
theorem Sp.size {S B : Nat} {w w' : World} (h : Sp S B w w') : w.heap.size ≤ w'.heap.size := h.off.size
theorem BoolsIs.set {w : World} {S N : Nat} {g g' : Nat → Bool} (h : BoolsIs w S N g) (i : Nat) (b : Bool) (hg : ∀ j, (if j = i then b else g j) = g' j) : BoolsIs (w.setCell ⟨S, i, none⟩ (.bool b)) S N g' :=
  (World.rowIs.set h i (.bool b)).congr fun j _ => by rw [← hg j]; split <;> rfl

def pred31 (f v : Int) (i : Nat) : Bool := decide (f + (i : Int) ≤ v)
set_option maxRecDepth 10000 in
set_option maxHeartbeats 2000000 in
theorem assign31_any (r : Od.Run) (S N C : Nat) (g : Nat → Bool) (v : Int) (w : World) (B : Nat) (h : r.Fit) (hR : BoolsIs w S N g) (hN : r.a + r.size ≤ (N : Int)) (hC : N ≤ C) (hM : N ≤ 1000000000000) (hBS : B ≤ S) : Calls Try.prog 31 #[runVal r, .slice (some ⟨S, 0, none⟩) N C, .int .i64 v] w fun e w' => e = .returned (.tuple #[]) ∧ BoolsIs w' S N (Od.asgB g r.a.toNat r.size.toNat (pred31 r.f v)) ∧ Sp S B w w' := by
  have HO : Hid (∀ w, Calls Try.prog 47 #[runVal r, .slice (some ⟨S, 0, none⟩) N C] w fun e w' => OwnOut e S r.a.toNat r.size.toNat ∧ Below w.heap.size w w') := fun w => own_any r S N C w h hN hC hM
  have hf0 := h.f0
  have hf1 := h.f1
  have HA0 : Hid (r.a.toNat + r.size.toNat ≤ N) := by have := h.a0; have := h.s0; show _ ≤ _; unfold Od.Run.size at *; omega
  generalize r.size.toNat = Z at *
  generalize r.a.toNat = A at *
  unfold runVal at HO ⊢
  obtain ⟨a, f, t⟩ := r
  simp only at HO hf0 hf1 ⊢
  obtain ⟨W, hW⟩ : ∃ W, w.alloc (.cells #[.int .i64 a, .int .i64 f, .int .i64 t] 74) = W := ⟨_, rfl⟩
  have HB : Hid (Below w.heap.size w W) := by show Below _ _ _; rw [← hW]; exact (Below.refl _ _).alloc (Nat.le_refl _) _
  have hN : W.heap[w.heap.size]? = some (.cells #[.int .i64 a, .int .i64 f, .int .i64 t] 74) := by rw [← hW]; exact heap_alloc_new w _
  have hSl : S < w.heap.size := hR.lt
  have HN : Hid (∀ w', Off (fun b => b = S) W w' → w'.heap[w.heap.size]? = some (.cells #[.int .i64 a, .int .i64 f, .int .i64 t] 74)) := fun w' hb => (hb.block _ (Array.getElem?_eq_some_iff.1 hN).1 (fun e => by omega)).trans hN
  have HRW : Hid (BoolsIs W S N g) := hR.next HB.out
  have HBS : Hid (B ≤ S) := hBS
  have HSl : Hid (S < w.heap.size) := hSl
  have hZ : Z ≤ 1000000000000 := by have := HA0.out; omega
  obtain ⟨⟨p0, p1, p2⟩, _⟩ := box3 hN
  clear hN h hR hM hC hBS hSl
  go_enter Try.func31, Try.ntmps31
  go_wp2_with fail
  refine calls_at (HO.out _) (by with_reducible rfl) (by with_reducible rfl) ?_
  rintro e w2 ⟨⟨off, kk, rfl, hoff⟩, hb2⟩
  have HS2 : Hid (Sp S B W w2) := Sp.of_below hb2 (by have := HBS.out; have := HSl.out; have := HB.out.size; omega)
  have HR2 : Hid (BoolsIs w2 S N (Od.asgB g A 0 (pred31 f v))) := by show BoolsIs _ _ _ _; rw [Od.asgB_zero]; exact HRW.out.next hb2
  have Hoff : Hid (0 < Z → off = A) := hoff
  clear hb2 p0 p1 p2 hoff hW HRW
  go_wp2_with fail
  go_loopw [14] (fun iv wr => ∃ k : Nat, iv = .int .i64 (k : Int) ∧ k ≤ Z ∧ Hid (BoolsIs wr S N (Od.asgB g A k (pred31 f v))) ∧ Hid (Sp S B W wr)) (fun iv _ => Z - (intOf iv).toNat)
  case atStart => exact ⟨0, rfl, Nat.zero_le _, HR2, HS2⟩
  case round =>
    obtain ⟨k, rfl, hk, hRk, hSk⟩ := hrel
    clear HR2 HS2
    by_cases hlt : k < Z
    · have hkI : (k : Int) < (Z : Int) := by omega
      obtain rfl : off = A := Hoff.out (by omega)
      have rc := World.rowIs.cell hRk.out (i := off + k) (by have := HA0.out; omega)
      have rz := World.rowIs.frozen hRk.out (off + k)
      have hwr : IntKind.i64.wrap (f + (k : Int)) = f + (k : Int) := wrap_ok (by omega) (by omega)
      obtain ⟨⟨p0, p1, p2⟩, _⟩ := box3 (HN.out wr hSk.out.off)
      obtain ⟨bb, hbb⟩ : ∃ b, decide (f + (k : Int) ≤ v) = b := ⟨_, rfl⟩
      have HRn : Hid (BoolsIs (wr.setCell ⟨S, off + k, none⟩ (.bool bb)) S N (Od.asgB g off (k + 1) (pred31 f v))) := hRk.out.set (off + k) bb fun j => by rw [← hbb]; exact Od.asgB_next g off k (pred31 f v) j
      have HSn : Hid (Sp S B W (wr.setCell ⟨S, off + k, none⟩ (.bool bb))) := hSk.out.trans (Sp.set _ HBS.out)
      go_wp2_with fail
      try rw [hbb]
      clear hbb
      go_roundw
      case rel => exact ⟨k + 1, by go_num, by omega, HRn, HSn⟩
      case measure => simp [intOf]; omega
    · have hkI : ¬ (k : Int) < (Z : Int) := by omega
      obtain rfl : k = Z := by omega
      go_wp2_with fail
      go_end0
      exact ⟨rfl, hRk.out, (Sp.of_below HB.out (by have := HBS.out; have := HSl.out; omega)).trans hSk.out⟩

def pred32 (f v : Int) (i : Nat) : Bool := v == f + (i : Int)
set_option maxRecDepth 10000 in
set_option maxHeartbeats 2000000 in
theorem assign32_any (r : Od.Run) (S N C : Nat) (g : Nat → Bool) (v : Int) (w : World) (B : Nat) (h : r.Fit) (hR : BoolsIs w S N g) (hN : r.a + r.size ≤ (N : Int)) (hC : N ≤ C) (hM : N ≤ 1000000000000) (hBS : B ≤ S) : Calls Try.prog 32 #[runVal r, .slice (some ⟨S, 0, none⟩) N C, .int .i64 v] w fun e w' => e = .returned (.tuple #[]) ∧ BoolsIs w' S N (Od.asgB g r.a.toNat r.size.toNat (pred32 r.f v)) ∧ Sp S B w w' := by
  have HO : Hid (∀ w, Calls Try.prog 47 #[runVal r, .slice (some ⟨S, 0, none⟩) N C] w fun e w' => OwnOut e S r.a.toNat r.size.toNat ∧ Below w.heap.size w w') := fun w => own_any r S N C w h hN hC hM
  have hf0 := h.f0
  have hf1 := h.f1
  have HA0 : Hid (r.a.toNat + r.size.toNat ≤ N) := by have := h.a0; have := h.s0; show _ ≤ _; unfold Od.Run.size at *; omega
  generalize r.size.toNat = Z at *
  generalize r.a.toNat = A at *
  unfold runVal at HO ⊢
  obtain ⟨a, f, t⟩ := r
  simp only at HO hf0 hf1 ⊢
  obtain ⟨W, hW⟩ : ∃ W, w.alloc (.cells #[.int .i64 a, .int .i64 f, .int .i64 t] 75) = W := ⟨_, rfl⟩
  have HB : Hid (Below w.heap.size w W) := by show Below _ _ _; rw [← hW]; exact (Below.refl _ _).alloc (Nat.le_refl _) _
  have hN : W.heap[w.heap.size]? = some (.cells #[.int .i64 a, .int .i64 f, .int .i64 t] 75) := by rw [← hW]; exact heap_alloc_new w _
  have hSl : S < w.heap.size := hR.lt
  have HN : Hid (∀ w', Off (fun b => b = S) W w' → w'.heap[w.heap.size]? = some (.cells #[.int .i64 a, .int .i64 f, .int .i64 t] 75)) := fun w' hb => (hb.block _ (Array.getElem?_eq_some_iff.1 hN).1 (fun e => by omega)).trans hN
  have HRW : Hid (BoolsIs W S N g) := hR.next HB.out
  have HBS : Hid (B ≤ S) := hBS
  have HSl : Hid (S < w.heap.size) := hSl
  have hZ : Z ≤ 1000000000000 := by have := HA0.out; omega
  obtain ⟨⟨p0, p1, p2⟩, _⟩ := box3 hN
  clear hN h hR hM hC hBS hSl
  go_enter Try.func32, Try.ntmps32
  go_wp2_with fail
  refine calls_at (HO.out _) (by with_reducible rfl) (by with_reducible rfl) ?_
  rintro e w2 ⟨⟨off, kk, rfl, hoff⟩, hb2⟩
  have HS2 : Hid (Sp S B W w2) := Sp.of_below hb2 (by have := HBS.out; have := HSl.out; have := HB.out.size; omega)
  have HR2 : Hid (BoolsIs w2 S N (Od.asgB g A 0 (pred32 f v))) := by show BoolsIs _ _ _ _; rw [Od.asgB_zero]; exact HRW.out.next hb2
  have Hoff : Hid (0 < Z → off = A) := hoff
  clear hb2 p0 p1 p2 hoff hW HRW
  go_wp2_with fail
  go_loopw [14] (fun iv wr => ∃ k : Nat, iv = .int .i64 (k : Int) ∧ k ≤ Z ∧ Hid (BoolsIs wr S N (Od.asgB g A k (pred32 f v))) ∧ Hid (Sp S B W wr)) (fun iv _ => Z - (intOf iv).toNat)
  case atStart => exact ⟨0, rfl, Nat.zero_le _, HR2, HS2⟩
  case round =>
    obtain ⟨k, rfl, hk, hRk, hSk⟩ := hrel
    clear HR2 HS2
    by_cases hlt : k < Z
    · have hkI : (k : Int) < (Z : Int) := by omega
      obtain rfl : off = A := Hoff.out (by omega)
      have rc := World.rowIs.cell hRk.out (i := off + k) (by have := HA0.out; omega)
      have rz := World.rowIs.frozen hRk.out (off + k)
      have hwr : IntKind.i64.wrap (f + (k : Int)) = f + (k : Int) := wrap_ok (by omega) (by omega)
      obtain ⟨⟨p0, p1, p2⟩, _⟩ := box3 (HN.out wr hSk.out.off)
      obtain ⟨bb, hbb⟩ : ∃ b, (v == f + (k : Int)) = b := ⟨_, rfl⟩
      have HRn : Hid (BoolsIs (wr.setCell ⟨S, off + k, none⟩ (.bool bb)) S N (Od.asgB g off (k + 1) (pred32 f v))) := hRk.out.set (off + k) bb fun j => by rw [← hbb]; exact Od.asgB_next g off k (pred32 f v) j
      have HSn : Hid (Sp S B W (wr.setCell ⟨S, off + k, none⟩ (.bool bb))) := hSk.out.trans (Sp.set _ HBS.out)
      go_wp2_with fail
      try rw [hbb]
      clear hbb
      go_roundw
      case rel => exact ⟨k + 1, by go_num, by omega, HRn, HSn⟩
      case measure => simp [intOf]; omega
    · have hkI : ¬ (k : Int) < (Z : Int) := by omega
      obtain rfl : k = Z := by omega
      go_wp2_with fail
      go_end0
      exact ⟨rfl, hRk.out, (Sp.of_below HB.out (by have := HBS.out; have := HSl.out; omega)).trans hSk.out⟩
end Go.Proofs.Ytkgeknlmkkoobaa

namespace Od
def hereTo (xs l : List Int) (k i : Nat) : Int := if i < k then Md.val l (xs.getD i 0) else 0
def hereV (xs l : List Int) (i : Nat) : Int := hereTo xs l xs.length i
def pickP (rows : List (List Int)) (xs l : List Int) (r : Nat) : Bool := ent rows (r * 8) == hereV xs l 0 && ent rows (r * 8 + 1) == hereV xs l 1 && ent rows (r * 8 + 2) == hereV xs l 2 && ent rows (r * 8 + 3) == hereV xs l 3 && ent rows (r * 8 + 4) == hereV xs l 4 && ent rows (r * 8 + 5) == hereV xs l 5 && ent rows (r * 8 + 6) == hereV xs l 6 && ent rows (r * 8 + 7) == hereV xs l 7
end Od
namespace Go.Proofs.Ytkgeknlmkkoobaa
open Go.RowKit

def Pa (N E H k : Nat) (vr : Value) (e h : Nat → Int) (X w' : World) : Prop := w'.cell? ⟨N, 4, none⟩ = some vr ∧ (w'.cell? ⟨E, k * 8, none⟩ = some (.int .i64 (e (k * 8))) ∧ w'.cell? ⟨E, k * 8 + 1, none⟩ = some (.int .i64 (e (k * 8 + 1))) ∧ w'.cell? ⟨E, k * 8 + 2, none⟩ = some (.int .i64 (e (k * 8 + 2))) ∧ w'.cell? ⟨E, k * 8 + 3, none⟩ = some (.int .i64 (e (k * 8 + 3))) ∧ w'.cell? ⟨E, k * 8 + 4, none⟩ = some (.int .i64 (e (k * 8 + 4))) ∧ w'.cell? ⟨E, k * 8 + 5, none⟩ = some (.int .i64 (e (k * 8 + 5))) ∧ w'.cell? ⟨E, k * 8 + 6, none⟩ = some (.int .i64 (e (k * 8 + 6))) ∧ w'.cell? ⟨E, k * 8 + 7, none⟩ = some (.int .i64 (e (k * 8 + 7)))) ∧ (w'.cell? ⟨H, 0, none⟩ = some (.int .i64 (h 0)) ∧ w'.cell? ⟨H, 1, none⟩ = some (.int .i64 (h 1)) ∧ w'.cell? ⟨H, 2, none⟩ = some (.int .i64 (h 2)) ∧ w'.cell? ⟨H, 3, none⟩ = some (.int .i64 (h 3)) ∧ w'.cell? ⟨H, 4, none⟩ = some (.int .i64 (h 4)) ∧ w'.cell? ⟨H, 5, none⟩ = some (.int .i64 (h 5)) ∧ w'.cell? ⟨H, 6, none⟩ = some (.int .i64 (h 6)) ∧ w'.cell? ⟨H, 7, none⟩ = some (.int .i64 (h 7))) ∧ w' = X

set_option maxRecDepth 10000 in
set_option maxHeartbeats 4000000 in
theorem assign33_any (r : Od.Run) (c : Md.Cn) (vx vr : Value) (S N C B2 : Nat) (g : Nat → Bool) (vl : Value) (l : List Int) (w : World) (B : Nat) (h : r.Fit) (hP : PickAt w B2 c vx vr) (hrz : r.size.toNat = (Od.rowsOf c).length) (hx8 : (Od.xsOf c).length ≤ 8) (hxl : ∀ y ∈ Od.xsOf c, 0 ≤ y ∧ y < (l.length : Int)) (hI : IntsAt w vl l) (hR : BoolsIs w S N g) (hN : r.a + r.size ≤ (N : Int)) (hC : N ≤ C) (hM : N ≤ 1000000000000) (hBS : B ≤ S) (hS2 : ∀ E, vr = .slice (some ⟨E, 0, none⟩) (Od.rowsOf c).length (Od.rowsOf c).length → E ≠ S) :
    Calls Try.prog 33 #[.agg #[.int .i64 r.a, .int .i64 r.f, .int .i64 r.t, vx, vr], .slice (some ⟨S, 0, none⟩) N C, vl] w fun e w' => e = .returned (.tuple #[]) ∧ BoolsIs w' S N (Od.asgB g r.a.toNat r.size.toNat (Od.pickP (Od.rowsOf c) (Od.xsOf c) l)) ∧ Sp S B w w' := by
  have HO : Hid (∀ w, Calls Try.prog 47 #[runVal r, .slice (some ⟨S, 0, none⟩) N C] w fun e w' => OwnOut e S r.a.toNat r.size.toNat ∧ Below w.heap.size w w') := fun w => own_any r S N C w h hN hC hM
  have HA0 : Hid (r.a.toNat + r.size.toNat ≤ N) := by have := h.a0; have := h.s0; show _ ≤ _; unfold Od.Run.size at *; omega
  generalize r.size.toNat = Z at *
  generalize r.a.toNat = A at *
  unfold runVal at HO
  obtain ⟨a, f, t⟩ := r
  simp only at HO ⊢
  have hXi := own_ints' hP.x (by unfold maxLen; omega)
  obtain ⟨xa, xc, rfl, _⟩ := hXi.form
  obtain ⟨la, lc, rfl, hlm⟩ := hI.form
  have HE := hP.r
  obtain ⟨_, ra, rn, rc, rfl⟩ := hP.forms
  obtain ⟨xs, hxs⟩ : ∃ x, Od.xsOf c = x := ⟨_, rfl⟩
  obtain ⟨rows, hrs⟩ : ∃ x, Od.rowsOf c = x := ⟨_, rfl⟩
  rw [hxs] at hXi hx8 hxl ⊢
  rw [hrs] at HE hrz hS2 ⊢
  have hSl : S < w.heap.size := hR.lt
  obtain ⟨W0, hW0⟩ : ∃ W, w.alloc (.cells #[.int .i64 a, .int .i64 f, .int .i64 t, .slice xa xs.length xc, .slice ra rn rc] 86) = W := ⟨_, rfl⟩
  obtain ⟨W, hW⟩ : ∃ W, W0.alloc (.cells #[.int .i64 0, .int .i64 0, .int .i64 0, .int .i64 0, .int .i64 0, .int .i64 0, .int .i64 0, .int .i64 0] 104) = W := ⟨_, rfl⟩
  have hs0 : W0.heap.size = w.heap.size + 1 := by rw [← hW0]; simp
  have hs1 : W.heap.size = w.heap.size + 2 := by rw [← hW]; simp [hs0]
  have hb0 : Below w.heap.size w W0 := by rw [← hW0]; exact (Below.refl _ _).alloc (Nat.le_refl _) _
  have hb1 : Below W0.heap.size W0 W := by rw [← hW]; exact (Below.refl _ _).alloc (Nat.le_refl _) _
  have hbW : Below w.heap.size w W := hb0.trans (hb1.mono hb0.size)
  have hN0 : W0.heap[w.heap.size]? = some (.cells #[.int .i64 a, .int .i64 f, .int .i64 t, .slice xa xs.length xc, .slice ra rn rc] 86) := by rw [← hW0]; exact heap_alloc_new w _
  have hN1 := (hb1.block w.heap.size (by omega)).trans hN0
  have HH0 : Hid (W.rowIs W0.heap.size 104 8 (fun i => .int .i64 (Od.hereTo xs l 0 i))) := by
    show World.rowIs _ _ _ _ _
    rw [← hW]
    refine ⟨_, heap_alloc_new W0 _, rfl, fun i hi => ?_⟩
    have e : Od.hereTo xs l 0 i = 0 := by simp [Od.hereTo]
    show _ = some (Value.int .i64 (Od.hereTo xs l 0 i))
    rw [e]
    match i, hi with
    | 0, _ | 1, _ | 2, _ | 3, _ | 4, _ | 5, _ | 6, _ | 7, _ => rfl
    | n + 8, h => omega
  have HB : Hid (Below w.heap.size w W) := hbW
  have Hs0 : Hid (W0.heap.size = w.heap.size + 1) := hs0
  have HN : Hid (∀ w', Below W0.heap.size W w' → w'.heap[w.heap.size]? = some (.cells #[.int .i64 a, .int .i64 f, .int .i64 t, .slice xa xs.length xc, .slice ra rn rc] 86)) := fun w' hb => (hb.block _ (by omega)).trans hN1
  have HXi : Hid (∀ w', Below W0.heap.size W w' → IntsAt w' (.slice xa xs.length xc) xs) := fun w' hb => hXi.below (hbW.trans (hb.mono (by omega)))
  have HLi : Hid (∀ w', Below W0.heap.size W w' → IntsAt w' (.slice la l.length lc) l) := fun w' hb => hI.below (hbW.trans (hb.mono (by omega)))
  have HRW : Hid (BoolsIs W S N g) := hR.next hbW
  have HXl : Hid (∀ y ∈ xs, 0 ≤ y ∧ y < (l.length : Int)) := hxl
  have HEr : Hid (EAt w B2 rows (.slice ra rn rc)) := HE
  have HS2 : Hid (∀ E, Value.slice ra rn rc = .slice (some ⟨E, 0, none⟩) rows.length rows.length → E ≠ S) := hS2
  have HZr : Hid (Z = rows.length) := hrz
  have HBS : Hid (B ≤ S) := hBS
  have HSl : Hid (S < w.heap.size) := hSl
  have Hx8 : Hid (xs.length ≤ 8) := hx8
  have hZ : Z ≤ 1000000000000 := by have := HA0.out; omega
  obtain ⟨⟨p0, p1, p2, p3, p4⟩, _⟩ := box5 hN1
  clear h hP hrz hxl hI hR hN hC hM hBS hS2 hXi HE hxs hrs hSl hs0 hs1 hb0 hb1 hbW hN0 hN1
  go_enter Try.func33, Try.ntmps33
  go_wp2_with fail
  clear p0 p1 p2 p3 p4 hW hW0
  go_loopw [14] (fun iv wr => ∃ k : Nat, iv = .int .i64 (k : Int) ∧ k ≤ xs.length ∧ Hid (wr.rowIs W0.heap.size 104 8 (fun i => .int .i64 (Od.hereTo xs l k i))) ∧ Hid (Below W0.heap.size W wr) ∧ Hid (Off (fun b => b = W0.heap.size) W wr)) (fun iv _ => xs.length - (intOf iv).toNat)
  case atStart => exact ⟨0, rfl, Nat.zero_le _, HH0, Below.refl _ _, Off.refl _ _⟩
  case round =>
    obtain ⟨k, rfl, hk, hHk, hBk, hOk⟩ := hrel
    clear HH0
    by_cases hlt : k < xs.length
    · have hkI : (k : Int) < (xs.length : Int) := by omega
      obtain ⟨xb, xo, rfl, _, hxc⟩ := ints_all (HXi.out wr hBk.out) (by omega)
      have x0 := hxc k hlt
      obtain ⟨y0, y1⟩ := HXl.out _ (List.getElem_mem hlt)
      obtain ⟨y, hy⟩ : ∃ y : Nat, xs[k] = (y : Int) := ⟨xs[k].toNat, by omega⟩
      have hyl : y < l.length := by omega
      obtain ⟨lb, lo, rfl, _, hlc⟩ := ints_all (HLi.out wr hBk.out) (by omega)
      have l0 := hlc y hyl
      have hval : Md.val l (xs.getD k 0) = l[y] := by
        have e : xs.getD k 0 = (y : Int) := by rw [List.getD_eq_getElem?_getD, List.getElem?_eq_getElem hlt]; exact hy
        rw [e]
        simp [Md.val, List.getD_eq_getElem?_getD, hyl]
      rw [hy] at x0
      have hyI : (y : Int) < (l.length : Int) := by omega
      have hk8 : (k : Int) < 8 := by have := Hx8.out; omega
      have rc := hHk.out.cell (i := k) (by have := Hx8.out; omega)
      have rz := hHk.out.frozen k
      have HHn : Hid ((wr.setCell ⟨W0.heap.size, k, none⟩ (.int .i64 l[y])).rowIs W0.heap.size 104 8 (fun i => .int .i64 (Od.hereTo xs l (k + 1) i))) := (hHk.out.set k _).congr fun i _ => by
        unfold Od.hereTo
        by_cases e : i = k
        · subst e; rw [if_pos rfl, if_pos (by omega), hval]
        · rw [if_neg e]
          by_cases e2 : i < k
          · rw [if_pos e2, if_pos (by omega)]
          · rw [if_neg e2, if_neg (by omega)]
      have HBn : Hid (Below W0.heap.size W (wr.setCell ⟨W0.heap.size, k, none⟩ (.int .i64 l[y]))) := hBk.out.setCell (Nat.le_refl _) _
      have HOn : Hid (Off (fun b => b = W0.heap.size) W (wr.setCell ⟨W0.heap.size, k, none⟩ (.int .i64 l[y]))) := hOk.out.trans (Off.set (S := fun b => b = W0.heap.size) _ rfl)
      clear hxc hlc y0 y1 hy hval
      generalize l[y] = lv at *
      go_wp2_with fail
      go_roundw
      case rel => exact ⟨k + 1, by go_num, by omega, HHn, HBn, HOn⟩
      case measure => simp [intOf]; omega
    · have hkI : ¬ (k : Int) < (xs.length : Int) := by omega
      obtain rfl : k = xs.length := by omega
      rename World => wk
      obtain ⟨⟨p0, p1, p2, p3, p4⟩, _⟩ := box5 (HN.out wk hBk.out)
      go_wp2_with fail
      refine calls_at (HO.out _) (by with_reducible rfl) (by with_reducible rfl) ?_
      rintro e w2 ⟨⟨off, kk, rfl, hoff⟩, hb2⟩
      have hoffW : Off (fun b => b = W0.heap.size) W w2 := hOk.out.trans (Off.of_below hb2)
      have HS2p : Hid (Below w.heap.size w w2) := HB.out.trans ((hBk.out.mono (by have := Hs0.out; omega)).trans (hb2.mono (Nat.le_trans HB.out.size hBk.out.size)))
      have HR2 : Hid (BoolsIs w2 S N (Od.asgB g A 0 (Od.pickP rows xs l))) := by
        show BoolsIs _ _ _ _
        rw [Od.asgB_zero]
        exact HRW.out.of_block (hoffW.block _ HRW.out.lt (fun e => by have := Hs0.out; have := HSl.out; omega))
      have HH2 : Hid (w2.rowIs W0.heap.size 104 8 (fun i => .int .i64 (Od.hereV xs l i))) := hHk.out.of_block (hb2.block _ hHk.out.lt)
      have HN2 : Hid (w2.heap[w.heap.size]? = some (.cells #[.int .i64 a, .int .i64 f, .int .i64 t, .slice xa xs.length xc, .slice ra rn rc] 86)) := (hb2.block _ (Array.getElem?_eq_some_iff.1 (HN.out wk hBk.out)).1).trans (HN.out wk hBk.out)
      have Hoff : Hid (0 < Z → off = A) := hoff
      clear hb2 p0 p1 p2 p3 p4 hoff hoffW HRW
      go_wp2_with fail
      go_loopw [32] (fun iv wr => ∃ k : Nat, iv = .int .i64 (k : Int) ∧ k ≤ Z ∧ Hid (BoolsIs wr S N (Od.asgB g A k (Od.pickP rows xs l))) ∧ Hid (Sp S B w2 wr)) (fun iv _ => Z - (intOf iv).toNat)
      case atStart => exact ⟨0, rfl, Nat.zero_le _, HR2, Sp.refl _ _ _⟩
      case round =>
        obtain ⟨j, rfl, hj, hRj, hSj⟩ := hrel
        clear HR2
        rename World => wq
        by_cases hjl : j < Z
        · have hjI : (j : Int) < (Z : Int) := by omega
          obtain rfl : off = A := Hoff.out (by omega)
          obtain ⟨E, hE1, _, hE3⟩ : ∃ E, Value.slice ra rn rc = .slice (some ⟨E, 0, none⟩) rows.length rows.length ∧ B2 ≤ E ∧ w.rowIs E 104 (rows.length * 8) (fun i => .int .i64 (Od.ent rows i)) := by
            rcases HEr.out with ⟨h1, _⟩ | h1
            · have := HZr.out; rw [h1] at this; simp at this; omega
            · exact h1
          have hES := HS2.out E hE1
          injection hE1 with e1 e2 e3
          subst e1 e2 e3
          have hEq : wq.rowIs E 104 (rows.length * 8) (fun i => .int .i64 (Od.ent rows i)) := hE3.of_block ((hSj.out.off.block E (Nat.lt_of_lt_of_le hE3.lt HS2p.out.size) hES).trans (HS2p.out.block E hE3.lt))
          have hHq : wq.rowIs W0.heap.size 104 8 (fun i => .int .i64 (Od.hereV xs l i)) := HH2.out.of_block (hSj.out.off.block _ HH2.out.lt (fun e => by have := Hs0.out; have := HSl.out; omega))
          have hNq := (hSj.out.off.block w.heap.size (Array.getElem?_eq_some_iff.1 HN2.out).1 (fun e => by have := HSl.out; omega)).trans HN2.out
          have hj8 : ∀ c, c < 8 → j * 8 + c < rows.length * 8 := fun c hc => by have := HZr.out; omega
          have HPa : Hid (Pa w.heap.size E W0.heap.size j (.slice (some ⟨E, 0, none⟩) rows.length rows.length) (Od.ent rows) (Od.hereV xs l) wq.drew wq.drew) := ⟨(box5 hNq).1.2.2.2.2, ⟨hEq.cell (hj8 0 (by omega)), hEq.cell (hj8 1 (by omega)), hEq.cell (hj8 2 (by omega)), hEq.cell (hj8 3 (by omega)), hEq.cell (hj8 4 (by omega)), hEq.cell (hj8 5 (by omega)), hEq.cell (hj8 6 (by omega)), hEq.cell (hj8 7 (by omega))⟩, ⟨hHq.cell (by omega), hHq.cell (by omega), hHq.cell (by omega), hHq.cell (by omega), hHq.cell (by omega), hHq.cell (by omega), hHq.cell (by omega), hHq.cell (by omega)⟩, rfl⟩
          obtain ⟨bb, hbb⟩ : ∃ b, Od.pickP rows xs l j = b := ⟨_, rfl⟩
          have heq := ent_eql (Od.ent rows (j * 8)) (Od.ent rows (j * 8 + 1)) (Od.ent rows (j * 8 + 2)) (Od.ent rows (j * 8 + 3)) (Od.ent rows (j * 8 + 4)) (Od.ent rows (j * 8 + 5)) (Od.ent rows (j * 8 + 6)) (Od.ent rows (j * 8 + 7)) (Od.hereV xs l 0) (Od.hereV xs l 1) (Od.hereV xs l 2) (Od.hereV xs l 3) (Od.hereV xs l 4) (Od.hereV xs l 5) (Od.hereV xs l 6) (Od.hereV xs l 7)
          rw [show (Od.ent rows (j * 8) == Od.hereV xs l 0 && Od.ent rows (j * 8 + 1) == Od.hereV xs l 1 && Od.ent rows (j * 8 + 2) == Od.hereV xs l 2 && Od.ent rows (j * 8 + 3) == Od.hereV xs l 3 && Od.ent rows (j * 8 + 4) == Od.hereV xs l 4 && Od.ent rows (j * 8 + 5) == Od.hereV xs l 5 && Od.ent rows (j * 8 + 6) == Od.hereV xs l 6 && Od.ent rows (j * 8 + 7) == Od.hereV xs l 7) = bb from hbb] at heq
          have rc := World.rowIs.cell hRj.out (i := off + j) (by have := HA0.out; omega)
          have rz := World.rowIs.frozen hRj.out (off + j)
          have HRn : Hid (BoolsIs (wq.setCell ⟨S, off + j, none⟩ (.bool bb)) S N (Od.asgB g off (j + 1) (Od.pickP rows xs l))) := hRj.out.set (off + j) bb fun i => by rw [← hbb]; exact Od.asgB_next g off j (Od.pickP rows xs l) i
          have HSn : Hid (Sp S B w2 (wq.setCell ⟨S, off + j, none⟩ (.bool bb))) := hSj.out.trans (Sp.set _ HBS.out)
          have hjr : (j : Int) < (rows.length : Int) := by have := HZr.out; omega
          clear hbb hEq hHq hNq hE3 hES hj8
          go_wp2_with fail
          refine wp_region_T (fun _ => True) (Pa w.heap.size E W0.heap.size j (.slice (some ⟨E, 0, none⟩) rows.length rows.length) (Od.ent rows) (Od.hereV xs l) wq.drew) [10] (by kernel_rfl) ⟨trivial, HPa.out⟩ (fun hHeld => ?_)
          unfold Pa at hHeld ⊢
          have rc' : wq.drew.cell? ⟨S, off + j, none⟩ = _ := rc
          have rz' : wq.drew.frozen? ⟨S, off + j, none⟩ = false := rz
          refine wpAnyT_takeB (i := 0) (oi := ⟨some 35, .move (.tmp 9), _, _, _, _⟩) (v := ?vR11c1x0) rfl (by kernel_rfl) (by kernel_rfl) (by kernel_rfl) (by kernel_rfl) (fun _ _ _ h => h) (Or.inl ⟨by rfl, ?hyR11c1x0⟩) (by assumption) ?restR11c1x0
          case hyR11c1x0 => (intro w hSw; (try dsimp only at hSw); go_simp; try (with_reducible rfl))
          try simp only [Act.put, List.setIfInBounds_toArray, List.set_cons_zero, List.set_cons_succ]
          refine wpAnyT_takeB (i := 1) (oi := ⟨some 36, .move (.tmp 10), _, _, _, _⟩) (v := ?vR11c1x1) rfl (by kernel_rfl) (by kernel_rfl) (by kernel_rfl) (by kernel_rfl) (fun _ _ _ h => h) (Or.inl ⟨by rfl, ?hyR11c1x1⟩) (by assumption) ?restR11c1x1
          case hyR11c1x1 => (intro w hSw; (try dsimp only at hSw); go_simp; try (with_reducible rfl))
          try simp only [Act.put, List.setIfInBounds_toArray, List.set_cons_zero, List.set_cons_succ]
          refine wpAnyT_takeB (i := 2) (oi := ⟨some 37, .fieldAddr 86 (.tmp 3) 2, _, _, _, _⟩) (v := ?vR11c1x2) rfl (by kernel_rfl) (by kernel_rfl) (by kernel_rfl) (by kernel_rfl) (fun _ _ _ h => h) (Or.inl ⟨by rfl, ?hyR11c1x2⟩) (by assumption) ?restR11c1x2
          case hyR11c1x2 => (intro w hSw; (try dsimp only at hSw); go_simp; try (with_reducible rfl))
          try simp only [Act.put, List.setIfInBounds_toArray, List.set_cons_zero, List.set_cons_succ]
          refine wpAnyT_take (i := 3) (oi := ⟨some 38, .load 84 (.tmp 37), _, _, _, _⟩) (v := ?vR11c1x3) rfl (by kernel_rfl) (by kernel_rfl) (by kernel_rfl) (by kernel_rfl) (by kernel_rfl) (fun _ _ _ h => h) (Or.inl ⟨by rfl, ?hyR11c1x3⟩) (by assumption) ?restR11c1x3
          case hyR11c1x3 => (intro w hSw; (try dsimp only at hSw); go_simp; try (with_reducible rfl))
          try simp only [Act.put, List.setIfInBounds_toArray, List.set_cons_zero, List.set_cons_succ]
          refine wpAnyT_takeB (i := 4) (oi := ⟨some 39, .move (.tmp 10), _, _, _, _⟩) (v := ?vR11c1x4) rfl (by kernel_rfl) (by kernel_rfl) (by kernel_rfl) (by kernel_rfl) (fun _ _ _ h => h) (Or.inl ⟨by rfl, ?hyR11c1x4⟩) (by assumption) ?restR11c1x4
          case hyR11c1x4 => (intro w hSw; (try dsimp only at hSw); go_simp; try (with_reducible rfl))
          try simp only [Act.put, List.setIfInBounds_toArray, List.set_cons_zero, List.set_cons_succ]
          refine wpAnyT_takeB (i := 5) (oi := ⟨some 40, .indexAddr 84 (.tmp 38) (.tmp 39), _, _, _, _⟩) (v := ?vR11c1x5) rfl (by kernel_rfl) (by kernel_rfl) (by kernel_rfl) (by kernel_rfl) (fun _ _ _ h => h) (Or.inl ⟨by rfl, ?hyR11c1x5⟩) (by assumption) ?restR11c1x5
          case hyR11c1x5 => (intro w hSw; (try dsimp only at hSw); go_simp; try (with_reducible rfl))
          try simp only [Act.put, List.setIfInBounds_toArray, List.set_cons_zero, List.set_cons_succ]
          refine wpAnyT_take (i := 6) (oi := ⟨some 41, .load 104 (.tmp 40), _, _, _, _⟩) (v := ?vR11c1x6) rfl (by kernel_rfl) (by kernel_rfl) (by kernel_rfl) (by kernel_rfl) (by kernel_rfl) (fun _ _ _ h => h) (Or.inl ⟨by rfl, ?hyR11c1x6⟩) (by assumption) ?restR11c1x6
          case hyR11c1x6 => (intro w hSw; (try dsimp only at hSw); go_simp; try (with_reducible rfl))
          try simp only [Act.put, List.setIfInBounds_toArray, List.set_cons_zero, List.set_cons_succ]
          refine wpAnyT_take (i := 7) (oi := ⟨some 42, .load 104 (.tmp 6), _, _, _, _⟩) (v := ?vR11c1x7) rfl (by kernel_rfl) (by kernel_rfl) (by kernel_rfl) (by kernel_rfl) (by kernel_rfl) (fun _ _ _ h => h) (Or.inl ⟨by rfl, ?hyR11c1x7⟩) (by assumption) ?restR11c1x7
          case hyR11c1x7 => (intro w hSw; (try dsimp only at hSw); go_simp; try (with_reducible rfl))
          try simp only [Act.put, List.setIfInBounds_toArray, List.set_cons_zero, List.set_cons_succ]
          refine wpAnyT_takeB (i := 8) (oi := ⟨some 43, .binOp .eql 104 (.tmp 41) (.tmp 42) 104, _, _, _, _⟩) (v := ?vR11c1x8) rfl (by kernel_rfl) (by kernel_rfl) (by kernel_rfl) (by kernel_rfl) (fun _ _ _ h => h) (Or.inl ⟨by rfl, ?hyR11c1x8⟩) (by assumption) ?restR11c1x8
          case hyR11c1x8 => (intro w hSw; (try dsimp only at hSw); go_simp; try (with_reducible rfl))
          try simp only [Act.put, List.setIfInBounds_toArray, List.set_cons_zero, List.set_cons_succ]
          refine wpAnyT_takeB (i := 9) (oi := ⟨some 44, .indexAddr 46 (.tmp 35) (.tmp 36), _, _, _, _⟩) (v := ?vR11c1x9) rfl (by kernel_rfl) (by kernel_rfl) (by kernel_rfl) (by kernel_rfl) (fun _ _ _ h => h) (Or.inl ⟨by rfl, ?hyR11c1x9⟩) (by assumption) ?restR11c1x9
          case hyR11c1x9 => (intro w hSw; (try dsimp only at hSw); go_simp; try (with_reducible rfl))
          try simp only [Act.put, List.setIfInBounds_toArray, List.set_cons_zero, List.set_cons_succ]
          refine wpAnyT_late (i := 10) (o := ⟨none, .store 4 (.tmp 44) (.tmp 43), _, _, _, _⟩) (by kernel_rfl) rfl (by kernel_rfl) (fun K hK => ?_)
          go_simp
          refine hK.out _ _ ?shR11c1x10 ?restR11c1x10
          case shR11c1x10 => ((try dsimp only); all_goals trivial)
          clear hK K
          try simp only [Act.put, List.setIfInBounds_toArray, List.set_cons_zero, List.set_cons_succ]
          refine wpAnyT_done (by kernel_rfl) ?_ _
          clear rc' rz' hHeld heq
          go_wp2_with fail
          go_roundw
          case rel => exact ⟨j + 1, by go_num, by omega, HRn.out.next (Below.refl _ _).drew, HSn.out.trans (Sp.of_below (Below.refl _ _).drew (by have := HBS.out; have := HSl.out; have := HS2p.out.size; have := HSn.out.size; omega))⟩
          case measure => simp [intOf]; omega
        · have hjI : ¬ (j : Int) < (Z : Int) := by omega
          obtain rfl : j = Z := by omega
          go_wp2_with fail
          go_end0
          exact ⟨rfl, hRj.out, (Sp.of_below HS2p.out (by have := HBS.out; have := HSl.out; omega)).trans hSj.out⟩
end Go.Proofs.Ytkgeknlmkkoobaa
