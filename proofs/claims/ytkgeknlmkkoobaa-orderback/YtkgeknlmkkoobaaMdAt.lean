/-
  Lists of ints, of terms, of rows in memory; a constraint.
-/
import Derived.Test.YtkgeknlmkkoobaaMdRef
namespace Go.Proofs.Ytkgeknlmkkoobaa
open Go.RowKit

/-- A slice of ints. -/
def IntsAt (w : World) (v : Value) (l : List Int) : Prop :=
  ∃ a cap, v = .slice a l.length cap ∧ l.length ≤ maxLen ∧ (0 < l.length → ∃ b off, a = some ⟨b, off, none⟩ ∧ b < w.heap.size ∧ ∀ j (h : j < l.length), w.cell? ⟨b, off + j, none⟩ = some (.int .i64 l[j]))
/-- A slice of terms. -/
def TermsAt (w : World) (v : Value) (l : List (Int × Int)) : Prop :=
  ∃ a cap, v = .slice a l.length cap ∧ l.length ≤ maxLen ∧ (0 < l.length → ∃ b off, a = some ⟨b, off, none⟩ ∧ b < w.heap.size ∧
    ∀ j (h : j < l.length), w.cell? ⟨b, off + j * 2, none⟩ = some (.int .i64 l[j].1) ∧ w.cell? ⟨b, off + j * 2 + 1, none⟩ = some (.int .i64 l[j].2))
/-- A slice of slices of ints. -/
def RowsAt (w : World) (v : Value) (l : List (List Int)) : Prop :=
  ∃ a cap, v = .slice a l.length cap ∧ l.length ≤ maxLen ∧ (0 < l.length → ∃ b off, a = some ⟨b, off, none⟩ ∧ b < w.heap.size ∧
    ∀ j (h : j < l.length), ∃ u, w.cell? ⟨b, off + j, none⟩ = some u ∧ IntsAt w u l[j])
/-- A constraint's value. -/
def cnVal (c : Md.Cn) (vt vx vb vr : Value) : Value :=
  .agg #[.int .i64 c.kind, .int .i64 c.op, vt, .int .i64 c.k, .int .i64 c.v, .int .i64 c.x, .int .i64 c.y, vx, vb, vr]
/-- Its lists. -/
structure CnAt (w : World) (c : Md.Cn) (vt vx vb vr : Value) : Prop where
  t : TermsAt w vt c.terms
  x : IntsAt w vx c.xs
  xcap : ∀ a n cp, vx = .slice a n cp → n ≤ cp
  b : IntsAt w vb c.table
  r : RowsAt w vr c.rows

theorem IntsAt.mono {w w' : World} {v : Value} {l : List Int} (h : IntsAt w v l) (hs : w.heap.size ≤ w'.heap.size) (hb : ∀ b o, b < w.heap.size → w'.cell? ⟨b, o, none⟩ = w.cell? ⟨b, o, none⟩) : IntsAt w' v l := by
  obtain ⟨a, cap, hv, hl, hc⟩ := h
  refine ⟨a, cap, hv, hl, fun h0 => ?_⟩
  obtain ⟨b, off, ha, hbs, hcell⟩ := hc h0
  exact ⟨b, off, ha, Nat.lt_of_lt_of_le hbs hs, fun j hj => (hb _ _ hbs).trans (hcell j hj)⟩
theorem IntsAt.below {w w' : World} {v : Value} {l : List Int} (h : IntsAt w v l) (hb : Below w.heap.size w w') : IntsAt w' v l := h.mono hb.size (bcell hb).1
theorem TermsAt.below {w w' : World} {v : Value} {l : List (Int × Int)} (h : TermsAt w v l) (hb : Below w.heap.size w w') : TermsAt w' v l := by
  obtain ⟨a, cap, hv, hl, hc⟩ := h
  refine ⟨a, cap, hv, hl, fun h0 => ?_⟩
  obtain ⟨b, off, ha, hbs, hcell⟩ := hc h0
  exact ⟨b, off, ha, Nat.lt_of_lt_of_le hbs hb.size, fun j hj => ⟨((bcell hb).1 _ _ hbs).trans (hcell j hj).1, ((bcell hb).1 _ _ hbs).trans (hcell j hj).2⟩⟩
theorem RowsAt.below {w w' : World} {v : Value} {l : List (List Int)} (h : RowsAt w v l) (hb : Below w.heap.size w w') : RowsAt w' v l := by
  obtain ⟨a, cap, hv, hl, hc⟩ := h
  refine ⟨a, cap, hv, hl, fun h0 => ?_⟩
  obtain ⟨b, off, ha, hbs, hcell⟩ := hc h0
  refine ⟨b, off, ha, Nat.lt_of_lt_of_le hbs hb.size, fun j hj => ?_⟩
  obtain ⟨u, hu, hI⟩ := hcell j hj
  exact ⟨u, ((bcell hb).1 _ _ hbs).trans hu, hI.below hb⟩
theorem CnAt.below {w w' : World} {c : Md.Cn} {vt vx vb vr : Value} (h : CnAt w c vt vx vb vr) (hb : Below w.heap.size w w') : CnAt w' c vt vx vb vr :=
  ⟨h.t.below hb, h.x.below hb, h.xcap, h.b.below hb, h.r.below hb⟩
theorem IntsAt.form {w : World} {v : Value} {l : List Int} (h : IntsAt w v l) : ∃ a cap, v = .slice a l.length cap ∧ l.length ≤ maxLen := by
  obtain ⟨a, cap, hv, hl, _⟩ := h
  exact ⟨a, cap, hv, hl⟩
theorem TermsAt.form {w : World} {v : Value} {l : List (Int × Int)} (h : TermsAt w v l) : ∃ a cap, v = .slice a l.length cap ∧ l.length ≤ maxLen := by
  obtain ⟨a, cap, hv, hl, _⟩ := h
  exact ⟨a, cap, hv, hl⟩
theorem RowsAt.form {w : World} {v : Value} {l : List (List Int)} (h : RowsAt w v l) : ∃ a cap, v = .slice a l.length cap ∧ l.length ≤ maxLen := by
  obtain ⟨a, cap, hv, hl, _⟩ := h
  exact ⟨a, cap, hv, hl⟩

set_option maxHeartbeats 400000 in
theorem every_num (v : Value) (l : List Int) (w : World) (h : IntsAt w v l) : Calls Try.prog 69 #[v, .func (.func 51) #[] #[]] w fun e w' => e = .returned (.bool (l.all Md.numB)) ∧ w' = w := by
  obtain ⟨a, cap, rfl, hm, hc⟩ := h
  unfold maxLen at hm
  have HC : Hid (0 < l.length → ∃ b off, a = some ⟨b, off, none⟩ ∧ b < w.heap.size ∧ ∀ j (h : j < l.length), w.cell? ⟨b, off + j, none⟩ = some (.int .i64 l[j])) := hc
  have H0 : Hid ((l.take 0).all Md.numB = true) := by show _ = _; simp
  clear hc
  go_enter Try.func69, Try.ntmps69
  go_wp2
  go_loop [9] (fun iv => ∃ k : Nat, iv = .int .i64 (k : Int) ∧ k ≤ l.length ∧ Hid ((l.take k).all Md.numB = true)) (fun iv => l.length - (intOf iv).toNat)
  case atStart => exact ⟨0, rfl, Nat.zero_le _, H0⟩
  case round =>
    obtain ⟨k, rfl, hk, hA⟩ := hrel
    clear H0
    by_cases hlt : k < l.length
    · obtain ⟨b, off, rfl, hb, hc⟩ := HC.out (by omega)
      have hcell := hc k hlt
      have hkI : (k : Int) < (l.length : Int) := by omega
      clear hc
      cases hp : Md.numB l[k]
      · have hres : Hid (l.all Md.numB = false) := Md.all_stop hlt hp
        generalize l[k] = x at *
        go_wp2_with (go_at_call 51; refine (isNumber_any _ _).mono ?_; rintro e w' ⟨rfl, rfl⟩)
        go_ret
        exact ⟨ret_bool hres.out.symm, rfl⟩
      · have hres : Hid ((l.take (k + 1)).all Md.numB = true) := Md.all_next hA.out hlt hp
        generalize l[k] = x at *
        go_wp2_with (go_at_call 51; refine (isNumber_any _ _).mono ?_; rintro e w' ⟨rfl, rfl⟩)
        go_round
        case rel => exact ⟨k + 1, by go_num, by omega, hres⟩
        case measure => simp [intOf]; omega
    · have hkI : ¬ (k : Int) < (l.length : Int) := by omega
      have hres : Hid (l.all Md.numB = true) := Md.all_done hA.out (by omega)
      go_wp2
      go_ret
      exact ⟨ret_bool hres.out.symm, rfl⟩
end Go.Proofs.Ytkgeknlmkkoobaa
