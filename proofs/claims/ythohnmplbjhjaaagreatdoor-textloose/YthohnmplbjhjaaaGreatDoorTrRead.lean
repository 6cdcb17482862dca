/-
  A line that is read: what each kind of lines says.
-/
import Derived.Test.YthohnmplbjhjaaaGreatDoorTrRows
import Derived.Test.YthohnmplbjhjaaaGreatDoorTpForms
namespace Go.Proofs.YthohnmplbjhjaaaGreatDoor
open Go Go.RowKit Go.Shelf Go.Lib

/-- What a line says, in memory; its lists lie in rows of their own. -/
structure SyIs (B S : Nat) (y : Sy) (vt vx vb vr : Value) (W : World) : Prop where
  c : W.heap[S]? = some (.cells (sayC y.v.name y.v.lo y.v.hi y.c.kind y.c.op vt y.c.k y.c.v y.c.x y.c.y vx vb vr) 74 (0, 0))
  t : W.ownsRow B 87 2 vt y.c.terms.length (encL encT y.c.terms)
  x : W.ownsRow B 3 1 vx y.c.xs.length (encL encI y.c.xs)
  b : W.ownsRow B 3 1 vb y.c.table.length (encL encI y.c.table)
  r : ∃ vs D, W.ownsRow B 58 1 vr y.c.rows.length vs ∧ RowsW W B D vs y.c.rows
def SyAt (B S : Nat) (y : Sy) (W : World) : Prop := ∃ vt vx vb vr, SyIs B S y vt vx vb vr W
/-- How a call ends that reads what a line says. -/
def SO (w0 : World) (V : List Md.Vr) (va : Value) (b S B : Nat) (r : Sy × St) (w : World) (e : Ending) (w' : World) : Prop := e = .returned (.tuple #[]) ∧ Ln w0 V va b r.2 w' ∧ Ofw (fun k => k = b ∨ k = S) w w' ∧ SyAt B S r.1 w'
theorem own_say {w w' : World} {B : Nat} {e : TypeId} {size : Nat} {v : Value} {n : Nat} {xs : List Value} {S : Nat} {cs : Array Value} (h : w.ownsRow B e size v n xs) (he : e ≠ 74) (hS : w.heap[S]? = some (.cells cs 74 (0, 0))) (o : Ofw (fun k => k = S) w w') : w'.ownsRow B e size v n xs :=
  own_ofw h (fun g hg eg => by
    obtain ⟨_, cur, hc⟩ := own_type h hg
    have e' : g = S := eg
    rw [e', hS] at hc
    injection hc with hc
    injection hc with _ hc _
    exact he hc.symm) o
theorem own_line {w w' : World} {B : Nat} {e : TypeId} {size : Nat} {v : Value} {n : Nat} {xs : List Value} {w0 : World} {V : List Md.Vr} {va : Value} {b : Nat} {s : St} (h : w.ownsRow B e size v n xs) (he : e ≠ 115) (hl : Ln w0 V va b s w) (o : Ofw (fun k => k = b) w w') : w'.ownsRow B e size v n xs :=
  own_ofw h (fun g hg eg => by
    obtain ⟨_, cur, hc⟩ := own_type h hg
    have e' : g = b := eg
    rw [e', hl.o] at hc
    injection hc with hc
    injection hc with _ hc _
    exact he hc.symm) o
theorem rows_say {w w' : World} {B D : Nat} {vs : List Value} {rs : List (List Int)} {S : Nat} {cs : Array Value} (h : RowsW w B D vs rs) (hS : w.heap[S]? = some (.cells cs 74 (0, 0))) (o : Ofw (fun k => k = S) w w') : RowsW w' B D vs rs :=
  h.keep o (fun k hk => .inr (fun c e => by
    have hk' : k = S := hk
    rw [hk', hS] at e
    injection e with e
    injection e with _ e _
    cases e))
theorem st_say (w : World) (S i : Nat) (v : Value) : Ofw (fun k => k = S) w (w.setCell ⟨S, i, none⟩ v) := Ofw.set _ rfl
theorem rows_none (w : World) (B D : Nat) : RowsW w B D [] [] := ⟨rfl, fun j u r hu _ => by simp at hu⟩
theorem nil_own (w : World) (B : Nat) (e : TypeId) (size : Nat) : w.ownsRow B e size (.slice none 0 0) 0 [] := World.ownsRow_nil w B e size
theorem sy_line {w w' : World} {B S : Nat} {y : Sy} {w0 : World} {V : List Md.Vr} {va : Value} {b : Nat} {s : St} (h : SyAt B S y w) (hl : Ln w0 V va b s w) (o : Ofw (fun k => k = b) w w') : SyAt B S y w' := by
  obtain ⟨vt, vx, vb, vr, h⟩ := h
  have hne : S ≠ b := fun e => by
    have h1 := h.c
    rw [e, hl.o] at h1
    injection h1 with h1
    injection h1 with _ h1 _
    cases h1
  obtain ⟨vs, D, hr, hrs⟩ := h.r
  exact ⟨vt, vx, vb, vr, (o.block S (Array.getElem?_eq_some_iff.1 h.c).1 hne).trans h.c, own_line h.t (by decide) hl o, own_line h.x (by decide) hl o, own_line h.b (by decide) hl o, vs, D, own_line hr (by decide) hl o, hrs.keep o (fun k hk => .inr (fun c e => by
    have hk' : k = b := hk
    rw [hk', hl.o] at e
    injection e with e
    injection e with _ e _
    cases e))⟩

set_option maxRecDepth 10000 in
set_option maxHeartbeats 2000000 in
theorem read_max {w0 : World} {V : List Md.Vr} {va : Value} {b : Nat} {s : St} (S B : Nat) (K : Int) (w : World) (h : Ln w0 V va b s w) (hS : w.heap[S]? = some (.cells (sayC ⟨#[]⟩ 0 0 K 0 (.slice none 0 0) 0 0 0 0 (.slice none 0 0) (.slice none 0 0) (.slice none 0 0)) 74 (0, 0))) (hSw : w0.heap.size ≤ S) (hB : B ≤ w.heap.size) : Calls Tryz.prog 70 #[.pointer (some ⟨b, 0, none⟩), .pointer (some ⟨S, 0, none⟩)] w (SO w0 V va b S B (fMax V K s) w) := by
  have hne : S ≠ b := fun e => by rw [e, h.o] at hS; injection hS with hS; injection hS with _ hS _; cases hS
  obtain ⟨a0, ha0⟩ : ∃ a, (nameT V s).1 = a := ⟨_, rfl⟩
  obtain ⟨s1, hs1⟩ : ∃ t, (nameT V s).2 = t := ⟨_, rfl⟩
  have H0 : Hid (∀ w', Ln w0 V va b s w' → Calls Tryz.prog 71 #[.pointer (some ⟨b, 0, none⟩)] w' (RO w0 V va b (.int .i64 a0) s1 w')) := fun w' h' => by
    have := name_any w' h'
    rw [ha0, hs1] at this
    exact this
  obtain ⟨a1, ha1⟩ : ∃ a, (rdList (knownT V) s1).1 = a := ⟨_, rfl⟩
  obtain ⟨s2, hs2⟩ : ∃ t, (rdList (knownT V) s1).2 = t := ⟨_, rfl⟩
  have H1 : Hid (∀ w', Ln w0 V va b s1 w' → Calls Tryz.prog 72 #[.pointer (some ⟨b, 0, none⟩)] w' (RL w0 V va b 3 1 a1.length (encL encI a1) s2 w')) := fun w' h' => by
    have := names_read w' h'
    rw [ha1, hs2] at this
    exact this
  have he : fMax V K s = ((⟨zv, ⟨K, 0, [], 0, 0, 0, a0, a1, [], []⟩⟩ : Sy), s2) := by
    unfold fMax
    simp only [ha0, hs1, ha1, hs2]
  rw [he]
  have HL0 : Hid (Ln w0 V va b s w) := h
  have HS0 : Hid (w.heap[S]? = some (.cells (sayC ⟨#[]⟩ 0 0 K 0 (.slice none 0 0) 0 0 0 0 (.slice none 0 0) (.slice none 0 0) (.slice none 0 0)) 74 (0, 0))) := hS
  have HSz : Hid (S < w.heap.size ∧ B ≤ w.heap.size ∧ w0.heap.size ≤ S ∧ S ≠ b) := ⟨(Array.getElem?_eq_some_iff.1 hS).1, hB, hSw, hne⟩
  clear h hS hSw hB hne he ha0 hs1 ha1 hs2
  go_enter Tryz.func70, Tryz.ntmps70
  go_wp2_with (first
    | (go_at_call 71; refine calls_at (H0.out _ HL0.out) (by with_reducible rfl) (by with_reducible rfl) ?_; rintro e w1 ⟨rfl, h1, o1⟩; (have O1 : Hid (Ofw (fun k => k = b) w w1) := o1); (have L1 : Hid (Ln w0 V va b s1 w1) := h1); clear h1 o1)
    | (go_at_call 72; refine calls_at (H1.out _ L1.out) (by with_reducible rfl) (by with_reducible rfl) ?_; rintro e w2 ⟨v1, rfl, h1, o1, r1⟩; obtain ⟨ad1, cp1, hv⟩ := own_slice r1; subst hv; (have O2 : Hid (Ofw (fun k => k = b) w w2) := O1.out.trans o1); (have L2 : Hid (Ln w0 V va b s2 w2) := h1); (have R1 : Hid (w2.ownsRow B 3 1 (.slice ad1 a1.length cp1) a1.length (encL encI a1)) := own_base r1 (Nat.le_trans HSz.out.2.1 O1.out.size)); clear r1; clear h1 o1; (have HSn : Hid (w2.heap[S]? = some (.cells (sayC ⟨#[]⟩ 0 0 K 0 (.slice none 0 0) 0 0 0 0 (.slice none 0 0) (.slice none 0 0) (.slice none 0 0)) 74 (0, 0))) := (O2.out.block S HSz.out.1 HSz.out.2.2.2).trans HS0.out); (have c9 := cell_of HSn.out 9); (have z9 := frozen_of HSn.out 9); (have c10 := cell_of HSn.out 10); (have z10 := frozen_of HSn.out 10)))
  go_end0
  have OF : Hid (Ofw (fun k => k = S) w2 ((w2.setCell ⟨S, 9, none⟩ (.int .i64 a0)).setCell ⟨S, 10, none⟩ (.slice ad1 a1.length cp1))) := (st_say _ _ _ _).trans (st_say _ _ _ _)
  exact ⟨rfl, L2.out.keep (fun k hk => by have hk' : k = S := hk; subst hk'; exact ⟨HSz.out.2.2.1, HSz.out.2.2.2⟩) OF.out, (O2.out.less fun k hk => .inl hk).trans (OF.out.less fun k hk => .inr hk), _, _, _, _, ⟨(set_of (set_of HSn.out 9 _) 10 _), (nil_own _ B 87 2), (own_say R1.out (by decide) HSn.out OF.out), (nil_own _ B 3 1), _, 0, nil_own _ B 58 1, rows_none _ B 0⟩⟩

set_option maxRecDepth 10000 in
set_option maxHeartbeats 2000000 in
theorem read_lin {w0 : World} {V : List Md.Vr} {va : Value} {b : Nat} {s : St} (S B : Nat) (w : World) (h : Ln w0 V va b s w) (hS : w.heap[S]? = some (.cells (sayC ⟨#[]⟩ 0 0 1 0 (.slice none 0 0) 0 0 0 0 (.slice none 0 0) (.slice none 0 0) (.slice none 0 0)) 74 (0, 0))) (hSw : w0.heap.size ≤ S) (hB : B ≤ w.heap.size) : Calls Tryz.prog 79 #[.pointer (some ⟨b, 0, none⟩), .pointer (some ⟨S, 0, none⟩)] w (SO w0 V va b S B (fLin V s) w) := by
  have hne : S ≠ b := fun e => by rw [e, h.o] at hS; injection hS with hS; injection hS with _ hS _; cases hS
  obtain ⟨a0, ha0⟩ : ∃ a, (rdOp s).1 = a := ⟨_, rfl⟩
  obtain ⟨s1, hs1⟩ : ∃ t, (rdOp s).2 = t := ⟨_, rfl⟩
  have H0 : Hid (∀ w', Ln w0 V va b s w' → Calls Tryz.prog 80 #[.pointer (some ⟨b, 0, none⟩)] w' (RO w0 V va b (.int .i64 a0) s1 w')) := fun w' h' => by
    have := op_read w' h'
    rw [ha0, hs1] at this
    exact this
  obtain ⟨a1, ha1⟩ : ∃ a, (rdNumber s1).1 = a := ⟨_, rfl⟩
  obtain ⟨s2, hs2⟩ : ∃ t, (rdNumber s1).2 = t := ⟨_, rfl⟩
  have H1 : Hid (∀ w', Ln w0 V va b s1 w' → Calls Tryz.prog 81 #[.pointer (some ⟨b, 0, none⟩)] w' (RO w0 V va b (.int .i64 a1) s2 w')) := fun w' h' => by
    have := number_any w' h'
    rw [ha1, hs2] at this
    exact this
  obtain ⟨a2, ha2⟩ : ∃ a, (rdList (rdTerm V) s2).1 = a := ⟨_, rfl⟩
  obtain ⟨s3, hs3⟩ : ∃ t, (rdList (rdTerm V) s2).2 = t := ⟨_, rfl⟩
  have H2 : Hid (∀ w', Ln w0 V va b s2 w' → Calls Tryz.prog 82 #[.pointer (some ⟨b, 0, none⟩)] w' (RL w0 V va b 87 2 a2.length (encL encT a2) s3 w')) := fun w' h' => by
    have := sum_read w' h'
    rw [ha2, hs3] at this
    exact this
  have he : fLin V s = ((⟨zv, ⟨1, a0, a2, a1, 0, 0, 0, [], [], []⟩⟩ : Sy), s3) := by
    unfold fLin
    simp only [ha0, hs1, ha1, hs2, ha2, hs3]
  rw [he]
  have HL0 : Hid (Ln w0 V va b s w) := h
  have HS0 : Hid (w.heap[S]? = some (.cells (sayC ⟨#[]⟩ 0 0 1 0 (.slice none 0 0) 0 0 0 0 (.slice none 0 0) (.slice none 0 0) (.slice none 0 0)) 74 (0, 0))) := hS
  have HSz : Hid (S < w.heap.size ∧ B ≤ w.heap.size ∧ w0.heap.size ≤ S ∧ S ≠ b) := ⟨(Array.getElem?_eq_some_iff.1 hS).1, hB, hSw, hne⟩
  clear h hS hSw hB hne he ha0 hs1 ha1 hs2 ha2 hs3
  go_enter Tryz.func79, Tryz.ntmps79
  go_wp2_with (first
    | (go_at_call 80; refine calls_at (H0.out _ HL0.out) (by with_reducible rfl) (by with_reducible rfl) ?_; rintro e w1 ⟨rfl, h1, o1⟩; (have O1 : Hid (Ofw (fun k => k = b) w w1) := o1); (have L1 : Hid (Ln w0 V va b s1 w1) := h1); clear h1 o1)
    | (go_at_call 81; refine calls_at (H1.out _ L1.out) (by with_reducible rfl) (by with_reducible rfl) ?_; rintro e w2 ⟨rfl, h1, o1⟩; (have O2 : Hid (Ofw (fun k => k = b) w w2) := O1.out.trans o1); (have L2 : Hid (Ln w0 V va b s2 w2) := h1); clear h1 o1)
    | (go_at_call 82; refine calls_at (H2.out _ L2.out) (by with_reducible rfl) (by with_reducible rfl) ?_; rintro e w3 ⟨v2, rfl, h1, o1, r1⟩; obtain ⟨ad2, cp2, hv⟩ := own_slice r1; subst hv; (have O3 : Hid (Ofw (fun k => k = b) w w3) := O2.out.trans o1); (have L3 : Hid (Ln w0 V va b s3 w3) := h1); (have R2 : Hid (w3.ownsRow B 87 2 (.slice ad2 a2.length cp2) a2.length (encL encT a2)) := own_base r1 (Nat.le_trans HSz.out.2.1 O2.out.size)); clear r1; clear h1 o1; (have HSn : Hid (w3.heap[S]? = some (.cells (sayC ⟨#[]⟩ 0 0 1 0 (.slice none 0 0) 0 0 0 0 (.slice none 0 0) (.slice none 0 0) (.slice none 0 0)) 74 (0, 0))) := (O3.out.block S HSz.out.1 HSz.out.2.2.2).trans HS0.out); (have c4 := cell_of HSn.out 4); (have z4 := frozen_of HSn.out 4); (have c6 := cell_of HSn.out 6); (have z6 := frozen_of HSn.out 6); (have c5 := cell_of HSn.out 5); (have z5 := frozen_of HSn.out 5)))
  go_end0
  have OF : Hid (Ofw (fun k => k = S) w3 (((w3.setCell ⟨S, 4, none⟩ (.int .i64 a0)).setCell ⟨S, 6, none⟩ (.int .i64 a1)).setCell ⟨S, 5, none⟩ (.slice ad2 a2.length cp2))) := ((st_say _ _ _ _).trans (st_say _ _ _ _)).trans (st_say _ _ _ _)
  exact ⟨rfl, L3.out.keep (fun k hk => by have hk' : k = S := hk; subst hk'; exact ⟨HSz.out.2.2.1, HSz.out.2.2.2⟩) OF.out, (O3.out.less fun k hk => .inl hk).trans (OF.out.less fun k hk => .inr hk), _, _, _, _, ⟨(set_of (set_of (set_of HSn.out 4 _) 6 _) 5 _), (own_say R2.out (by decide) HSn.out OF.out), (nil_own _ B 3 1), (nil_own _ B 3 1), _, 0, nil_own _ B 58 1, rows_none _ B 0⟩⟩

set_option maxRecDepth 10000 in
set_option maxHeartbeats 2000000 in
theorem read_ne {w0 : World} {V : List Md.Vr} {va : Value} {b : Nat} {s : St} (S B : Nat) (w : World) (h : Ln w0 V va b s w) (hS : w.heap[S]? = some (.cells (sayC ⟨#[]⟩ 0 0 2 0 (.slice none 0 0) 0 0 0 0 (.slice none 0 0) (.slice none 0 0) (.slice none 0 0)) 74 (0, 0))) (hSw : w0.heap.size ≤ S) (hB : B ≤ w.heap.size) : Calls Tryz.prog 85 #[.pointer (some ⟨b, 0, none⟩), .pointer (some ⟨S, 0, none⟩)] w (SO w0 V va b S B (fNe V s) w) := by
  have hne : S ≠ b := fun e => by rw [e, h.o] at hS; injection hS with hS; injection hS with _ hS _; cases hS
  obtain ⟨a0, ha0⟩ : ∃ a, (nameT V s).1 = a := ⟨_, rfl⟩
  obtain ⟨s1, hs1⟩ : ∃ t, (nameT V s).2 = t := ⟨_, rfl⟩
  have H0 : Hid (∀ w', Ln w0 V va b s w' → Calls Tryz.prog 71 #[.pointer (some ⟨b, 0, none⟩)] w' (RO w0 V va b (.int .i64 a0) s1 w')) := fun w' h' => by
    have := name_any w' h'
    rw [ha0, hs1] at this
    exact this
  obtain ⟨a1, ha1⟩ : ∃ a, (nameT V s1).1 = a := ⟨_, rfl⟩
  obtain ⟨s2, hs2⟩ : ∃ t, (nameT V s1).2 = t := ⟨_, rfl⟩
  have H1 : Hid (∀ w', Ln w0 V va b s1 w' → Calls Tryz.prog 71 #[.pointer (some ⟨b, 0, none⟩)] w' (RO w0 V va b (.int .i64 a1) s2 w')) := fun w' h' => by
    have := name_any w' h'
    rw [ha1, hs2] at this
    exact this
  obtain ⟨a2, ha2⟩ : ∃ a, (rdNumber s2).1 = a := ⟨_, rfl⟩
  obtain ⟨s3, hs3⟩ : ∃ t, (rdNumber s2).2 = t := ⟨_, rfl⟩
  have H2 : Hid (∀ w', Ln w0 V va b s2 w' → Calls Tryz.prog 81 #[.pointer (some ⟨b, 0, none⟩)] w' (RO w0 V va b (.int .i64 a2) s3 w')) := fun w' h' => by
    have := number_any w' h'
    rw [ha2, hs3] at this
    exact this
  have HEn : Hid (∀ w', Ln w0 V va b s3 w' → Calls Tryz.prog 128 #[.pointer (some ⟨b, 0, none⟩)] w' (RO w0 V va b (.tuple #[]) (endT s3) w')) := fun w' h' => end_any w' h'
  have he : fNe V s = ((⟨zv, ⟨2, 0, [], a2, 0, a0, a1, [], [], []⟩⟩ : Sy), endT s3) := by
    unfold fNe
    simp only [ha0, hs1, ha1, hs2, ha2, hs3]
  rw [he]
  have HL0 : Hid (Ln w0 V va b s w) := h
  have HS0 : Hid (w.heap[S]? = some (.cells (sayC ⟨#[]⟩ 0 0 2 0 (.slice none 0 0) 0 0 0 0 (.slice none 0 0) (.slice none 0 0) (.slice none 0 0)) 74 (0, 0))) := hS
  have HSz : Hid (S < w.heap.size ∧ B ≤ w.heap.size ∧ w0.heap.size ≤ S ∧ S ≠ b) := ⟨(Array.getElem?_eq_some_iff.1 hS).1, hB, hSw, hne⟩
  clear h hS hSw hB hne he ha0 hs1 ha1 hs2 ha2 hs3
  go_enter Tryz.func85, Tryz.ntmps85
  go_wp2_with (first
    | (go_at_call 71; refine calls_at (H0.out _ HL0.out) (by with_reducible rfl) (by with_reducible rfl) ?_; rintro e w1 ⟨rfl, h1, o1⟩; (have O1 : Hid (Ofw (fun k => k = b) w w1) := o1); (have L1 : Hid (Ln w0 V va b s1 w1) := h1); clear h1 o1)
    | (go_at_call 71; refine calls_at (H1.out _ L1.out) (by with_reducible rfl) (by with_reducible rfl) ?_; rintro e w2 ⟨rfl, h1, o1⟩; (have O2 : Hid (Ofw (fun k => k = b) w w2) := O1.out.trans o1); (have L2 : Hid (Ln w0 V va b s2 w2) := h1); clear h1 o1)
    | (go_at_call 81; refine calls_at (H2.out _ L2.out) (by with_reducible rfl) (by with_reducible rfl) ?_; rintro e w3 ⟨rfl, h1, o1⟩; (have O3 : Hid (Ofw (fun k => k = b) w w3) := O2.out.trans o1); (have L3 : Hid (Ln w0 V va b s3 w3) := h1); clear h1 o1; (have HSn : Hid (w3.heap[S]? = some (.cells (sayC ⟨#[]⟩ 0 0 2 0 (.slice none 0 0) 0 0 0 0 (.slice none 0 0) (.slice none 0 0) (.slice none 0 0)) 74 (0, 0))) := (O3.out.block S HSz.out.1 HSz.out.2.2.2).trans HS0.out); (have c8 := cell_of HSn.out 8); (have z8 := frozen_of HSn.out 8); (have c9 := cell_of HSn.out 9); (have z9 := frozen_of HSn.out 9); (have c6 := cell_of HSn.out 6); (have z6 := frozen_of HSn.out 6))
    | (go_at_call 128; obtain ⟨Wf, hWf⟩ : ∃ Wf, (((w3.setCell ⟨S, 8, none⟩ (.int .i64 a0)).setCell ⟨S, 9, none⟩ (.int .i64 a1)).setCell ⟨S, 6, none⟩ (.int .i64 a2)) = Wf := ⟨_, rfl⟩; rw [hWf]; (have OF : Hid (Ofw (fun k => k = S) w3 Wf) := (by rw [← hWf]; exact ((st_say _ _ _ _).trans (st_say _ _ _ _)).trans (st_say _ _ _ _))); (have SF : Hid (SyAt B S (⟨zv, ⟨2, 0, [], a2, 0, a0, a1, [], [], []⟩⟩ : Sy) Wf) := ⟨_, _, _, _, (by rw [← hWf]; exact (set_of (set_of (set_of HSn.out 8 _) 9 _) 6 _)), (by rw [← hWf]; exact (nil_own _ B 87 2)), (by rw [← hWf]; exact (nil_own _ B 3 1)), (by rw [← hWf]; exact (nil_own _ B 3 1)), _, 0, nil_own _ B 58 1, rows_none _ B 0⟩); (have LF : Hid (Ln w0 V va b s3 Wf) := L3.out.keep (fun k hk => by have hk' : k = S := hk; subst hk'; exact ⟨HSz.out.2.2.1, HSz.out.2.2.2⟩) OF.out); clear hWf; refine calls_at (HEn.out _ LF.out) (by with_reducible rfl) (by with_reducible rfl) ?_; rintro e w4 ⟨rfl, h1, o1⟩))
  go_end0
  exact ⟨rfl, h1, ((O3.out.less fun k hk => .inl hk).trans (OF.out.less fun k hk => .inr hk)).trans (o1.less fun k hk => .inl hk), sy_line SF.out LF.out o1⟩

set_option maxRecDepth 10000 in
set_option maxHeartbeats 2000000 in
theorem read_all {w0 : World} {V : List Md.Vr} {va : Value} {b : Nat} {s : St} (S B : Nat) (w : World) (h : Ln w0 V va b s w) (hS : w.heap[S]? = some (.cells (sayC ⟨#[]⟩ 0 0 3 0 (.slice none 0 0) 0 0 0 0 (.slice none 0 0) (.slice none 0 0) (.slice none 0 0)) 74 (0, 0))) (hSw : w0.heap.size ≤ S) (hB : B ≤ w.heap.size) : Calls Tryz.prog 87 #[.pointer (some ⟨b, 0, none⟩), .pointer (some ⟨S, 0, none⟩)] w (SO w0 V va b S B (fAll V s) w) := by
  have hne : S ≠ b := fun e => by rw [e, h.o] at hS; injection hS with hS; injection hS with _ hS _; cases hS
  obtain ⟨a0, ha0⟩ : ∃ a, (rdList (knownT V) s).1 = a := ⟨_, rfl⟩
  obtain ⟨s1, hs1⟩ : ∃ t, (rdList (knownT V) s).2 = t := ⟨_, rfl⟩
  have H0 : Hid (∀ w', Ln w0 V va b s w' → Calls Tryz.prog 72 #[.pointer (some ⟨b, 0, none⟩)] w' (RL w0 V va b 3 1 a0.length (encL encI a0) s1 w')) := fun w' h' => by
    have := names_read w' h'
    rw [ha0, hs1] at this
    exact this
  have he : fAll V s = ((⟨zv, ⟨3, 0, [], 0, 0, 0, 0, a0, [], []⟩⟩ : Sy), s1) := by
    unfold fAll
    simp only [ha0, hs1]
  rw [he]
  have HL0 : Hid (Ln w0 V va b s w) := h
  have HS0 : Hid (w.heap[S]? = some (.cells (sayC ⟨#[]⟩ 0 0 3 0 (.slice none 0 0) 0 0 0 0 (.slice none 0 0) (.slice none 0 0) (.slice none 0 0)) 74 (0, 0))) := hS
  have HSz : Hid (S < w.heap.size ∧ B ≤ w.heap.size ∧ w0.heap.size ≤ S ∧ S ≠ b) := ⟨(Array.getElem?_eq_some_iff.1 hS).1, hB, hSw, hne⟩
  clear h hS hSw hB hne he ha0 hs1
  go_enter Tryz.func87, Tryz.ntmps87
  go_wp2_with (first
    | (go_at_call 72; refine calls_at (H0.out _ HL0.out) (by with_reducible rfl) (by with_reducible rfl) ?_; rintro e w1 ⟨v0, rfl, h1, o1, r1⟩; obtain ⟨ad0, cp0, hv⟩ := own_slice r1; subst hv; (have O1 : Hid (Ofw (fun k => k = b) w w1) := o1); (have L1 : Hid (Ln w0 V va b s1 w1) := h1); (have R0 : Hid (w1.ownsRow B 3 1 (.slice ad0 a0.length cp0) a0.length (encL encI a0)) := own_base r1 (HSz.out.2.1)); clear r1; clear h1 o1; (have HSn : Hid (w1.heap[S]? = some (.cells (sayC ⟨#[]⟩ 0 0 3 0 (.slice none 0 0) 0 0 0 0 (.slice none 0 0) (.slice none 0 0) (.slice none 0 0)) 74 (0, 0))) := (O1.out.block S HSz.out.1 HSz.out.2.2.2).trans HS0.out); (have c10 := cell_of HSn.out 10); (have z10 := frozen_of HSn.out 10)))
  go_end0
  have OF : Hid (Ofw (fun k => k = S) w1 (w1.setCell ⟨S, 10, none⟩ (.slice ad0 a0.length cp0))) := st_say _ _ _ _
  exact ⟨rfl, L1.out.keep (fun k hk => by have hk' : k = S := hk; subst hk'; exact ⟨HSz.out.2.2.1, HSz.out.2.2.2⟩) OF.out, (O1.out.less fun k hk => .inl hk).trans (OF.out.less fun k hk => .inr hk), _, _, _, _, ⟨(set_of HSn.out 10 _), (nil_own _ B 87 2), (own_say R0.out (by decide) HSn.out OF.out), (nil_own _ B 3 1), _, 0, nil_own _ B 58 1, rows_none _ B 0⟩⟩

set_option maxRecDepth 10000 in
set_option maxHeartbeats 2000000 in
theorem read_el {w0 : World} {V : List Md.Vr} {va : Value} {b : Nat} {s : St} (S B : Nat) (w : World) (h : Ln w0 V va b s w) (hS : w.heap[S]? = some (.cells (sayC ⟨#[]⟩ 0 0 4 0 (.slice none 0 0) 0 0 0 0 (.slice none 0 0) (.slice none 0 0) (.slice none 0 0)) 74 (0, 0))) (hSw : w0.heap.size ≤ S) (hB : B ≤ w.heap.size) : Calls Tryz.prog 89 #[.pointer (some ⟨b, 0, none⟩), .pointer (some ⟨S, 0, none⟩)] w (SO w0 V va b S B (fEl V s) w) := by
  have hne : S ≠ b := fun e => by rw [e, h.o] at hS; injection hS with hS; injection hS with _ hS _; cases hS
  obtain ⟨a0, ha0⟩ : ∃ a, (nameT V s).1 = a := ⟨_, rfl⟩
  obtain ⟨s1, hs1⟩ : ∃ t, (nameT V s).2 = t := ⟨_, rfl⟩
  have H0 : Hid (∀ w', Ln w0 V va b s w' → Calls Tryz.prog 71 #[.pointer (some ⟨b, 0, none⟩)] w' (RO w0 V va b (.int .i64 a0) s1 w')) := fun w' h' => by
    have := name_any w' h'
    rw [ha0, hs1] at this
    exact this
  obtain ⟨a1, ha1⟩ : ∃ a, (nameT V s1).1 = a := ⟨_, rfl⟩
  obtain ⟨s2, hs2⟩ : ∃ t, (nameT V s1).2 = t := ⟨_, rfl⟩
  have H1 : Hid (∀ w', Ln w0 V va b s1 w' → Calls Tryz.prog 71 #[.pointer (some ⟨b, 0, none⟩)] w' (RO w0 V va b (.int .i64 a1) s2 w')) := fun w' h' => by
    have := name_any w' h'
    rw [ha1, hs2] at this
    exact this
  obtain ⟨a2, ha2⟩ : ∃ a, (rdList rdValue s2).1 = a := ⟨_, rfl⟩
  obtain ⟨s3, hs3⟩ : ∃ t, (rdList rdValue s2).2 = t := ⟨_, rfl⟩
  have H2 : Hid (∀ w', Ln w0 V va b s2 w' → Calls Tryz.prog 90 #[.pointer (some ⟨b, 0, none⟩)] w' (RL w0 V va b 3 1 a2.length (encL encI a2) s3 w')) := fun w' h' => by
    have := numbers_read w' h'
    rw [ha2, hs3] at this
    exact this
  have he : fEl V s = ((⟨zv, ⟨4, 0, [], 0, 0, a0, a1, [], a2, []⟩⟩ : Sy), s3) := by
    unfold fEl
    simp only [ha0, hs1, ha1, hs2, ha2, hs3]
  rw [he]
  have HL0 : Hid (Ln w0 V va b s w) := h
  have HS0 : Hid (w.heap[S]? = some (.cells (sayC ⟨#[]⟩ 0 0 4 0 (.slice none 0 0) 0 0 0 0 (.slice none 0 0) (.slice none 0 0) (.slice none 0 0)) 74 (0, 0))) := hS
  have HSz : Hid (S < w.heap.size ∧ B ≤ w.heap.size ∧ w0.heap.size ≤ S ∧ S ≠ b) := ⟨(Array.getElem?_eq_some_iff.1 hS).1, hB, hSw, hne⟩
  clear h hS hSw hB hne he ha0 hs1 ha1 hs2 ha2 hs3
  go_enter Tryz.func89, Tryz.ntmps89
  go_wp2_with (first
    | (go_at_call 71; refine calls_at (H0.out _ HL0.out) (by with_reducible rfl) (by with_reducible rfl) ?_; rintro e w1 ⟨rfl, h1, o1⟩; (have O1 : Hid (Ofw (fun k => k = b) w w1) := o1); (have L1 : Hid (Ln w0 V va b s1 w1) := h1); clear h1 o1)
    | (go_at_call 71; refine calls_at (H1.out _ L1.out) (by with_reducible rfl) (by with_reducible rfl) ?_; rintro e w2 ⟨rfl, h1, o1⟩; (have O2 : Hid (Ofw (fun k => k = b) w w2) := O1.out.trans o1); (have L2 : Hid (Ln w0 V va b s2 w2) := h1); clear h1 o1)
    | (go_at_call 90; refine calls_at (H2.out _ L2.out) (by with_reducible rfl) (by with_reducible rfl) ?_; rintro e w3 ⟨v2, rfl, h1, o1, r1⟩; obtain ⟨ad2, cp2, hv⟩ := own_slice r1; subst hv; (have O3 : Hid (Ofw (fun k => k = b) w w3) := O2.out.trans o1); (have L3 : Hid (Ln w0 V va b s3 w3) := h1); (have R2 : Hid (w3.ownsRow B 3 1 (.slice ad2 a2.length cp2) a2.length (encL encI a2)) := own_base r1 (Nat.le_trans HSz.out.2.1 O2.out.size)); clear r1; clear h1 o1; (have HSn : Hid (w3.heap[S]? = some (.cells (sayC ⟨#[]⟩ 0 0 4 0 (.slice none 0 0) 0 0 0 0 (.slice none 0 0) (.slice none 0 0) (.slice none 0 0)) 74 (0, 0))) := (O3.out.block S HSz.out.1 HSz.out.2.2.2).trans HS0.out); (have c8 := cell_of HSn.out 8); (have z8 := frozen_of HSn.out 8); (have c9 := cell_of HSn.out 9); (have z9 := frozen_of HSn.out 9); (have c11 := cell_of HSn.out 11); (have z11 := frozen_of HSn.out 11)))
  go_end0
  have OF : Hid (Ofw (fun k => k = S) w3 (((w3.setCell ⟨S, 8, none⟩ (.int .i64 a0)).setCell ⟨S, 9, none⟩ (.int .i64 a1)).setCell ⟨S, 11, none⟩ (.slice ad2 a2.length cp2))) := ((st_say _ _ _ _).trans (st_say _ _ _ _)).trans (st_say _ _ _ _)
  exact ⟨rfl, L3.out.keep (fun k hk => by have hk' : k = S := hk; subst hk'; exact ⟨HSz.out.2.2.1, HSz.out.2.2.2⟩) OF.out, (O3.out.less fun k hk => .inl hk).trans (OF.out.less fun k hk => .inr hk), _, _, _, _, ⟨(set_of (set_of (set_of HSn.out 8 _) 9 _) 11 _), (nil_own _ B 87 2), (nil_own _ B 3 1), (own_say R2.out (by decide) HSn.out OF.out), _, 0, nil_own _ B 58 1, rows_none _ B 0⟩⟩

set_option maxRecDepth 10000 in
set_option maxHeartbeats 2000000 in
theorem read_count {w0 : World} {V : List Md.Vr} {va : Value} {b : Nat} {s : St} (S B : Nat) (w : World) (h : Ln w0 V va b s w) (hS : w.heap[S]? = some (.cells (sayC ⟨#[]⟩ 0 0 9 0 (.slice none 0 0) 0 0 0 0 (.slice none 0 0) (.slice none 0 0) (.slice none 0 0)) 74 (0, 0))) (hSw : w0.heap.size ≤ S) (hB : B ≤ w.heap.size) : Calls Tryz.prog 97 #[.pointer (some ⟨b, 0, none⟩), .pointer (some ⟨S, 0, none⟩)] w (SO w0 V va b S B (fCount V s) w) := by
  have hne : S ≠ b := fun e => by rw [e, h.o] at hS; injection hS with hS; injection hS with _ hS _; cases hS
  obtain ⟨a0, ha0⟩ : ∃ a, (rdOp s).1 = a := ⟨_, rfl⟩
  obtain ⟨s1, hs1⟩ : ∃ t, (rdOp s).2 = t := ⟨_, rfl⟩
  have H0 : Hid (∀ w', Ln w0 V va b s w' → Calls Tryz.prog 80 #[.pointer (some ⟨b, 0, none⟩)] w' (RO w0 V va b (.int .i64 a0) s1 w')) := fun w' h' => by
    have := op_read w' h'
    rw [ha0, hs1] at this
    exact this
  obtain ⟨a1, ha1⟩ : ∃ a, (rdNumber s1).1 = a := ⟨_, rfl⟩
  obtain ⟨s2, hs2⟩ : ∃ t, (rdNumber s1).2 = t := ⟨_, rfl⟩
  have H1 : Hid (∀ w', Ln w0 V va b s1 w' → Calls Tryz.prog 81 #[.pointer (some ⟨b, 0, none⟩)] w' (RO w0 V va b (.int .i64 a1) s2 w')) := fun w' h' => by
    have := number_any w' h'
    rw [ha1, hs2] at this
    exact this
  obtain ⟨a2, ha2⟩ : ∃ a, (rdNumber s2).1 = a := ⟨_, rfl⟩
  obtain ⟨s3, hs3⟩ : ∃ t, (rdNumber s2).2 = t := ⟨_, rfl⟩
  have H2 : Hid (∀ w', Ln w0 V va b s2 w' → Calls Tryz.prog 81 #[.pointer (some ⟨b, 0, none⟩)] w' (RO w0 V va b (.int .i64 a2) s3 w')) := fun w' h' => by
    have := number_any w' h'
    rw [ha2, hs3] at this
    exact this
  obtain ⟨a3, ha3⟩ : ∃ a, (rdList (knownT V) s3).1 = a := ⟨_, rfl⟩
  obtain ⟨s4, hs4⟩ : ∃ t, (rdList (knownT V) s3).2 = t := ⟨_, rfl⟩
  have H3 : Hid (∀ w', Ln w0 V va b s3 w' → Calls Tryz.prog 72 #[.pointer (some ⟨b, 0, none⟩)] w' (RL w0 V va b 3 1 a3.length (encL encI a3) s4 w')) := fun w' h' => by
    have := names_read w' h'
    rw [ha3, hs4] at this
    exact this
  have he : fCount V s = ((⟨zv, ⟨9, a0, [], a1, a2, 0, 0, a3, [], []⟩⟩ : Sy), s4) := by
    unfold fCount
    simp only [ha0, hs1, ha1, hs2, ha2, hs3, ha3, hs4]
  rw [he]
  have HL0 : Hid (Ln w0 V va b s w) := h
  have HS0 : Hid (w.heap[S]? = some (.cells (sayC ⟨#[]⟩ 0 0 9 0 (.slice none 0 0) 0 0 0 0 (.slice none 0 0) (.slice none 0 0) (.slice none 0 0)) 74 (0, 0))) := hS
  have HSz : Hid (S < w.heap.size ∧ B ≤ w.heap.size ∧ w0.heap.size ≤ S ∧ S ≠ b) := ⟨(Array.getElem?_eq_some_iff.1 hS).1, hB, hSw, hne⟩
  clear h hS hSw hB hne he ha0 hs1 ha1 hs2 ha2 hs3 ha3 hs4
  go_enter Tryz.func97, Tryz.ntmps97
  go_wp2_with (first
    | (go_at_call 80; refine calls_at (H0.out _ HL0.out) (by with_reducible rfl) (by with_reducible rfl) ?_; rintro e w1 ⟨rfl, h1, o1⟩; (have O1 : Hid (Ofw (fun k => k = b) w w1) := o1); (have L1 : Hid (Ln w0 V va b s1 w1) := h1); clear h1 o1)
    | (go_at_call 81; refine calls_at (H1.out _ L1.out) (by with_reducible rfl) (by with_reducible rfl) ?_; rintro e w2 ⟨rfl, h1, o1⟩; (have O2 : Hid (Ofw (fun k => k = b) w w2) := O1.out.trans o1); (have L2 : Hid (Ln w0 V va b s2 w2) := h1); clear h1 o1)
    | (go_at_call 81; refine calls_at (H2.out _ L2.out) (by with_reducible rfl) (by with_reducible rfl) ?_; rintro e w3 ⟨rfl, h1, o1⟩; (have O3 : Hid (Ofw (fun k => k = b) w w3) := O2.out.trans o1); (have L3 : Hid (Ln w0 V va b s3 w3) := h1); clear h1 o1)
    | (go_at_call 72; refine calls_at (H3.out _ L3.out) (by with_reducible rfl) (by with_reducible rfl) ?_; rintro e w4 ⟨v3, rfl, h1, o1, r1⟩; obtain ⟨ad3, cp3, hv⟩ := own_slice r1; subst hv; (have O4 : Hid (Ofw (fun k => k = b) w w4) := O3.out.trans o1); (have L4 : Hid (Ln w0 V va b s4 w4) := h1); (have R3 : Hid (w4.ownsRow B 3 1 (.slice ad3 a3.length cp3) a3.length (encL encI a3)) := own_base r1 (Nat.le_trans HSz.out.2.1 O3.out.size)); clear r1; clear h1 o1; (have HSn : Hid (w4.heap[S]? = some (.cells (sayC ⟨#[]⟩ 0 0 9 0 (.slice none 0 0) 0 0 0 0 (.slice none 0 0) (.slice none 0 0) (.slice none 0 0)) 74 (0, 0))) := (O4.out.block S HSz.out.1 HSz.out.2.2.2).trans HS0.out); (have c4 := cell_of HSn.out 4); (have z4 := frozen_of HSn.out 4); (have c6 := cell_of HSn.out 6); (have z6 := frozen_of HSn.out 6); (have c7 := cell_of HSn.out 7); (have z7 := frozen_of HSn.out 7); (have c10 := cell_of HSn.out 10); (have z10 := frozen_of HSn.out 10)))
  go_end0
  have OF : Hid (Ofw (fun k => k = S) w4 ((((w4.setCell ⟨S, 4, none⟩ (.int .i64 a0)).setCell ⟨S, 6, none⟩ (.int .i64 a1)).setCell ⟨S, 7, none⟩ (.int .i64 a2)).setCell ⟨S, 10, none⟩ (.slice ad3 a3.length cp3))) := (((st_say _ _ _ _).trans (st_say _ _ _ _)).trans (st_say _ _ _ _)).trans (st_say _ _ _ _)
  exact ⟨rfl, L4.out.keep (fun k hk => by have hk' : k = S := hk; subst hk'; exact ⟨HSz.out.2.2.1, HSz.out.2.2.2⟩) OF.out, (O4.out.less fun k hk => .inl hk).trans (OF.out.less fun k hk => .inr hk), _, _, _, _, ⟨(set_of (set_of (set_of (set_of HSn.out 4 _) 6 _) 7 _) 10 _), (nil_own _ B 87 2), (own_say R3.out (by decide) HSn.out OF.out), (nil_own _ B 3 1), _, 0, nil_own _ B 58 1, rows_none _ B 0⟩⟩

set_option maxRecDepth 10000 in
set_option maxHeartbeats 2000000 in
theorem read_goal {w0 : World} {V : List Md.Vr} {va : Value} {b : Nat} {s : St} (S B : Nat) (w : World) (h : Ln w0 V va b s w) (hS : w.heap[S]? = some (.cells (sayC ⟨#[]⟩ 0 0 11 0 (.slice none 0 0) 0 0 0 0 (.slice none 0 0) (.slice none 0 0) (.slice none 0 0)) 74 (0, 0))) (hSw : w0.heap.size ≤ S) (hB : B ≤ w.heap.size) : Calls Tryz.prog 99 #[.pointer (some ⟨b, 0, none⟩), .pointer (some ⟨S, 0, none⟩)] w (SO w0 V va b S B (fGoal V s) w) := by
  have hne : S ≠ b := fun e => by rw [e, h.o] at hS; injection hS with hS; injection hS with _ hS _; cases hS
  obtain ⟨a0, ha0⟩ : ∃ a, (rdList (rdTerm V) s).1 = a := ⟨_, rfl⟩
  obtain ⟨s1, hs1⟩ : ∃ t, (rdList (rdTerm V) s).2 = t := ⟨_, rfl⟩
  have H0 : Hid (∀ w', Ln w0 V va b s w' → Calls Tryz.prog 82 #[.pointer (some ⟨b, 0, none⟩)] w' (RL w0 V va b 87 2 a0.length (encL encT a0) s1 w')) := fun w' h' => by
    have := sum_read w' h'
    rw [ha0, hs1] at this
    exact this
  have he : fGoal V s = ((⟨zv, ⟨11, 0, a0, 0, 0, 0, 0, [], [], []⟩⟩ : Sy), s1) := by
    unfold fGoal
    simp only [ha0, hs1]
  rw [he]
  have HL0 : Hid (Ln w0 V va b s w) := h
  have HS0 : Hid (w.heap[S]? = some (.cells (sayC ⟨#[]⟩ 0 0 11 0 (.slice none 0 0) 0 0 0 0 (.slice none 0 0) (.slice none 0 0) (.slice none 0 0)) 74 (0, 0))) := hS
  have HSz : Hid (S < w.heap.size ∧ B ≤ w.heap.size ∧ w0.heap.size ≤ S ∧ S ≠ b) := ⟨(Array.getElem?_eq_some_iff.1 hS).1, hB, hSw, hne⟩
  clear h hS hSw hB hne he ha0 hs1
  go_enter Tryz.func99, Tryz.ntmps99
  go_wp2_with (first
    | (go_at_call 82; refine calls_at (H0.out _ HL0.out) (by with_reducible rfl) (by with_reducible rfl) ?_; rintro e w1 ⟨v0, rfl, h1, o1, r1⟩; obtain ⟨ad0, cp0, hv⟩ := own_slice r1; subst hv; (have O1 : Hid (Ofw (fun k => k = b) w w1) := o1); (have L1 : Hid (Ln w0 V va b s1 w1) := h1); (have R0 : Hid (w1.ownsRow B 87 2 (.slice ad0 a0.length cp0) a0.length (encL encT a0)) := own_base r1 (HSz.out.2.1)); clear r1; clear h1 o1; (have HSn : Hid (w1.heap[S]? = some (.cells (sayC ⟨#[]⟩ 0 0 11 0 (.slice none 0 0) 0 0 0 0 (.slice none 0 0) (.slice none 0 0) (.slice none 0 0)) 74 (0, 0))) := (O1.out.block S HSz.out.1 HSz.out.2.2.2).trans HS0.out); (have c5 := cell_of HSn.out 5); (have z5 := frozen_of HSn.out 5)))
  go_end0
  have OF : Hid (Ofw (fun k => k = S) w1 (w1.setCell ⟨S, 5, none⟩ (.slice ad0 a0.length cp0))) := st_say _ _ _ _
  exact ⟨rfl, L1.out.keep (fun k hk => by have hk' : k = S := hk; subst hk'; exact ⟨HSz.out.2.2.1, HSz.out.2.2.2⟩) OF.out, (O1.out.less fun k hk => .inl hk).trans (OF.out.less fun k hk => .inr hk), _, _, _, _, ⟨(set_of HSn.out 5 _), (own_say R0.out (by decide) HSn.out OF.out), (nil_own _ B 3 1), (nil_own _ B 3 1), _, 0, nil_own _ B 58 1, rows_none _ B 0⟩⟩
end Go.Proofs.YthohnmplbjhjaaaGreatDoor
