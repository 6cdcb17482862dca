/-
  Package branch: scripts.
-/
import Derived.Test.YtdfbmfikhccajaaDoorMdSrc
import Derived.Test.YtdfbmfikhccajaaDoorJ32
import Derived.Lib.SliceRun
namespace Go.Proofs.YtdfbmfikhccajaaDoor
open Go.RowKit

theorem un38s : Tryd.prog.underlying 22 = some (.slice 3) := by kernel_rfl
theorem info3s : (Tryd.prog.info? 3).map (fun i => (i.zero, i.size, i.bytes)) = some (some (.int .i64 0), 1, 8) := by kernel_rfl
/-- What Clone leaves of ints. -/
def CiOut (L : List Int) (w : World) (e : Ending) (w' : World) : Prop := ∃ v, e = .returned v ∧ w'.ownsRow w.heap.size 3 1 v L.length (L.map (.int .i64)) ∧ Below w.heap.size w w'
set_option maxRecDepth 10000 in
set_option maxHeartbeats 1000000 in
theorem cloneI_any (v : Value) (L : List Int) (w : World) (h : IntsAt w v L) (hl : L.length ≤ 1000000000) : Calls Tryd.prog 20 #[v] w (CiOut L w) := by
  have q57 : ∀ (w : World) (a : Option Addr) (n c n' c' : Nat), (binOp .eql 22 (.slice a n c) (.slice none n' c')).run Tryd.prog w = .ok (.bool a.isNone) w := fun w a n c n' c' => Lib.run_eql_slice_nil w _ _ a n c n' c' un38s
  have hI := h
  obtain ⟨a, cap, rfl, hm, hc⟩ := h
  cases a with
  | none =>
    have h0 : L = [] := by
      cases L with
      | nil => rfl
      | cons x l =>
        obtain ⟨b, off, e, _⟩ := hc (by simp)
        cases e
    subst h0
    clear hc hI hm hl
    go_enter Tryd.func20, Tryd.ntmps20
    go_wp2_with fail
    go_ret
    exact ⟨_, rfl, World.ownsRow_nil _ _ _ _, Below.refl _ _⟩
  | some ad =>
    obtain ⟨W, hW⟩ : ∃ W, w.alloc (.cells #[] 3) = W := ⟨_, rfl⟩
    have hbW : Below w.heap.size w W := by rw [← hW]; exact (Below.refl _ _).alloc (Nat.le_refl _) _
    have HBW : Hid (Below w.heap.size w W) := hbW
    have HO : Hid (W.ownsRow w.heap.size 3 1 (.slice (some ⟨w.heap.size, 0, none⟩) 0 0) 0 []) := by
      refine ⟨rfl, .inr ⟨w.heap.size, 0, #[], rfl, Nat.le_refl _, ?_, Nat.le_refl _, Nat.zero_le _, rfl, rfl⟩⟩
      rw [← hW]; exact heap_alloc_new w _
    have HS : Hid (SrcAt W (.slice (some ad) L.length cap) L.length 1 (L.map (.int .i64))) := (hI.below hbW).src
    clear hc hI hm hbW
    go_enter Tryd.func20, Tryd.ntmps20
    go_wp2_with (first
      | (at_builtin; refine append_src W rfl (.tmp 5) (.tmp 6) 22 3 (.int .i64 0) 1 8 rfl un38s info3s rfl (by decide) w.heap.size _ _ 0 L.length [] _ (by rfl) (by rfl) HO.out HS.out (by unfold maxLen; omega) (by omega) HBW.out.size ?_; intro v1 w1 ho1 hg1 hn1))
    have HO1 : Hid (w1.ownsRow w.heap.size 3 1 v1 L.length (L.map (.int .i64))) := by
      show World.ownsRow _ _ _ _ _ _ _
      rw [Nat.zero_add, List.nil_append] at ho1
      exact ho1
    have HB1 : Hid (Below w.heap.size w w1) := HBW.out.grown hg1 HBW.out.size (fun g hg => by simp [Value.ownBlock] at hg; omega)
    clear ho1 hg1 hn1
    go_wp2_with fail
    go_ret
    exact ⟨_, rfl, HO1.out, HB1.out⟩

/-- A script in memory: its box, and what is left of its list. -/
structure ScAt (B : Nat) (O : Nat → Prop) (w : World) (p : Nat) (L : List Int) : Prop where
  ex : ∃ a cap, w.heap[p]? = some (.cells #[.slice a L.length cap] 32 (0, 0)) ∧ L.length ≤ cap ∧ L.length ≤ 1000000000 ∧ (0 < L.length → ∃ g off, a = some ⟨g, off, none⟩ ∧ O g ∧ g ≠ p ∧ ∀ j (h : j < L.length), w.cell? ⟨g, off + j, none⟩ = some (.int .i64 L[j]))
  op : O p
  lo : ∀ k, O k → B ≤ k
  lt : ∀ k, O k → k < w.heap.size
theorem ScAt.keep {B : Nat} {O : Nat → Prop} {w w' : World} {p : Nat} {L : List Int} (h : ScAt B O w p L) (hz : w.heap.size ≤ w'.heap.size) (hk : ∀ k, O k → w'.heap[k]? = w.heap[k]?) : ScAt B O w' p L := by
  obtain ⟨a, cap, h1, h2, h3, h4⟩ := h.ex
  refine ⟨⟨a, cap, (hk p h.op).trans h1, h2, h3, fun h0 => ?_⟩, h.op, h.lo, fun k hS => Nat.lt_of_lt_of_le (h.lt k hS) hz⟩
  obtain ⟨g, off, e1, e2, e3, e4⟩ := h4 h0
  refine ⟨g, off, e1, e2, e3, fun j hj => ?_⟩
  have := e4 j hj
  simp only [World.cell?] at this ⊢
  rw [hk g e2]
  exact this
theorem ScAt.below {B : Nat} {O : Nat → Prop} {w w' : World} {p : Nat} {L : List Int} (h : ScAt B O w p L) (hb : Below w.heap.size w w') : ScAt B O w' p L := h.keep hb.size fun k hk => hb.block k (h.lt k hk)
/-- What New leaves. -/
def ScOut (L : List Int) (w : World) (e : Ending) (w' : World) : Prop := ∃ p O, e = .returned (.pointer (some ⟨p, 0, none⟩)) ∧ ScAt w.heap.size O w' p L ∧ Below w.heap.size w w'
set_option maxRecDepth 10000 in
set_option maxHeartbeats 1000000 in
theorem info56s : (Tryd.prog.info? 30).map (·.size) = some 1 := by kernel_rfl
theorem set1 {w : World} {N : Nat} {a0 : Value} {t : TypeId} (h : w.heap[N]? = some (.cells #[a0] t (0, 0))) (b0 : Value) : (w.setCell ⟨N, 0, none⟩ b0).heap[N]? = some (.cells #[b0] t (0, 0)) := by
  have hE := heap_setCell_same w N 0 _ t b0 h
  simpa only [List.setIfInBounds_toArray, List.set_cons_zero, List.set_cons_succ] using hE
set_option maxRecDepth 10000 in
set_option maxHeartbeats 1000000 in
theorem listOf_any (v : Value) (L : List Int) (w : World) (h : IntsAt w v L) (hl : L.length ≤ 1000000000) : Calls Tryd.prog 13 #[v] w fun e w' => ∃ u, e = .returned (.agg #[u]) ∧ w'.ownsRow w.heap.size 3 1 u L.length (L.map (.int .i64)) ∧ Below w.heap.size w w' := by
  obtain ⟨W, hW⟩ : ∃ W, w.alloc (.cells #[.slice none 0 0] 30) = W := ⟨_, rfl⟩
  have hb0 : Below w.heap.size w W := by rw [← hW]; exact (Below.refl _ _).alloc (Nat.le_refl _) _
  have g0 : W.heap[w.heap.size]? = some (.cells #[.slice none 0 0] 30 (0, 0)) := by rw [← hW]; exact heap_alloc_new w _
  have HG : Hid (W.heap[w.heap.size]? = some (.cells #[.slice none 0 0] 30 (0, 0))) := g0
  have HN : Hid (w.heap.size < W.heap.size) := (Array.getElem?_eq_some_iff.1 g0).1
  have HB : Hid (Below w.heap.size w W) := hb0
  have HC : Hid (Calls Tryd.prog 20 #[v] W (CiOut L W)) := cloneI_any v L W (h.below hb0) hl
  clear h hb0 g0
  go_enter Tryd.func13, Tryd.ntmps13
  go_wp2_with fail
  refine calls_at HC.out (by with_reducible rfl) (by with_reducible rfl) ?_
  rintro e w1 ⟨u, rfl, ho, hb1⟩
  have HB1 : Hid (Below W.heap.size W w1) := hb1
  have HO : Hid (w1.ownsRow W.heap.size 3 1 u L.length (L.map (.int .i64))) := ho
  have g1 : w1.heap[w.heap.size]? = some (.cells #[.slice none 0 0] 30 (0, 0)) := (hb1.block _ HN.out).trans HG.out
  have c0 : w1.cell? ⟨w.heap.size, 0, none⟩ = some (.slice none 0 0) := cell_of g1 0
  have z0 : ∀ i, w1.frozen? ⟨w.heap.size, i, none⟩ = false := frozen_of g1
  obtain ⟨ua, uc, rfl⟩ := own_form ho
  have HG1 : Hid (w1.heap[w.heap.size]? = some (.cells #[.slice none 0 0] 30 (0, 0))) := g1
  clear ho hb1 g1
  go_wp2_with fail
  refine bodyPost_ret (v := .agg #[.slice ua L.length uc]) (results_cell_row Tryd.results13 _ _ w.heap.size 30 #[.slice ua L.length uc] (0, 0) _ rfl (set1 HG1.out _) Tryd.underlying30 rfl info56s) rfl ⟨_, rfl, ?_, (HB.out.trans (HB1.out.mono HB.out.size)).setCell (Nat.le_refl _) _⟩
  have h1 := HN.out
  exact own_lower (own_off HO.out (S := fun k => k = w.heap.size) (fun g hg e => by have := (HO.out.lt g hg).1; omega) (Off.set _ rfl)) (Nat.le_of_lt h1)
/-- A script, out of a new row. -/
theorem sc_new {B p : Nat} {w : World} {a : Option Addr} {cap : Nat} {L : List Int} (h : w.heap[p]? = some (.cells #[.slice a L.length cap] 32 (0, 0))) (ho : w.ownsRow B 3 1 (.slice a L.length cap) L.length (L.map (.int .i64))) (hB : B ≤ p) (hl : L.length ≤ 1000000000) (hp : ∀ g, (Value.slice a L.length cap).ownBlock = some g → g ≠ p) : ScAt B (fun k => B ≤ k ∧ k < w.heap.size) w p L := by
  have hpl := (Array.getElem?_eq_some_iff.1 h).1
  refine ⟨⟨a, cap, h, own_cap ho _ _ _ rfl, hl, fun h0 => ?_⟩, ⟨hB, hpl⟩, fun k hk => hk.1, fun k hk => hk.2⟩
  rcases own_cells ho with ⟨_, e⟩ | ⟨g, cp, e1, e2, e3, e4, e5⟩
  · omega
  · injection e1 with q1 q2 q3
    subst q1 q3
    refine ⟨g, 0, rfl, ⟨e2, e3⟩, hp g rfl, fun j hj => ?_⟩
    have := e5 j (.int .i64 L[j]) (by simp [hj])
    simpa using this
set_option maxRecDepth 10000 in
set_option maxHeartbeats 1000000 in
theorem scNew_any (v : Value) (L : List Int) (w : World) (h : IntsAt w v L) (hl : L.length ≤ 1000000000) : Calls Tryd.prog 5 #[v] w (ScOut L w) := by
  have HC : Hid (Calls Tryd.prog 13 #[v] w fun e w' => ∃ u, e = .returned (.agg #[u]) ∧ w'.ownsRow w.heap.size 3 1 u L.length (L.map (.int .i64)) ∧ Below w.heap.size w w') := listOf_any v L w h hl
  clear h
  go_enter Tryd.func5, Tryd.ntmps5
  go_wp2_with fail
  refine calls_at HC.out (by with_reducible rfl) (by with_reducible rfl) ?_
  rintro e w1 ⟨u, rfl, ho, hb1⟩
  have HB1 : Hid (Below w.heap.size w w1) := hb1
  have HO : Hid (w1.ownsRow w.heap.size 3 1 u L.length (L.map (.int .i64))) := ho
  obtain ⟨ua, uc, rfl⟩ := own_form ho
  clear ho hb1
  go_wp2_with fail
  go_ret
  have hX : Below w1.heap.size w1 (w1.alloc (.cells #[.slice ua L.length uc] 32)) := (Below.refl _ _).alloc (Nat.le_refl _) _
  refine ⟨w1.heap.size, _, rfl, sc_new (heap_alloc_new w1 _) (own_off HO.out (S := fun _ => False) (fun _ _ h => h) (Off.of_below hX |>.less fun _ h => h)) HB1.out.size hl (fun g hg e => ?_), bl_next HB1.out hX⟩
  have := (HO.out.lt g hg).2
  omega
set_option maxRecDepth 10000 in
set_option maxHeartbeats 1000000 in
theorem scNext_any (B : Nat) (O : Nat → Prop) (p : Nat) (L : List Int) (w : World) (h : ScAt B O w p L) : Calls Tryd.prog 7 #[.pointer (some ⟨p, 0, none⟩)] w fun e w' => e = .returned (.int .i64 (L.headD 0)) ∧ ScAt B O w' p L.tail ∧ Off (fun k => k = p) w w' ∧ ∀ C, C ≤ p → Below C w w' := by
  have HA : Hid (ScAt B O w p L) := h
  obtain ⟨a, cap, h1, h2, h3, h4⟩ := h.ex
  have c0 : w.cell? ⟨p, 0, none⟩ = some (.slice a L.length cap) := cell_of h1 0
  have z0 : ∀ i, w.frozen? ⟨p, i, none⟩ = false := frozen_of h1
  cases L with
  | nil =>
    clear h h1 h2 h3 h4
    go_enter Tryd.func7, Tryd.ntmps7
    go_wp2_with fail
    go_ret
    exact ⟨rfl, HA.out, Off.refl _ _, fun C _ => Below.refl _ _⟩
  | cons x l =>
    obtain ⟨g, off, rfl, e2, e3, e4⟩ := h4 (by simp)
    have c1 : w.cell? ⟨g, off, none⟩ = some (.int .i64 x) := e4 0 (by simp)
    rw [List.length_cons] at c0 h2
    have hcI : ((l.length + 1 : Nat) : Int) ≤ (cap : Int) := by omega
    clear h h4
    have HE : Hid (w.heap[p]? = some (.cells #[.slice (some ⟨g, off, none⟩) (x :: l).length cap] 32 (0, 0))) := h1
    have HI : Hid (O g ∧ g ≠ p ∧ ∀ (j : Nat) (h : j < (x :: l).length), w.cell? ⟨g, off + j, none⟩ = some (.int .i64 (x :: l)[j])) := ⟨e2, e3, e4⟩
    have H3 : Hid (l.length + 1 ≤ cap ∧ l.length + 1 ≤ 1000000000) := ⟨h2, h3⟩
    clear h1 e2 e3 e4 h3
    go_enter Tryd.func7, Tryd.ntmps7
    go_wp2_with fail
    all_goals
      rename_i hcap
      go_ret
    · refine ⟨rfl, ?_, Off.set _ rfl, fun C hC => (Below.refl _ _).setCell hC _⟩
      obtain ⟨q1, q2, q3⟩ := HI.out
      obtain ⟨r1, r2⟩ := H3.out
      refine ⟨⟨_, _, set1 HE.out _, ?_, ?_, fun h0 => ?_⟩, HA.out.op, HA.out.lo, fun k hk => by simpa using HA.out.lt k hk⟩
      · omega
      · omega
      · omega
    · refine ⟨rfl, ?_, Off.set _ rfl, fun C hC => (Below.refl _ _).setCell hC _⟩
      obtain ⟨q1, q2, q3⟩ := HI.out
      obtain ⟨r1, r2⟩ := H3.out
      refine ⟨⟨_, _, set1 HE.out _, ?_, ?_, fun h0 => ?_⟩, HA.out.op, HA.out.lo, fun k hk => by simpa using HA.out.lt k hk⟩
      · omega
      · omega
      · refine ⟨g, off + 1, rfl, q1, q2, fun j hj => ?_⟩
        have hj' : j < l.length := hj
        have := q3 (j + 1) (by simp; omega)
        rw [show off + 1 + j = off + (j + 1) by omega]
        have e : (w.setCell ⟨p, 0, none⟩ (.slice (some ⟨g, off + 1, none⟩) l.length (cap - 1))).heap[g]? = w.heap[g]? := heap_setCell_other _ _ _ _ (by simpa using q2)
        simp only [World.cell?, e]
        simpa [World.cell?] using this
end Go.Proofs.YtdfbmfikhccajaaDoor
