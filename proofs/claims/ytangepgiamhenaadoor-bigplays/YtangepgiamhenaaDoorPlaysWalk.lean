/-
  BigPlays: the walk.
-/
import Derived.Test.YtangepgiamhenaaDoorPlaysAll
import Derived.Test.YtangepgiamhenaaDoorPair
import Derived.Test.YtangepgiamhenaaDoorIsBig
import Derived.Test.YtangepgiamhenaaDoorRefBox
import Derived.Test.YtangepgiamhenaaDoorRefMul
import Derived.Deep.RegionHeld3
import Derived.Deep.CutRange
import Derived.Deep.CutBlock
namespace Go.Proofs.YtangepgiamhenaaDoor
open Go.RowKit
open Bn (limbs)

theorem RefAt.shapeP {w : World} {r : Value} {z : Int} (h : RefAt w r z) : ∃ (b : Bool) (p : Option Addr) (n c : Nat), r = .agg #[.bool b, .slice p n c] := h.shape

/-- What is asked of the calls. -/
structure Made : Prop where
  of : ∀ (n : Int) (w : World), Calls Tryd.prog 13 #[.int .i64 n] w fun e w' => e = .returned (.agg #[.int .i64 n, .pointer none]) ∧ Below w.heap.size w w'
  refOf : ∀ (n : Int) (w : World), Fits n → Calls Tryd.prog 15 #[.int .i64 n] w fun e w' => ∃ v, e = .returned v ∧ RefAt w' v n ∧ Below w.heap.size w w'
  parse : ∀ (s : ByteArray), s.size ≤ 200 → ∃ (z e0 : Int) (b : Bool), (limbs z.natAbs).length ≤ 200 ∧ (∀ w, Calls Tryd.prog 9 #[.string s] w fun e w' => ∃ v, e = .returned (.tuple #[v, .int .i64 e0]) ∧ BigAt w' v z ∧ Below w.heap.size w w') ∧
    (∀ w, Calls Tryd.prog 10 #[.string s] w fun e w' => ∃ v, e = .returned (.tuple #[v, .bool b]) ∧ RefAt w' v z ∧ Below w.heap.size w w')
  neg : ∀ (x : Int) (va : Value) (w : World), BigAt w va x → Calls Tryd.prog 22 #[va] w fun e w' => ∃ r, e = .returned r ∧ BigAt w' r (-x) ∧ Below w.heap.size w w'
  opp : ∀ (x : Int) (va : Value) (w : World), RefAt w va x → Calls Tryd.prog 23 #[va] w fun e w' => ∃ r, e = .returned r ∧ RefAt w' r (-x) ∧ Below w.heap.size w w'
  add : ∀ (x y : Int) (va vb : Value) (w : World), BigAt w va x → BigAt w vb y → (limbs x.natAbs).length ≤ 1000000 → (limbs y.natAbs).length ≤ 1000000 → Calls Tryd.prog 19 #[va, vb] w fun e w' => ∃ r, e = .returned r ∧ BigAt w' r (x + y) ∧ Below w.heap.size w w'
  radd : ∀ (x y : Int) (va vb : Value) (w : World), RefAt w va x → RefAt w vb y → (limbs x.natAbs).length ≤ 1000000 → (limbs y.natAbs).length ≤ 1000000 → Calls Tryd.prog 24 #[va, vb] w fun e w' => ∃ r, e = .returned r ∧ RefAt w' r (x + y) ∧ Below w.heap.size w w'
  sub : ∀ (x y : Int) (va vb : Value) (w : World), BigAt w va x → BigAt w vb y → (limbs x.natAbs).length ≤ 1000000 → (limbs y.natAbs).length ≤ 1000000 → Calls Tryd.prog 25 #[va, vb] w fun e w' => ∃ r, e = .returned r ∧ BigAt w' r (x - y) ∧ Below w.heap.size w w'
  rsub : ∀ (x y : Int) (va vb : Value) (w : World), RefAt w va x → RefAt w vb y → (limbs x.natAbs).length ≤ 1000000 → (limbs y.natAbs).length ≤ 1000000 → Calls Tryd.prog 26 #[va, vb] w fun e w' => ∃ r, e = .returned r ∧ RefAt w' r (x - y) ∧ Below w.heap.size w w'
  mul : ∀ (x y : Int) (va vb : Value) (w : World), BigAt w va x → BigAt w vb y → (limbs x.natAbs).length ≤ 1000000 → (limbs y.natAbs).length ≤ 1000000 → Calls Tryd.prog 27 #[va, vb] w fun e w' => ∃ r, e = .returned r ∧ BigAt w' r (x * y) ∧ Below w.heap.size w w'
  rmul : ∀ (x y : Int) (va vb : Value) (w : World), RefAt w va x → RefAt w vb y → (limbs x.natAbs).length ≤ 1000000 → (limbs y.natAbs).length ≤ 1000000 → Calls Tryd.prog 28 #[va, vb] w fun e w' => ∃ r, e = .returned r ∧ RefAt w' r (x * y) ∧ Below w.heap.size w w'
  div : ∀ (x y : Int), (limbs x.natAbs).length ≤ 1000000 → (limbs y.natAbs).length ≤ 1000000 → ∃ (z e0 : Int) (b : Bool), (limbs z.natAbs).length ≤ (limbs x.natAbs).length ∧
    (∀ (va vb : Value) (w : World), BigAt w va x → BigAt w vb y → Calls Tryd.prog 29 #[va, vb] w fun e w' => ∃ r, e = .returned (.tuple #[r, .int .i64 e0]) ∧ BigAt w' r z ∧ Below w.heap.size w w') ∧
    (∀ (va vb : Value) (w : World), RefAt w va x → RefAt w vb y → Calls Tryd.prog 30 #[va, vb] w fun e w' => ∃ r, e = .returned (.tuple #[r, .bool b]) ∧ RefAt w' r z ∧ Below w.heap.size w w')
  ok : ∀ (z n : Int) (q : Option Addr) (d : Bool) (p : Option Addr) (l c : Nat) (w : World), BigAt w (.agg #[.int .i64 n, .pointer q]) z → RefAt w (.agg #[.bool d, .slice p l c]) z → Tab w → (limbs z.natAbs).length ≤ 1000000 →
    Calls Tryd.prog 31 #[.agg #[.int .i64 n, .pointer q, .bool d, .slice p l c]] w fun e w' => e = .returned (.bool true) ∧ Below w.heap.size w w'

/-- A call of a script. -/
structure OpV where
  k : Int
  n : Int
  a : Int
  b : Int
  s : ByteArray

/-- A script of calls. -/
def OpsAt (w : World) (b off : Nat) (os : List OpV) : Prop := b < w.heap.size ∧ ∀ k (hk : k < os.length),
  w.cell? ⟨b, off + k * 5, none⟩ = some (.int .i64 os[k].k) ∧ w.cell? ⟨b, off + k * 5 + 1, none⟩ = some (.int .i64 os[k].n) ∧ w.cell? ⟨b, off + k * 5 + 2, none⟩ = some (.int .i64 os[k].a) ∧
  w.cell? ⟨b, off + k * 5 + 3, none⟩ = some (.int .i64 os[k].b) ∧ w.cell? ⟨b, off + k * 5 + 4, none⟩ = some (.string os[k].s) ∧ Fits os[k].n
theorem OpsAt.below {w w' : World} {b off : Nat} {os : List OpV} (h : OpsAt w b off os) (hb : Below w.heap.size w w') : OpsAt w' b off os := by
  refine ⟨Nat.lt_of_lt_of_le h.1 hb.size, fun k hk => ?_⟩
  obtain ⟨h1, h2, h3, h4, h5, h6⟩ := h.2 k hk
  exact ⟨(hb.cell (p := ⟨b, _, none⟩) h.1).trans h1, (hb.cell (p := ⟨b, _, none⟩) h.1).trans h2, (hb.cell (p := ⟨b, _, none⟩) h.1).trans h3, (hb.cell (p := ⟨b, _, none⟩) h.1).trans h4, (hb.cell (p := ⟨b, _, none⟩) h.1).trans h5, h6⟩

theorem first_pair (w2 : World) (d : Bool) (p : Option Addr) (l c : Nat) {W : World} (hW : w2.alloc (.cells #[.int .i64 0, .pointer none, .bool d, .slice p l c] 46) = W) (hR : RefAt w2 (.agg #[.bool d, .slice p l c]) 0) :
    (∀ base, base ≤ w2.heap.size → PairsAt W base (.slice (some ⟨w2.heap.size, 0, none⟩) 1 1) [⟨0, none, d, p, l, c, 0⟩] 400) ∧ Below w2.heap.size w2 W := by
  subst hW
  have hb : Below w2.heap.size w2 (w2.alloc (.cells #[.int .i64 0, .pointer none, .bool d, .slice p l c] 46)) := (Below.refl _ _).alloc (Nat.le_refl _) _
  refine ⟨fun base hbase => ⟨Nat.zero_lt_one, ⟨⟨rfl, .inr ⟨w2.heap.size, 1, _, rfl, hbase, World.alloc_heap_new w2 _, Nat.le_refl _, by decide, rfl, rfl⟩⟩, ?_⟩, ?_⟩, hb⟩
  · intro g cur f hg hc
    simp [Value.ownBlock] at hg
    subst hg
    rw [World.alloc_heap_new w2 _] at hc
    injection hc with hc
    injection hc with h1 h2 h3
    subst h1
    exact prCells_k [⟨0, none, d, p, l, c, 0⟩]
  · intro r hr
    rw [List.mem_singleton.1 hr]
    exact ⟨.inl ⟨(by unfold Fits; omega : Fits 0), rfl⟩, hR.below hb, (by decide : (limbs (0 : Int).natAbs).length ≤ 400)⟩


theorem grownBy_setCell (w : World) (P o : Nat) (u : Value) : w.grownBy (w.setCell ⟨P, o, none⟩ u) (some P) :=
  ⟨rfl, rfl, rfl, by simp [World.setCell], fun k _ hne => Below.heap_setCell w ⟨P, o, none⟩ u k (fun h => hne (by rw [h]))⟩
theorem grownBy_trans {a b c : World} {row : Option Nat} (h : a.grownBy b row) (k : b.grownBy c row) : a.grownBy c row :=
  ⟨k.os.trans h.os, k.tape.trans h.tape, k.output.trans h.output, Nat.le_trans h.size k.size, fun i hi hn => (k.block i (Nat.lt_of_lt_of_le hi h.size) hn).trans (h.block i hi hn)⟩

theorem RefAt.offZero {w w' : World} {P : Nat} {v : Value} {z : Int} (h : RefAt w v z) (c0 : w.cell? ⟨P, 0, none⟩ = some (.int .i64 0)) (c1 : w.cell? ⟨P, 1, none⟩ = some (.pointer none)) (hg : w.grownBy w' (some P)) : RefAt w' v z := by
  obtain ⟨s, hv, hI⟩ := h
  refine ⟨s, hv, ?_⟩
  rcases hI with h | ⟨b, cap, hv, hlt, hl, hm, hc⟩
  · exact .inl h
  · by_cases h0 : limbs z.natAbs = []
    · refine .inr ⟨b, cap, hv, Nat.lt_of_lt_of_le hlt hg.size, hl, hm, fun j hj => ?_⟩
      rw [h0] at hj; simp at hj
    · have hpos : 0 < (limbs z.natAbs).length := List.length_pos_iff.2 h0
      have hne : some b ≠ some P := by
        intro hbP
        injection hbP with hbP
        subst hbP
        have h1 := hc 0 hpos
        rw [c0] at h1
        injection h1 with h1
        injection h1 with _ h1
        have hle : (limbs z.natAbs).length ≤ 1 := by
          rcases Nat.lt_or_ge 1 (limbs z.natAbs).length with h | h
          · have h2 := hc 1 h
            rw [c1] at h2; injection h2 with h2; cases h2
          · exact h
        have hz : limbs z.natAbs = [0] := by
          match hm : limbs z.natAbs, hle, hpos with
          | [x], _, _ =>
            have : (limbs z.natAbs)[0]'hpos = x := by simp [hm]
            rw [this] at h1
            have : x = 0 := by omega
            rw [this]
        have hv2 := Bn.val_limbs' z.natAbs
        rw [hz] at hv2
        have : z.natAbs = 0 := by simpa [Bn.val] using hv2.symm
        rw [this] at hz
        exact absurd hz (by decide)
      refine .inr ⟨b, cap, hv, Nat.lt_of_lt_of_le hlt hg.size, hl, hm, fun j hj => ?_⟩
      exact (World.cell?_of_block (a := ⟨b, j, none⟩) (hg.block b hlt hne)).trans (hc j hj)

/-- The box of the new pair, zero as yet. -/
def zeroPair : Obj := .cells #[.int .i64 0, .pointer none, .bool false, .slice none 0 0] 46

/-- The box of the new pair is written. -/
theorem pbox_done {wr w2 V : World} {P : Nat} {n : Int} {q : Option Addr} {d : Bool} {p : Option Addr} {l c : Nat} {z : Int} (hP : w2.heap[P]? = some zeroPair) (h1 : BigAt w2 (.agg #[.int .i64 n, .pointer q]) z) (h2 : RefAt w2 (.agg #[.bool d, .slice p l c]) z)
    (hwr : wr.heap.size ≤ P) (hb : Below wr.heap.size wr w2) (hV : (((w2.setCell ⟨P, 0, none⟩ (.int .i64 n)).setCell ⟨P, 1, none⟩ (.pointer q)).setCell ⟨P, 2, none⟩ (.bool d)).setCell ⟨P, 3, none⟩ (.slice p l c) = V) :
    V.cell? ⟨P, 0, none⟩ = some (.int .i64 n) ∧ V.cell? ⟨P, 1, none⟩ = some (.pointer q) ∧ V.cell? ⟨P, 2, none⟩ = some (.bool d) ∧ V.cell? ⟨P, 3, none⟩ = some (.slice p l c) ∧
      BigAt V (.agg #[.int .i64 n, .pointer q]) z ∧ RefAt V (.agg #[.bool d, .slice p l c]) z ∧ Below wr.heap.size wr V ∧ P < V.heap.size := by
  have hlt : P < w2.heap.size := (Array.getElem?_eq_some_iff.1 hP).1
  have hg : w2.grownBy V (some P) := by
    rw [← hV]
    exact grownBy_trans (grownBy_trans (grownBy_trans (grownBy_setCell _ _ _ _) (grownBy_setCell _ _ _ _)) (grownBy_setCell _ _ _ _)) (grownBy_setCell _ _ _ _)
  have c0 : w2.cell? ⟨P, 0, none⟩ = some (.int .i64 0) := by simp [World.cell?, hP, zeroPair]
  have c1 : w2.cell? ⟨P, 1, none⟩ = some (.pointer none) := by simp [World.cell?, hP, zeroPair]
  have hVP : V.heap[P]? = some (.cells #[.int .i64 n, .pointer q, .bool d, .slice p l c] 46) := by
    rw [← hV]
    simp [World.setCell, Array.getElem?_modify, hP, zeroPair]
  refine ⟨by simp [World.cell?, hVP], by simp [World.cell?, hVP], by simp [World.cell?, hVP], by simp [World.cell?, hVP], ?_, ?_, ?_, Nat.lt_of_lt_of_le hlt hg.size⟩
  · refine h1.off hg (fun g cur e f hg hc => ?_) (fun g hg => ?_)
    · injection hg with hg
      subst hg
      rw [hP] at hc
      injection hc with hc
      injection hc with e1 e2 e3
      subst e1
      exact prCells_k [⟨0, none, false, none, 0, 0, 0⟩]
    · injection hg with hg
      subst hg
      exact ⟨_, _, _, hP, fun d hd => by simp at hd⟩
  · exact h2.offZero c0 c1 hg
  · exact hb.grown hg hb.size (fun k hk => by injection hk with hk; omega)

theorem pbox_ex {wr w2 : World} {P : Nat} {n : Int} {q : Option Addr} {d : Bool} {p : Option Addr} {l c : Nat} {z : Int} (hP : w2.heap[P]? = some zeroPair) (h1 : BigAt w2 (.agg #[.int .i64 n, .pointer q]) z) (h2 : RefAt w2 (.agg #[.bool d, .slice p l c]) z)
    (hwr : wr.heap.size ≤ P) (hb : Below wr.heap.size wr w2) : ∃ V, (((w2.setCell ⟨P, 0, none⟩ (.int .i64 n)).setCell ⟨P, 1, none⟩ (.pointer q)).setCell ⟨P, 2, none⟩ (.bool d)).setCell ⟨P, 3, none⟩ (.slice p l c) = V ∧
    V.cell? ⟨P, 0, none⟩ = some (.int .i64 n) ∧ V.cell? ⟨P, 1, none⟩ = some (.pointer q) ∧ V.cell? ⟨P, 2, none⟩ = some (.bool d) ∧ V.cell? ⟨P, 3, none⟩ = some (.slice p l c) ∧
      BigAt V (.agg #[.int .i64 n, .pointer q]) z ∧ RefAt V (.agg #[.bool d, .slice p l c]) z ∧ Below wr.heap.size wr V ∧ P < V.heap.size := ⟨_, rfl, pbox_done hP h1 h2 hwr hb rfl⟩

/-- The new pair. -/
def NewAt (wr : World) (P m : Nat) (V : World) : Prop := ∃ (n : Int) (q : Option Addr) (d : Bool) (p : Option Addr) (l c : Nat) (z : Int),
  V.cell? ⟨P, 0, none⟩ = some (.int .i64 n) ∧ V.cell? ⟨P, 1, none⟩ = some (.pointer q) ∧ V.cell? ⟨P, 2, none⟩ = some (.bool d) ∧ V.cell? ⟨P, 3, none⟩ = some (.slice p l c) ∧
      BigAt V (.agg #[.int .i64 n, .pointer q]) z ∧ RefAt V (.agg #[.bool d, .slice p l c]) z ∧ (limbs z.natAbs).length ≤ m ∧ Below wr.heap.size wr V ∧ P < V.heap.size
theorem NewAt.mk {wr w2 : World} {P m : Nat} {n : Int} {q : Option Addr} {d : Bool} {p : Option Addr} {l c : Nat} {z : Int} (hP : w2.heap[P]? = some zeroPair) (h1 : BigAt w2 (.agg #[.int .i64 n, .pointer q]) z) (h2 : RefAt w2 (.agg #[.bool d, .slice p l c]) z)
    (hwr : wr.heap.size ≤ P) (hb : Below wr.heap.size wr w2) (hz : (limbs z.natAbs).length ≤ m) :
    NewAt wr P m ((((w2.setCell ⟨P, 0, none⟩ (.int .i64 n)).setCell ⟨P, 1, none⟩ (.pointer q)).setCell ⟨P, 2, none⟩ (.bool d)).setCell ⟨P, 3, none⟩ (.slice p l c)) := by
  obtain ⟨h1, h2, h3, h4, h5, h6, h7, h8⟩ := pbox_done hP h1 h2 hwr hb rfl
  exact ⟨n, q, d, p, l, c, z, h1, h2, h3, h4, h5, h6, hz, h7, h8⟩
theorem refLen {w : World} {d : Bool} {p : Option Addr} {l c : Nat} {z : Int} (h : RefAt w (.agg #[.bool d, .slice p l c]) z) : l = (limbs z.natAbs).length := by
  obtain ⟨p', c', hv⟩ := h.form
  injection hv with hv
  have := congrArg (fun a : Array Value => a[1]?) hv
  simp at this
  exact this.2.1

theorem refLe {w : World} {k : Nat} {r : Pr} (h : r.At w (400 + k)) (hk : k ≤ 60) : r.l ≤ 460 := by
  have h1 := refLen h.2.1
  have h2 := h.2.2
  omega
theorem wrap_lens {a b : Nat} (ha : a ≤ 460) (hb : b ≤ 460) : wrap64 ((a : Int) + (b : Int)) = (a : Int) + (b : Int) := by unfold wrap64; omega
theorem mul_lens {w w' : World} {k : Nat} {r s : Pr} (h : r.At w (400 + k)) (h' : s.At w' (400 + k)) (hl : (r.l : Int) + (s.l : Int) ≤ 330) : (limbs (r.z * s.z).natAbs).length ≤ 400 + (k + 1) := by
  have h1 := refLen h.2.1
  have h2 := refLen h'.2.1
  have h3 := len_mulP (Nat.le_refl (limbs r.z.natAbs).length) (Nat.le_refl (limbs s.z.natAbs).length)
  omega

/-- The ten cells that are read where two pairs are picked. -/
abbrev Ten (M O lb i j : Nat) (aa bb : Int) (r s : Pr) (w' : World) : Prop :=
  w'.cell? ⟨O, 2, none⟩ = some (.int .i64 aa) ∧ w'.cell? ⟨O, 3, none⟩ = some (.int .i64 bb) ∧
  w'.cell? ⟨lb, i * 4, none⟩ = some (.int .i64 r.n) ∧ w'.cell? ⟨lb, i * 4 + 1, none⟩ = some (.pointer r.q) ∧ w'.cell? ⟨lb, i * 4 + 2, none⟩ = some (.bool r.d) ∧ w'.cell? ⟨lb, i * 4 + 3, none⟩ = some (.slice r.p r.l r.c) ∧
  w'.cell? ⟨lb, j * 4, none⟩ = some (.int .i64 s.n) ∧ w'.cell? ⟨lb, j * 4 + 1, none⟩ = some (.pointer s.q) ∧ w'.cell? ⟨lb, j * 4 + 2, none⟩ = some (.bool s.d) ∧ w'.cell? ⟨lb, j * 4 + 3, none⟩ = some (.slice s.p s.l s.c) ∧
  M ≤ w'.heap.size ∧ O < M ∧ lb < M
theorem Ten.alloc {M O lb i j : Nat} {aa bb : Int} {r s : Pr} {w' : World} (h : Ten M O lb i j aa bb r s w') (o : Obj) : Ten M O lb i j aa bb r s (w'.alloc o) := by
  obtain ⟨h1, h2, h3, h4, h5, h6, h7, h8, h9, h10, h11, hO, hl⟩ := h
  exact ⟨(World.cell?_alloc_past o O _ (by omega)).trans h1, (World.cell?_alloc_past o O _ (by omega)).trans h2, (World.cell?_alloc_past o lb _ (by omega)).trans h3, (World.cell?_alloc_past o lb _ (by omega)).trans h4, (World.cell?_alloc_past o lb _ (by omega)).trans h5, (World.cell?_alloc_past o lb _ (by omega)).trans h6, (World.cell?_alloc_past o lb _ (by omega)).trans h7, (World.cell?_alloc_past o lb _ (by omega)).trans h8, (World.cell?_alloc_past o lb _ (by omega)).trans h9, (World.cell?_alloc_past o lb _ (by omega)).trans h10, by simp; omega, hO, hl⟩


theorem ten_alloc {M O lb i j : Nat} {aa bb : Int} {r s : Pr} {w' : World} (h : Ten M O lb i j aa bb r s w'.drew) (o : Obj) : Ten M O lb i j aa bb r s (w'.alloc o).drew := Ten.alloc (w' := w') h o

/-- The boxes of the two pairs that were picked. -/
def Duo (W1 : World) (X Y : Nat) (r s : Pr) (w' : World) : Prop :=
  w'.cell? ⟨X, 0, none⟩ = some (.int .i64 r.n) ∧ w'.cell? ⟨X, 1, none⟩ = some (.pointer r.q) ∧ w'.cell? ⟨X, 2, none⟩ = some (.bool r.d) ∧ w'.cell? ⟨X, 3, none⟩ = some (.slice r.p r.l r.c) ∧
  w'.cell? ⟨Y, 0, none⟩ = some (.int .i64 s.n) ∧ w'.cell? ⟨Y, 1, none⟩ = some (.pointer s.q) ∧ w'.cell? ⟨Y, 2, none⟩ = some (.bool s.d) ∧ w'.cell? ⟨Y, 3, none⟩ = some (.slice s.p s.l s.c) ∧
  X < w'.heap.size ∧ Y < w'.heap.size ∧ Below W1.heap.size W1 w'
theorem Duo.next {W1 : World} {X Y : Nat} {r s : Pr} {w1 w2 : World} (h : Duo W1 X Y r s w1) (hb : Below w1.heap.size w1 w2) : Duo W1 X Y r s w2 := by
  obtain ⟨h1, h2, h3, h4, h5, h6, h7, h8, h9, h10, h11⟩ := h
  exact ⟨(hb.cell (p := ⟨X, _, none⟩) h9).trans h1, (hb.cell (p := ⟨X, _, none⟩) h9).trans h2, (hb.cell (p := ⟨X, _, none⟩) h9).trans h3, (hb.cell (p := ⟨X, _, none⟩) h9).trans h4, (hb.cell (p := ⟨Y, _, none⟩) h10).trans h5, (hb.cell (p := ⟨Y, _, none⟩) h10).trans h6, (hb.cell (p := ⟨Y, _, none⟩) h10).trans h7, (hb.cell (p := ⟨Y, _, none⟩) h10).trans h8, Nat.lt_of_lt_of_le h9 hb.size, Nat.lt_of_lt_of_le h10 hb.size, h11.trans (hb.mono h11.size)⟩
theorem duo_xy (W1 : World) (r s : Pr) {V : World} (hV : (W1.alloc (.cells #[.int .i64 r.n, .pointer r.q, .bool r.d, .slice r.p r.l r.c] 46)).alloc (.cells #[.int .i64 s.n, .pointer s.q, .bool s.d, .slice s.p s.l s.c] 46) = V) : Duo W1 W1.heap.size (W1.heap.size + 1) r s V := by
  obtain ⟨h1, h2, h3, h4⟩ := two_objs W1 _ _ hV
  refine ⟨?_, ?_, ?_, ?_, ?_, ?_, ?_, ?_, by omega, by omega, h3⟩ <;> simp [World.cell?, h1, h2]
theorem duo_yx (W1 : World) (r s : Pr) {V : World} (hV : (W1.alloc (.cells #[.int .i64 s.n, .pointer s.q, .bool s.d, .slice s.p s.l s.c] 46)).alloc (.cells #[.int .i64 r.n, .pointer r.q, .bool r.d, .slice r.p r.l r.c] 46) = V) : Duo W1 (W1.heap.size + 1) W1.heap.size r s V := by
  obtain ⟨h1, h2, h3, h4⟩ := two_objs W1 _ _ hV
  refine ⟨?_, ?_, ?_, ?_, ?_, ?_, ?_, ?_, by omega, by omega, h3⟩ <;> simp [World.cell?, h1, h2]


/-- What stays while the new pair is made. -/
def Trio (wr : World) (X Y P O : Nat) (r s : Pr) (m : Nat) (kd nn : Int) (ss : ByteArray) (w' : World) : Prop :=
  Duo wr X Y r s w' ∧ w'.heap[P]? = some zeroPair ∧ r.At w' m ∧ s.At w' m ∧ Tab w' ∧ w'.cell? ⟨O, 0, none⟩ = some (.int .i64 kd) ∧ w'.cell? ⟨O, 1, none⟩ = some (.int .i64 nn) ∧ w'.cell? ⟨O, 4, none⟩ = some (.string ss) ∧ O < w'.heap.size
theorem Trio.next {wr : World} {X Y P O : Nat} {r s : Pr} {m : Nat} {kd nn : Int} {ss : ByteArray} {w1 w2 : World} (h : Trio wr X Y P O r s m kd nn ss w1) (hb : Below w1.heap.size w1 w2) : Trio wr X Y P O r s m kd nn ss w2 := by
  obtain ⟨h1, h2, h3, h4, h5, h6, h7, h8, h9⟩ := h
  exact ⟨h1.next hb, (hb.block P (Array.getElem?_eq_some_iff.1 h2).1).trans h2, h3.below hb, h4.below hb, h5.below hb h5.2, (hb.cell (p := ⟨O, _, none⟩) h9).trans h6, (hb.cell (p := ⟨O, _, none⟩) h9).trans h7, (hb.cell (p := ⟨O, _, none⟩) h9).trans h8, Nat.lt_of_lt_of_le h9 hb.size⟩
theorem Trio.P0 {wr : World} {X Y P O : Nat} {r s : Pr} {m : Nat} {kd nn : Int} {ss : ByteArray} {w' : World} (h : Trio wr X Y P O r s m kd nn ss w') : w'.cell? ⟨P, 0, none⟩ = some (.int .i64 0) ∧ w'.cell? ⟨P, 1, none⟩ = some (.pointer none) ∧ w'.cell? ⟨P, 2, none⟩ = some (.bool false) ∧ w'.cell? ⟨P, 3, none⟩ = some (.slice none 0 0) ∧
    w'.frozen? ⟨P, 0, none⟩ = false ∧ w'.frozen? ⟨P, 1, none⟩ = false ∧ w'.frozen? ⟨P, 2, none⟩ = false ∧ w'.frozen? ⟨P, 3, none⟩ = false := by
  have hP := h.2.1
  unfold zeroPair at hP
  refine ⟨?_, ?_, ?_, ?_, ?_, ?_, ?_, ?_⟩ <;> simp [World.cell?, World.frozen?, hP]


/-- The eight cells of the two pairs that were picked. -/
abbrev Eight (X Y : Nat) (r s : Pr) (w' : World) : Prop :=
  w'.cell? ⟨X, 0, none⟩ = some (.int .i64 r.n) ∧ w'.cell? ⟨X, 1, none⟩ = some (.pointer r.q) ∧ w'.cell? ⟨X, 2, none⟩ = some (.bool r.d) ∧ w'.cell? ⟨X, 3, none⟩ = some (.slice r.p r.l r.c) ∧
  w'.cell? ⟨Y, 0, none⟩ = some (.int .i64 s.n) ∧ w'.cell? ⟨Y, 1, none⟩ = some (.pointer s.q) ∧ w'.cell? ⟨Y, 2, none⟩ = some (.bool s.d) ∧ w'.cell? ⟨Y, 3, none⟩ = some (.slice s.p s.l s.c)
theorem Trio.eight {wr : World} {X Y P O : Nat} {r s : Pr} {m : Nat} {kd nn : Int} {ss : ByteArray} {w1 : World} (h : Trio wr X Y P O r s m kd nn ss w1) : Eight X Y r s w1 := by
  obtain ⟨⟨h1, h2, h3, h4, h5, h6, h7, h8, _⟩, _⟩ := h
  exact ⟨h1, h2, h3, h4, h5, h6, h7, h8⟩
theorem cell_off {w' : World} {X o P o' : Nat} (h : X ≠ P) (a : Value) : (w'.setCell ⟨P, o', none⟩ a).cell? ⟨X, o, none⟩ = w'.cell? ⟨X, o, none⟩ :=
  World.cell?_of_block (a := ⟨X, o, none⟩) (Below.heap_setCell w' ⟨P, o', none⟩ a X h)
theorem Eight.set {X Y P o : Nat} {r s : Pr} {w' : World} (h : Eight X Y r s w') (hX : X ≠ P) (hY : Y ≠ P) (a : Value) : Eight X Y r s (w'.setCell ⟨P, o, none⟩ a) := by
  obtain ⟨h1, h2, h3, h4, h5, h6, h7, h8⟩ := h
  exact ⟨(cell_off hX a).trans h1, (cell_off hX a).trans h2, (cell_off hX a).trans h3, (cell_off hX a).trans h4, (cell_off hY a).trans h5, (cell_off hY a).trans h6, (cell_off hY a).trans h7, (cell_off hY a).trans h8⟩
theorem Eight.store {X Y P : Nat} {r s : Pr} {w' : World} (h : Eight X Y r s w') (hX : X ≠ P) (hY : Y ≠ P) (a b c d : Value) : Eight X Y r s ((((w'.setCell ⟨P, 0, none⟩ a).setCell ⟨P, 1, none⟩ b).setCell ⟨P, 2, none⟩ c).setCell ⟨P, 3, none⟩ d) :=
  Eight.set (Eight.set (Eight.set (Eight.set h hX hY a) hX hY b) hX hY c) hX hY d

set_option maxRecDepth 100000 in
set_option maxHeartbeats 40000000 in
theorem bigPlays_walk (HM : Hid Made) (sp : Option Addr) (b off cap : Nat) (os : List OpV) (w : World) (ht : Tab w) (Hsp : Hid (0 < os.length → sp = some ⟨b, off, none⟩)) (hO : OpsAt w b off os) (hl : os.length ≤ 60) :
    Calls Tryd.prog 6 #[.slice sp os.length cap] w fun e w' => e = .returned (.bool true) ∧ Below w.heap.size w w' := by
  obtain ⟨N, hN⟩ : ∃ N : Nat, os.length = N := ⟨_, rfl⟩
  have hNI : ¬ (60 : Int) < (N : Int) := by omega
  have HN : Hid (os.length = N) := hN
  have HO : Hid (OpsAt w b off os) := hO
  have HT : Hid (Tab w) := ht
  rw [hN]
  clear hN hO ht hl
  go_enter Tryd.func6, Tryd.ntmps6
  go_wp2_with fail
  refine (HM.out.of 0 _).mono ?_
  rintro e w1 ⟨rfl, hb1⟩
  go_wp2_with fail
  refine (HM.out.refOf 0 _ (by unfold Fits; omega)).mono ?_
  rintro e w2 ⟨v2, rfl, hR, hb2⟩
  obtain ⟨d, p, l, c, rfl⟩ := hR.shapeP
  go_wp2_with fail
  generalize hW : w2.alloc (.cells #[.int .i64 0, .pointer none, .bool d, .slice p l c] 46) = W
  obtain ⟨hP0, hBW0⟩ := first_pair w2 d p l c hW hR
  have hw2 : Below w.heap.size w w2 := hb1.trans (hb2.mono hb1.size)
  have hbase : w.heap.size ≤ w2.heap.size := hw2.size
  have HP0 : Hid (PairsAt W w.heap.size (.slice (some ⟨w2.heap.size, 0, none⟩) 1 1) [⟨0, none, d, p, l, c, 0⟩] 400) := hP0 _ hbase
  have HBW : Hid (Below w.heap.size w W) := hw2.trans (hBW0.mono hbase)
  clear hW hP0 hBW0 hw2 hbase hb1 hb2 hR
  go_loopw [3, 4] (fun lv iv wr => ∃ (k : Nat) (L : List Pr), iv = .int .i64 (k : Int) ∧ k ≤ N ∧ L.length ≤ k + 1 ∧ Hid (PairsAt wr w.heap.size lv L (400 + k)) ∧ Hid (Below w.heap.size w wr)) (fun _ iv _ => N - (intOf iv).toNat)
  case atStart => exact ⟨0, _, rfl, Nat.zero_le _, Nat.le_refl _, HP0, HBW⟩
  obtain ⟨k, L, rfl, hk, hLk, hP, hBel⟩ := hrel
  obtain ⟨lb, lc, rfl, hlb0, hlb, hlc, hlm, hcells⟩ := hP.out.form
  obtain ⟨n, hn⟩ : ∃ n : Nat, L.length = n := ⟨_, rfl⟩
  have Hn : Hid (L.length = n) := hn
  rw [hn] at hP hLk hlc ⊢
  clear HP0 HBW
  by_cases hkN : k < N
  · have hkI : (k : Int) < (N : Int) := by omega
    obtain rfl : sp = some ⟨b, off, none⟩ := Hsp.out (by have := HN.out; omega)
    have hOr := HO.out.below (hBel.out.mono (Nat.le_refl _))
    obtain ⟨c0, c1, c2, c3, c4, hfit⟩ := hOr.2 k (by have := HN.out; omega)
    obtain ⟨o, ho⟩ : ∃ o, os[k]'(by have := HN.out; omega) = o := ⟨_, rfl⟩
    rw [ho] at c0 c1 c2 c3 c4 hfit
    obtain ⟨kd, nn, aa, bb, ss⟩ := o
    simp only at c0 c1 c2 c3 c4 hfit
    have Hfit : Hid (Fits nn) := hfit
    have HOr : Hid (OpsAt wr b off os) := hOr
    have Hcells : Hid (∀ (k : Nat) (hk : k < L.length), wr.cell? ⟨lb, k * 4, none⟩ = some (.int .i64 L[k].n) ∧ wr.cell? ⟨lb, k * 4 + 1, none⟩ = some (.pointer L[k].q) ∧ wr.cell? ⟨lb, k * 4 + 2, none⟩ = some (.bool L[k].d) ∧ wr.cell? ⟨lb, k * 4 + 3, none⟩ = some (.slice L[k].p L[k].l L[k].c)) := hcells
    clear ho hfit hOr hcells hn hkN
    by_cases hs : (200 : Int) < (ss.size : Int)
    · go_wp2_with fail
      go_ret
      exact ⟨rfl, hBel.out.alloc hBel.out.size _⟩
    · have hnI : (0 : Int) < (n : Int) := by have := hP.out.1; have := Hn.out; omega
      obtain ⟨i, hiA, hiN⟩ := at_fix aa n hnI (by omega)
      obtain ⟨j, hjA, hjN⟩ := at_fix bb n hnI (by omega)
      have HiA : Hid (∀ w, Calls Tryd.prog 21 #[.int .i64 aa, .int .i64 (n : Int)] w fun e w' => e = .returned (.int .i64 (i : Int)) ∧ w' = w) := hiA
      have HjA : Hid (∀ w, Calls Tryd.prog 21 #[.int .i64 bb, .int .i64 (n : Int)] w fun e w' => e = .returned (.int .i64 (j : Int)) ∧ w' = w) := hjA
      obtain ⟨r, hr⟩ : ∃ r, L[i]'(by have := Hn.out; omega) = r := ⟨_, rfl⟩
      obtain ⟨s, hs'⟩ : ∃ s, L[j]'(by have := Hn.out; omega) = s := ⟨_, rfl⟩
      have Hr : Hid (r.At wr (400 + k)) := by rw [← hr]; exact hP.out.2.2 _ (List.getElem_mem _)
      have Hs : Hid (s.At wr (400 + k)) := by rw [← hs']; exact hP.out.2.2 _ (List.getElem_mem _)
      have ci := Hcells.out i (by have := Hn.out; omega)
      have cj := Hcells.out j (by have := Hn.out; omega)
      rw [hr] at ci
      rw [hs'] at cj
      obtain ⟨i0, i1, i2, i3⟩ := ci
      obtain ⟨j0, j1, j2, j3⟩ := cj
      have hiI : (i : Int) < (n : Int) := by omega
      have hjI : (j : Int) < (n : Int) := by omega
      clear hr hs' hiA hjA
      go_wp2_with fail
      generalize hO1 : wr.alloc (.cells #[.int .i64 kd, .int .i64 nn, .int .i64 aa, .int .i64 bb, .string ss] 52) = W1
      have hT : Ten W1.heap.size wr.heap.size lb i j aa bb r s W1.drew := by
        have hb0 : Below wr.heap.size wr (wr.alloc (.cells #[.int .i64 kd, .int .i64 nn, .int .i64 aa, .int .i64 bb, .string ss] 52)) := (Below.refl _ _).alloc (Nat.le_refl _) _
        have hnew := World.alloc_heap_new wr (.cells #[.int .i64 kd, .int .i64 nn, .int .i64 aa, .int .i64 bb, .string ss] 52)
        rw [hO1] at hb0 hnew
        have hsz : W1.heap.size = wr.heap.size + 1 := by rw [← hO1]; simp
        exact ⟨(show W1.cell? _ = _ by simp [World.cell?, hnew]), (show W1.cell? _ = _ by simp [World.cell?, hnew]), (hb0.cell (p := ⟨lb, _, none⟩) hlb).trans i0, (hb0.cell (p := ⟨lb, _, none⟩) hlb).trans i1, (hb0.cell (p := ⟨lb, _, none⟩) hlb).trans i2, (hb0.cell (p := ⟨lb, _, none⟩) hlb).trans i3, (hb0.cell (p := ⟨lb, _, none⟩) hlb).trans j0, (hb0.cell (p := ⟨lb, _, none⟩) hlb).trans j1, (hb0.cell (p := ⟨lb, _, none⟩) hlb).trans j2, (hb0.cell (p := ⟨lb, _, none⟩) hlb).trans j3, Nat.le_refl _, by omega, by omega⟩
      go_cut [6, 7] from 25 to 169 (fun v6 v7 wx => ∃ X Y, v6 = .pointer (some ⟨X, 0, none⟩) ∧ v7 = .pointer (some ⟨Y, 0, none⟩) ∧ Duo W1 X Y r s wx)
      case first =>
        as_aux_lemma =>
          have hT' := hT
          clear i0 i1 i2 i3 j0 j1 j2 j3 c0 c1 c2 c3 c4 hO1
          go_region_held3 (fun w' => w'.cell? ⟨wr.heap.size, 2, none⟩ = some (.int .i64 aa) ∧ w'.cell? ⟨wr.heap.size, 3, none⟩ = some (.int .i64 bb) ∧
              w'.cell? ⟨lb, i * 4, none⟩ = some (.int .i64 r.n) ∧ w'.cell? ⟨lb, i * 4 + 1, none⟩ = some (.pointer r.q) ∧ w'.cell? ⟨lb, i * 4 + 2, none⟩ = some (.bool r.d) ∧ w'.cell? ⟨lb, i * 4 + 3, none⟩ = some (.slice r.p r.l r.c) ∧
              w'.cell? ⟨lb, j * 4, none⟩ = some (.int .i64 s.n) ∧ w'.cell? ⟨lb, j * 4 + 1, none⟩ = some (.pointer s.q) ∧ w'.cell? ⟨lb, j * 4 + 2, none⟩ = some (.bool s.d) ∧ w'.cell? ⟨lb, j * 4 + 3, none⟩ = some (.slice s.p s.l s.c) ∧
              W1.heap.size ≤ w'.heap.size ∧ wr.heap.size < W1.heap.size ∧ lb < W1.heap.size)
            (first | with_reducible exact hT' | with_reducible exact ten_alloc hT' _ | with_reducible exact ten_alloc (ten_alloc hT' _) _)
            (first
              | (go_at_call 21; refine calls_at (HiA.out _) (by with_reducible rfl) (by with_reducible rfl) ?_; rintro e w' ⟨rfl, rfl⟩)
              | (go_at_call 21; refine calls_at (HjA.out _) (by with_reducible rfl) (by with_reducible rfl) ?_; rintro e w' ⟨rfl, rfl⟩))
          all_goals
            go_wp2_with fail
            go_meet
            first
              | exact ⟨_, _, rfl, rfl, (duo_xy W1 r s rfl).next (Below.refl _ _).drew⟩
              | exact ⟨_, _, rfl, rfl, (duo_yx W1 r s rfl).next (Below.refl _ _).drew⟩
      case rest =>
        as_aux_lemma =>
          rename World => wq
          obtain ⟨X, Y, rfl, rfl, hD⟩ := hcut
          have hb0 : Below wr.heap.size wr W1 := by rw [← hO1]; exact (Below.refl _ _).alloc (Nat.le_refl _) _
          have hnew : W1.heap[wr.heap.size]? = some (.cells #[.int .i64 kd, .int .i64 nn, .int .i64 aa, .int .i64 bb, .string ss] 52) := by rw [← hO1]; exact World.alloc_heap_new wr _
          have hbc : Below W1.heap.size W1 wq := hD.2.2.2.2.2.2.2.2.2.2
          have hXP : X ≠ wq.heap.size := Nat.ne_of_lt hD.2.2.2.2.2.2.2.2.1
          have hYP : Y ≠ wq.heap.size := Nat.ne_of_lt hD.2.2.2.2.2.2.2.2.2.1
          obtain ⟨W2, hW2⟩ : ∃ W2, wq.alloc (.cells #[.int .i64 0, .pointer none, .bool false, .slice none 0 0] 46) = W2 := ⟨_, rfl⟩
          have hTr : Trio wr X Y wq.heap.size wr.heap.size r s (400 + k) kd nn ss W2 := by
            have hbc2 : Below wq.heap.size wq W2 := by rw [← hW2]; exact (Below.refl _ _).alloc (Nat.le_refl _) _
            have h12 : Below W1.heap.size W1 W2 := hbc.trans (hbc2.mono hbc.size)
            have hwr2 : Below wr.heap.size wr W2 := hb0.trans (h12.mono hb0.size)
            have hlt : wr.heap.size < W1.heap.size := (Array.getElem?_eq_some_iff.1 hnew).1
            have hO2 := (h12.block wr.heap.size hlt).trans hnew
            have hw2 : Below w.heap.size w W2 := hBel.out.trans (hwr2.mono hBel.out.size)
            obtain ⟨g1, g2, g3, g4, g5, g6, g7, g8, g9, g10, _⟩ := hD.next hbc2
            refine ⟨⟨g1, g2, g3, g4, g5, g6, g7, g8, g9, g10, hwr2⟩, by rw [← hW2]; exact World.alloc_heap_new wq _, Hr.out.below hwr2, Hs.out.below hwr2, HT.out.below hw2 HT.out.2, ?_, ?_, ?_, Nat.lt_of_lt_of_le hlt h12.size⟩ <;> simp [World.cell?, hO2]
          have HTr : Hid (Trio wr X Y wq.heap.size wr.heap.size r s (400 + k) kd nn ss W2) := hTr
          have Hss : Hid (ss.size ≤ 200) := by show _ ≤ _; omega
          have HW2 : Hid (wq.alloc (.cells #[.int .i64 0, .pointer none, .bool false, .slice none 0 0] 46) = W2) := hW2
          have hPlt : wr.heap.size ≤ wq.heap.size := Nat.le_trans hb0.size hbc.size
          have hOc := (hbc.block wr.heap.size (Array.getElem?_eq_some_iff.1 hnew).1).trans hnew
          have oc0 : (wq.alloc (.cells #[.int .i64 0, .pointer none, .bool false, .slice none 0 0] 46)).cell? ⟨wr.heap.size, 0, none⟩ = some (.int .i64 kd) := by rw [hW2]; exact hTr.2.2.2.2.2.1
          have hlt0 : wr.heap.size < wq.heap.size := (Array.getElem?_eq_some_iff.1 hOc).1
          obtain ⟨⟨x0, x1, x2, x3, y0, y1, y2, y3, _⟩, _, _, _, _, o0, o1, o4, _⟩ := id hTr
          clear i0 i1 i2 i3 j0 j1 j2 j3 c0 c1 c2 c3 c4 hO1 hT hD hb0 hnew hbc HiA HjA hOc hTr hW2 hs
          have hS : Trio wr X Y wq.heap.size wr.heap.size r s (400 + k) kd nn ss W2.drew := HTr.out.next (Below.refl _ _).drew
          have Lr : Hid ((limbs r.z.natAbs).length ≤ 1000000) := by have := Hr.out.2.2; show _ ≤ _; omega
          have Ls : Hid ((limbs s.z.natAbs).length ≤ 1000000) := by have := Hs.out.2.2; show _ ≤ _; omega
          go_upto_block 2 with fail
          rw [HW2.out]
          clear oc0 HW2
          go_cut [] from 25 to 169 (fun wx => NewAt wr wq.heap.size (400 + (k + 1)) wx)
          case first =>
            as_aux_lemma =>
              by_cases k1 : kd = 1
              · as_aux_lemma =>
                  subst k1
                  have Hlz : Hid ((limbs (nn).natAbs).length ≤ 400 + (k + 1)) := by
                    have h1 := Hr.out.2.2
                    have h2 := Hs.out.2.2
                    show (limbs _).length ≤ _
                    have := limbs_int_le Hfit.out.1 Hfit.out.2; omega
                  go_wp2_with fail
                  go_region_with (first
                    | (go_at_call 13; refine calls_at (HM.out.of nn _) (by with_reducible rfl) (by with_reducible rfl) ?_; rintro e wB ⟨rfl, hbB⟩; have hBg : BigAt wB (.agg #[.int .i64 nn, .pointer none]) nn := Or.inl ⟨Hfit.out, rfl⟩; have hS := Trio.next hS hbB; obtain ⟨⟨x0, x1, x2, x3, y0, y1, y2, y3, _⟩, _, _, _, _, o0, o1, o4, _⟩ := id hS; obtain ⟨p0, p1, p2, p3, f0, f1, f2, f3⟩ := Trio.P0 hS)
                    | (go_at_call 15; refine calls_at (HM.out.refOf nn _ Hfit.out) (by with_reducible rfl) (by with_reducible rfl) ?_; rintro e wR ⟨v, rfl, hRf, hbR⟩; obtain ⟨d', p', l', c', hv⟩ := hRf.shapeP; subst hv; have hS := Trio.next hS hbR; obtain ⟨⟨x0, x1, x2, x3, y0, y1, y2, y3, _⟩, _, _, _, _, o0, o1, o4, _⟩ := id hS; obtain ⟨p0, p1, p2, p3, f0, f1, f2, f3⟩ := Trio.P0 hS))
                  all_goals
                    go_wp2_with fail
                    go_meet
                    exact (NewAt.mk (z := (nn)) hS.2.1 (by first | exact hBg | exact BigAt.below hBg hbR) (by first | exact hRf | exact RefAt.below hRf hbB) hPlt hS.1.2.2.2.2.2.2.2.2.2.2 Hlz.out)
              by_cases k2 : kd = 2
              · as_aux_lemma =>
                  subst k2
                  obtain ⟨z, e0, bz, hlz, hC1, hC2⟩ := HM.out.parse ss Hss.out
                  have HC1 : Hid (∀ w, Calls Tryd.prog 9 #[.string ss] w fun e w' => ∃ v, e = .returned (.tuple #[v, .int .i64 e0]) ∧ BigAt w' v z ∧ Below w.heap.size w w') := hC1
                  have HC2 : Hid (∀ w, Calls Tryd.prog 10 #[.string ss] w fun e w' => ∃ v, e = .returned (.tuple #[v, .bool bz]) ∧ RefAt w' v z ∧ Below w.heap.size w w') := hC2
                  have Hlz : Hid ((limbs z.natAbs).length ≤ 400 + (k + 1)) := by
                    have h1 := Hr.out.2.2
                    show (limbs _).length ≤ _
                    omega
                  clear hC1 hC2 hlz
                  go_wp2_with fail
                  refine (HC1.out W2).mono ?_
                  rintro e wB ⟨v, rfl, hBg, hbB⟩
                  obtain ⟨n1, q1', hv⟩ := hBg.shape
                  subst hv
                  obtain ⟨WB, hWB⟩ : ∃ WB, wB.alloc (.cells #[.int .i64 n1, .pointer q1'] 24) = WB := ⟨_, rfl⟩
                  obtain ⟨bA, hBA, hsA⟩ := new_box wB n1 q1' hWB
                  have hS := (Trio.next HTr.out hbB).next hBA
                  have hBg := hBg.below hBA
                  obtain ⟨⟨x0, x1, x2, x3, y0, y1, y2, y3, _⟩, _, _, _, _, o0, o1, o4, _⟩ := id hS
                  go_wp2_with fail
                  refine (HC2.out WB).mono ?_
                  rintro e wR ⟨v, rfl, hRf, hbR⟩
                  obtain ⟨d1, p1', l1', c1', hv⟩ := hRf.shapeP
                  subst hv
                  clear hWB
                  obtain ⟨WR, hWR⟩ : ∃ WR, wR.alloc (.cells #[.bool d1, .slice p1' l1' c1'] 30) = WR := ⟨_, rfl⟩
                  have hBR : Below wR.heap.size wR WR := by rw [← hWR]; exact (Below.refl _ _).alloc (Nat.le_refl _) _
                  have bY : WR.heap[wR.heap.size]? = some (.cells #[.bool d1, .slice p1' l1' c1'] 30) := by rw [← hWR]; exact World.alloc_heap_new wR _
                  have hbAR : Below WB.heap.size WB WR := hbR.trans (hBR.mono hbR.size)
                  have bX := (hbAR.block wB.heap.size (by omega)).trans bA
                  obtain ⟨g0, g1, _, _⟩ := box_facts bX
                  obtain ⟨h0, h1', _, _⟩ := rbox_facts bY
                  have hS := hS.next hbAR
                  have hBg := hBg.below hbAR
                  have hRf := hRf.below hBR
                  obtain ⟨p0, p1, p2, p3, f0, f1, f2, f3⟩ := Trio.P0 hS
                  clear bA bX bY hsA hbAR hBA hbB hbR hBR x0 x1 x2 x3 y0 y1 y2 y3 o0 o1 o4
                  go_wp2_with fail
                  go_meet
                  exact NewAt.mk (z := z) hS.2.1 hBg hRf hPlt hS.1.2.2.2.2.2.2.2.2.2.2 Hlz.out
              by_cases k3 : kd = 3
              · as_aux_lemma =>
                  subst k3
                  have Hlz : Hid ((limbs (-r.z).natAbs).length ≤ 400 + (k + 1)) := by
                    have h1 := Hr.out.2.2
                    have h2 := Hs.out.2.2
                    show (limbs _).length ≤ _
                    rw [Int.natAbs_neg]; omega
                  go_wp2_with fail
                  go_region_with (first
                    | (go_at_call 22; refine calls_at (HM.out.neg r.z _ _ hS.2.2.1.1) (by with_reducible rfl) (by with_reducible rfl) ?_; rintro e wB ⟨v, rfl, hBg, hbB⟩; obtain ⟨n', q', hv⟩ := hBg.shape; subst hv; have hS := Trio.next hS hbB; obtain ⟨⟨x0, x1, x2, x3, y0, y1, y2, y3, _⟩, _, _, _, _, o0, o1, o4, _⟩ := id hS; obtain ⟨p0, p1, p2, p3, f0, f1, f2, f3⟩ := Trio.P0 hS)
                    | (go_at_call 23; refine calls_at (HM.out.opp r.z _ _ hS.2.2.1.2.1) (by with_reducible rfl) (by with_reducible rfl) ?_; rintro e wR ⟨v, rfl, hRf, hbR⟩; obtain ⟨d', p', l', c', hv⟩ := hRf.shapeP; subst hv; have hS := Trio.next hS hbR; obtain ⟨⟨x0, x1, x2, x3, y0, y1, y2, y3, _⟩, _, _, _, _, o0, o1, o4, _⟩ := id hS; obtain ⟨p0, p1, p2, p3, f0, f1, f2, f3⟩ := Trio.P0 hS))
                  all_goals
                    go_wp2_with fail
                    go_meet
                    exact (NewAt.mk (z := (-r.z)) hS.2.1 (by first | exact hBg | exact BigAt.below hBg hbR) (by first | exact hRf | exact RefAt.below hRf hbB) hPlt hS.1.2.2.2.2.2.2.2.2.2.2 Hlz.out)
              by_cases k4 : kd = 4
              · as_aux_lemma =>
                  subst k4
                  have Hlz : Hid ((limbs (r.z + s.z).natAbs).length ≤ 400 + (k + 1)) := by
                    have h1 := Hr.out.2.2
                    have h2 := Hs.out.2.2
                    show (limbs _).length ≤ _
                    have := len_addP h1 h2; omega
                  go_wp2_with fail
                  go_region_held3 (fun w' => w'.cell? ⟨X, 0, none⟩ = some (.int .i64 r.n) ∧ w'.cell? ⟨X, 1, none⟩ = some (.pointer r.q) ∧ w'.cell? ⟨X, 2, none⟩ = some (.bool r.d) ∧ w'.cell? ⟨X, 3, none⟩ = some (.slice r.p r.l r.c) ∧ w'.cell? ⟨Y, 0, none⟩ = some (.int .i64 s.n) ∧ w'.cell? ⟨Y, 1, none⟩ = some (.pointer s.q) ∧ w'.cell? ⟨Y, 2, none⟩ = some (.bool s.d) ∧ w'.cell? ⟨Y, 3, none⟩ = some (.slice s.p s.l s.c)) (first | with_reducible exact Trio.eight hS | with_reducible exact Eight.store (Trio.eight hS) hXP hYP _ _ _ _) (first
                    | (go_at_call 19; refine calls_at (HM.out.add r.z s.z _ _ _ hS.2.2.1.1 hS.2.2.2.1.1 Lr.out Ls.out) (by with_reducible rfl) (by with_reducible rfl) ?_; rintro e wB ⟨v, rfl, hBg, hbB⟩; obtain ⟨n', q', hv⟩ := hBg.shape; subst hv; have hS := Trio.next hS hbB; obtain ⟨⟨x0, x1, x2, x3, y0, y1, y2, y3, _⟩, _, _, _, _, o0, o1, o4, _⟩ := id hS; obtain ⟨p0, p1, p2, p3, f0, f1, f2, f3⟩ := Trio.P0 hS)
                    | (go_at_call 24; refine calls_at (HM.out.radd r.z s.z _ _ _ hS.2.2.1.2.1 hS.2.2.2.1.2.1 Lr.out Ls.out) (by with_reducible rfl) (by with_reducible rfl) ?_; rintro e wR ⟨v, rfl, hRf, hbR⟩; obtain ⟨d', p', l', c', hv⟩ := hRf.shapeP; subst hv; have hS := Trio.next hS hbR; obtain ⟨⟨x0, x1, x2, x3, y0, y1, y2, y3, _⟩, _, _, _, _, o0, o1, o4, _⟩ := id hS; obtain ⟨p0, p1, p2, p3, f0, f1, f2, f3⟩ := Trio.P0 hS))
                  all_goals
                    go_wp2_with fail
                    go_meet
                    exact (NewAt.mk (z := (r.z + s.z)) hS.2.1 (by first | exact hBg | exact BigAt.below hBg hbR) (by first | exact hRf | exact RefAt.below hRf hbB) hPlt hS.1.2.2.2.2.2.2.2.2.2.2 Hlz.out)
              by_cases k5 : kd = 5
              · as_aux_lemma =>
                  subst k5
                  have Hlz : Hid ((limbs (r.z - s.z).natAbs).length ≤ 400 + (k + 1)) := by
                    have h1 := Hr.out.2.2
                    have h2 := Hs.out.2.2
                    show (limbs _).length ≤ _
                    have := len_subP h1 h2; omega
                  go_wp2_with fail
                  go_region_held3 (fun w' => w'.cell? ⟨X, 0, none⟩ = some (.int .i64 r.n) ∧ w'.cell? ⟨X, 1, none⟩ = some (.pointer r.q) ∧ w'.cell? ⟨X, 2, none⟩ = some (.bool r.d) ∧ w'.cell? ⟨X, 3, none⟩ = some (.slice r.p r.l r.c) ∧ w'.cell? ⟨Y, 0, none⟩ = some (.int .i64 s.n) ∧ w'.cell? ⟨Y, 1, none⟩ = some (.pointer s.q) ∧ w'.cell? ⟨Y, 2, none⟩ = some (.bool s.d) ∧ w'.cell? ⟨Y, 3, none⟩ = some (.slice s.p s.l s.c)) (first | with_reducible exact Trio.eight hS | with_reducible exact Eight.store (Trio.eight hS) hXP hYP _ _ _ _) (first
                    | (go_at_call 25; refine calls_at (HM.out.sub r.z s.z _ _ _ hS.2.2.1.1 hS.2.2.2.1.1 Lr.out Ls.out) (by with_reducible rfl) (by with_reducible rfl) ?_; rintro e wB ⟨v, rfl, hBg, hbB⟩; obtain ⟨n', q', hv⟩ := hBg.shape; subst hv; have hS := Trio.next hS hbB; obtain ⟨⟨x0, x1, x2, x3, y0, y1, y2, y3, _⟩, _, _, _, _, o0, o1, o4, _⟩ := id hS; obtain ⟨p0, p1, p2, p3, f0, f1, f2, f3⟩ := Trio.P0 hS)
                    | (go_at_call 26; refine calls_at (HM.out.rsub r.z s.z _ _ _ hS.2.2.1.2.1 hS.2.2.2.1.2.1 Lr.out Ls.out) (by with_reducible rfl) (by with_reducible rfl) ?_; rintro e wR ⟨v, rfl, hRf, hbR⟩; obtain ⟨d', p', l', c', hv⟩ := hRf.shapeP; subst hv; have hS := Trio.next hS hbR; obtain ⟨⟨x0, x1, x2, x3, y0, y1, y2, y3, _⟩, _, _, _, _, o0, o1, o4, _⟩ := id hS; obtain ⟨p0, p1, p2, p3, f0, f1, f2, f3⟩ := Trio.P0 hS))
                  all_goals
                    go_wp2_with fail
                    go_meet
                    exact (NewAt.mk (z := (r.z - s.z)) hS.2.1 (by first | exact hBg | exact BigAt.below hBg hbR) (by first | exact hRf | exact RefAt.below hRf hbB) hPlt hS.1.2.2.2.2.2.2.2.2.2.2 Hlz.out)
              by_cases k6 : kd = 6
              · as_aux_lemma =>
                  subst k6
                  have hkk : k ≤ 60 := by omega
                  have hwp : wrap64 ((r.l : Int) + (s.l : Int)) = (r.l : Int) + (s.l : Int) := wrap_lens (refLe Hr.out hkk) (refLe Hs.out hkk)
                  by_cases h330 : (330 : Int) < (r.l : Int) + (s.l : Int)
                  · go_wp2_with fail
                    have hbK : Below wr.heap.size wr W2 := HTr.out.1.2.2.2.2.2.2.2.2.2.2
                    go_roundw
                    case rel => exact ⟨k + 1, L, by go_num, by omega, by have := Hn.out; omega, (hP.out.kept hbK).mono (by omega), hBel.out.trans (hbK.mono hBel.out.size)⟩
                    case measure => simp [intOf]; omega
                  · have h330' : (r.l : Int) + (s.l : Int) ≤ 330 := Int.not_lt.1 h330
                    have Hlz : Hid ((limbs (r.z * s.z).natAbs).length ≤ 400 + (k + 1)) := by
                      have h1 := Hr.out.2.2
                      have h2 := Hs.out.2.2
                      show (limbs _).length ≤ _
                      exact mul_lens Hr.out Hs.out h330'
                    go_wp2_with fail
                    go_region_held3 (fun w' => w'.cell? ⟨X, 0, none⟩ = some (.int .i64 r.n) ∧ w'.cell? ⟨X, 1, none⟩ = some (.pointer r.q) ∧ w'.cell? ⟨X, 2, none⟩ = some (.bool r.d) ∧ w'.cell? ⟨X, 3, none⟩ = some (.slice r.p r.l r.c) ∧ w'.cell? ⟨Y, 0, none⟩ = some (.int .i64 s.n) ∧ w'.cell? ⟨Y, 1, none⟩ = some (.pointer s.q) ∧ w'.cell? ⟨Y, 2, none⟩ = some (.bool s.d) ∧ w'.cell? ⟨Y, 3, none⟩ = some (.slice s.p s.l s.c)) (first | with_reducible exact Trio.eight hS | with_reducible exact Eight.store (Trio.eight hS) hXP hYP _ _ _ _) (first
                      | (go_at_call 27; refine calls_at (HM.out.mul r.z s.z _ _ _ hS.2.2.1.1 hS.2.2.2.1.1 Lr.out Ls.out) (by with_reducible rfl) (by with_reducible rfl) ?_; rintro e wB ⟨v, rfl, hBg, hbB⟩; obtain ⟨n', q', hv⟩ := hBg.shape; subst hv; have hS := Trio.next hS hbB; obtain ⟨⟨x0, x1, x2, x3, y0, y1, y2, y3, _⟩, _, _, _, _, o0, o1, o4, _⟩ := id hS; obtain ⟨p0, p1, p2, p3, f0, f1, f2, f3⟩ := Trio.P0 hS)
                      | (go_at_call 28; refine calls_at (HM.out.rmul r.z s.z _ _ _ hS.2.2.1.2.1 hS.2.2.2.1.2.1 Lr.out Ls.out) (by with_reducible rfl) (by with_reducible rfl) ?_; rintro e wR ⟨v, rfl, hRf, hbR⟩; obtain ⟨d', p', l', c', hv⟩ := hRf.shapeP; subst hv; have hS := Trio.next hS hbR; obtain ⟨⟨x0, x1, x2, x3, y0, y1, y2, y3, _⟩, _, _, _, _, o0, o1, o4, _⟩ := id hS; obtain ⟨p0, p1, p2, p3, f0, f1, f2, f3⟩ := Trio.P0 hS))
                    all_goals
                      go_wp2_with fail
                      go_meet
                      exact (NewAt.mk (z := (r.z * s.z)) hS.2.1 (by first | exact hBg | exact BigAt.below hBg hbR) (by first | exact hRf | exact RefAt.below hRf hbB) hPlt hS.1.2.2.2.2.2.2.2.2.2.2 Hlz.out)
              by_cases k7 : kd = 7
              · as_aux_lemma =>
                  subst k7
                  obtain ⟨z, e0, bz, hlz, hC1, hC2⟩ := HM.out.div r.z s.z Lr.out Ls.out
                  have HC1 : Hid (∀ (va vb : Value) (w : World), BigAt w va r.z → BigAt w vb s.z → Calls Tryd.prog 29 #[va, vb] w fun e w' => ∃ r, e = .returned (.tuple #[r, .int .i64 e0]) ∧ BigAt w' r z ∧ Below w.heap.size w w') := hC1
                  have HC2 : Hid (∀ (va vb : Value) (w : World), RefAt w va r.z → RefAt w vb s.z → Calls Tryd.prog 30 #[va, vb] w fun e w' => ∃ r, e = .returned (.tuple #[r, .bool bz]) ∧ RefAt w' r z ∧ Below w.heap.size w w') := hC2
                  have Hlz : Hid ((limbs z.natAbs).length ≤ 400 + (k + 1)) := by
                    have h1 := Hr.out.2.2
                    show (limbs _).length ≤ _
                    omega
                  clear hC1 hC2 hlz
                  go_wp2_with fail
                  refine (HC1.out _ _ W2 HTr.out.2.2.1.1 HTr.out.2.2.2.1.1).mono ?_
                  rintro e wB ⟨v, rfl, hBg, hbB⟩
                  obtain ⟨n1, q1', hv⟩ := hBg.shape
                  subst hv
                  obtain ⟨WB, hWB⟩ : ∃ WB, wB.alloc (.cells #[.int .i64 n1, .pointer q1'] 24) = WB := ⟨_, rfl⟩
                  obtain ⟨bA, hBA, hsA⟩ := new_box wB n1 q1' hWB
                  have hS := (Trio.next HTr.out hbB).next hBA
                  have hBg := hBg.below hBA
                  obtain ⟨⟨x0, x1, x2, x3, y0, y1, y2, y3, _⟩, _, _, _, _, o0, o1, o4, _⟩ := id hS
                  go_wp2_with fail
                  refine (HC2.out _ _ WB hS.2.2.1.2.1 hS.2.2.2.1.2.1).mono ?_
                  rintro e wR ⟨v, rfl, hRf, hbR⟩
                  obtain ⟨d1, p1', l1', c1', hv⟩ := hRf.shapeP
                  subst hv
                  clear hWB
                  obtain ⟨WR, hWR⟩ : ∃ WR, wR.alloc (.cells #[.bool d1, .slice p1' l1' c1'] 30) = WR := ⟨_, rfl⟩
                  have hBR : Below wR.heap.size wR WR := by rw [← hWR]; exact (Below.refl _ _).alloc (Nat.le_refl _) _
                  have bY : WR.heap[wR.heap.size]? = some (.cells #[.bool d1, .slice p1' l1' c1'] 30) := by rw [← hWR]; exact World.alloc_heap_new wR _
                  have hbAR : Below WB.heap.size WB WR := hbR.trans (hBR.mono hbR.size)
                  have bX := (hbAR.block wB.heap.size (by omega)).trans bA
                  obtain ⟨g0, g1, _, _⟩ := box_facts bX
                  obtain ⟨h0, h1', _, _⟩ := rbox_facts bY
                  have hS := hS.next hbAR
                  have hBg := hBg.below hbAR
                  have hRf := hRf.below hBR
                  obtain ⟨p0, p1, p2, p3, f0, f1, f2, f3⟩ := Trio.P0 hS
                  clear bA bX bY hsA hbAR hBA hbB hbR hBR x0 x1 x2 x3 y0 y1 y2 y3 o0 o1 o4
                  go_wp2_with fail
                  go_meet
                  exact NewAt.mk (z := z) hS.2.1 hBg hRf hPlt hS.1.2.2.2.2.2.2.2.2.2.2 Hlz.out
              go_wp2_with fail
              have hbK : Below wr.heap.size wr W2 := HTr.out.1.2.2.2.2.2.2.2.2.2.2
              go_roundw
              case rel => exact ⟨k + 1, L, by go_num, by omega, by have := Hn.out; omega, (hP.out.kept hbK).mono (by omega), hBel.out.trans (hbK.mono hBel.out.size)⟩
              case measure => simp [intOf]; omega
          case rest =>
            as_aux_lemma =>
              obtain ⟨n', q', d', p', l', c', z, q0, q1, q2, q3, hBV, hRV, hlz, hbV, hPV⟩ := hcut
              have HPV : Hid (PairsAt wc w.heap.size (.slice (some ⟨lb, 0, none⟩) n lc) L (400 + k)) := hP.out.kept hbV
              have HbV : Hid (Below wr.heap.size wr wc) := hbV
              have HTV : Hid (Tab wc) := HT.out.below (hBel.out.trans (hbV.mono hBel.out.size)) HT.out.2
              have Hlz : Hid ((limbs z.natAbs).length ≤ 400 + (k + 1)) := hlz
              clear x0 x1 x2 x3 y0 y1 y2 y3 o0 o1 o4 hbV hlz HTr hS
              go_wp2_with fail
              refine (HM.out.ok _ _ _ _ _ _ _ wc hBV hRV HTV.out (by have := Hlz.out; omega)).mono ?_
              rintro e w5 ⟨rfl, hb5⟩
              have hP5 : PairsAt w5 w.heap.size (.slice (some ⟨lb, 0, none⟩) n lc) L (400 + (k + 1)) := (HPV.out.kept hb5).mono (by omega)
              have hr5 : Pr.At w5 (400 + (k + 1)) ⟨n', q', d', p', l', c', z⟩ := ⟨hBV.below hb5, hRV.below hb5, Hlz.out⟩
              have s0 := (hb5.cell (p := ⟨wq.heap.size, 0, none⟩) hPV).trans q0
              have s1 := (hb5.cell (p := ⟨wq.heap.size, 1, none⟩) hPV).trans q1
              have s2 := (hb5.cell (p := ⟨wq.heap.size, 2, none⟩) hPV).trans q2
              have s3 := (hb5.cell (p := ⟨wq.heap.size, 3, none⟩) hPV).trans q3
              have hwr5 : Below wr.heap.size wr w5 := HbV.out.trans (hb5.mono HbV.out.size)
              have Hw5 : Hid (Below w.heap.size w w5) := hBel.out.trans (hwr5.mono hBel.out.size)
              have hL5 : L.length ≤ 1000 := by have := Hn.out; omega
              have hbase5 : w.heap.size ≤ w5.heap.size := Hw5.out.size
              have HP5 : Hid (PairsAt w5 w.heap.size (.slice (some ⟨lb, 0, none⟩) n lc) L (400 + (k + 1))) := hP5
              have Hr5 : Hid (Pr.At w5 (400 + (k + 1)) ⟨n', q', d', p', l', c', z⟩) := hr5
              clear q0 q1 q2 q3 hBV hRV hb5 hP5 hr5 hPV hwr5 HPV HbV HTV
              go_wp2_with (at_builtin; refine append_pair' w5 _ _ _ _ _ _ z rfl (.tmp 166) (.tmp 168) rfl w.heap.size _ L (400 + (k + 1)) (by rfl) HP5.out Hr5.out _ rfl (by rfl) hL5 hbase5 ?_; intro v6 w6 hP6 hb6)
              go_roundw
              case rel => exact ⟨k + 1, L ++ [(⟨n', q', d', p', l', c', z⟩ : Pr)], by go_num, by omega, by have := Hn.out; simp; omega, hP6, Hw5.out.trans hb6⟩
              case measure => simp [intOf]; omega
  · as_aux_lemma =>
      rename World => wo
      have Hcells : Hid (∀ (k : Nat) (hk : k < L.length), wo.cell? ⟨lb, k * 4, none⟩ = some (.int .i64 L[k].n) ∧ wo.cell? ⟨lb, k * 4 + 1, none⟩ = some (.pointer L[k].q) ∧ wo.cell? ⟨lb, k * 4 + 2, none⟩ = some (.bool L[k].d) ∧ wo.cell? ⟨lb, k * 4 + 3, none⟩ = some (.slice L[k].p L[k].l L[k].c)) := hcells
      obtain rfl : k = N := by omega
      clear hcells hn hkN
      go_wp2_with fail
      go_loopw [17] (fun iv w' => ∃ j : Nat, iv = .int .i64 (j : Int) ∧ j ≤ n ∧ Hid (Below wo.heap.size wo w')) (fun iv _ => n - (intOf iv).toNat)
      case atStart => exact ⟨0, rfl, Nat.zero_le _, Below.refl _ _⟩
      obtain ⟨j, rfl, hj, hbj⟩ := hrel
      by_cases hjn : j < n
      · have hjI : (j : Int) < (n : Int) := by omega
        have hjL : j < L.length := by have := Hn.out; omega
        obtain ⟨c0, c1, c2, c3⟩ := Hcells.out j hjL
        have hAt := hP.out.2.2 _ (List.getElem_mem hjL)
        obtain ⟨r, hr⟩ : ∃ r, L[j] = r := ⟨_, rfl⟩
        rw [hr] at c0 c1 c2 c3 hAt
        have e0 := (hbj.out.cell (p := ⟨lb, j * 4, none⟩) hlb).trans c0
        have e1 := (hbj.out.cell (p := ⟨lb, j * 4 + 1, none⟩) hlb).trans c1
        have e2 := (hbj.out.cell (p := ⟨lb, j * 4 + 2, none⟩) hlb).trans c2
        have e3 := (hbj.out.cell (p := ⟨lb, j * 4 + 3, none⟩) hlb).trans c3
        have HAt : Hid (Pr.At wr (400 + k) r) := hAt.below hbj.out
        have HTV : Hid (Tab wr) := HT.out.below (hBel.out.trans (hbj.out.mono hBel.out.size)) HT.out.2
        clear c0 c1 c2 c3 hr hAt
        go_wp2_with fail
        refine (HM.out.ok r.z _ _ _ _ _ _ wr HAt.out.1 HAt.out.2.1 HTV.out (by have := HAt.out.2.2; omega)).mono ?_
        rintro e w5 ⟨rfl, hb5⟩
        have hfin : Hid (Below wo.heap.size wo w5) := hbj.out.trans (hb5.mono hbj.out.size)
        go_wp2_with fail
        go_roundw
        case rel => exact ⟨j + 1, by go_num, by omega, hfin⟩
        case measure => simp [intOf]; omega
      · obtain rfl : j = n := by omega
        have hfin : Hid (Below w.heap.size w wr) := hBel.out.trans (hbj.out.mono hBel.out.size)
        go_wp2_with fail
        go_ret
        exact ⟨rfl, hfin.out⟩
end Go.Proofs.YtangepgiamhenaaDoor
