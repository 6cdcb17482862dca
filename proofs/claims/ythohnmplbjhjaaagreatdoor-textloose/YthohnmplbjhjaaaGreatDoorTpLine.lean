/-
  A page: a line.
-/
import Derived.Test.YthohnmplbjhjaaaGreatDoorTpForms
import Derived.Test.YthohnmplbjhjaaaGreatDoorJ11
import Derived.Deep.CutBlock
import Derived.Deep.CutRange
namespace Go.Proofs.YthohnmplbjhjaaaGreatDoor
open Go Go.RowKit

/-- The table of lines. -/
def formCells : Array Value := #[.string ⟨#[]⟩, .nilFunc, .nilFunc,
  .string ⟨#[108, 105, 110]⟩, .func (.func 79) #[] #[], .func (.func 83) #[] #[],
  .string ⟨#[110, 101]⟩, .func (.func 85) #[] #[], .func (.func 86) #[] #[],
  .string ⟨#[97, 108, 108, 100, 105, 102, 102]⟩, .func (.func 87) #[] #[], .func (.func 88) #[] #[],
  .string ⟨#[101, 108, 101, 109, 101, 110, 116]⟩, .func (.func 89) #[] #[], .func (.func 91) #[] #[],
  .string ⟨#[109, 97, 120]⟩, .func (.func 70) #[] #[], .func (.func 73) #[] #[],
  .string ⟨#[109, 105, 110]⟩, .func (.func 70) #[] #[], .func (.func 73) #[] #[],
  .string ⟨#[114, 101, 105, 102]⟩, .func (.func 92) #[] #[], .func (.func 93) #[] #[],
  .string ⟨#[116, 97, 98, 108, 101]⟩, .func (.func 94) #[] #[], .func (.func 95) #[] #[],
  .string ⟨#[99, 111, 117, 110, 116]⟩, .func (.func 97) #[] #[], .func (.func 98) #[] #[],
  .string ⟨#[118, 97, 114]⟩, .func (.func 75) #[] #[], .func (.func 76) #[] #[],
  .string ⟨#[109, 105, 110, 105, 109, 105, 122, 101]⟩, .func (.func 99) #[] #[], .func (.func 100) #[] #[]]
theorem forms_size : (Tryz.prog.info? 106).map (·.size) = some formCells.size := by kernel_rfl
theorem forms_one : formCells.all (·.oneCell') = true := by kernel_rfl

set_option maxRecDepth 10000 in
set_option maxHeartbeats 400000 in
theorem forms_any (w : World) : Calls Tryz.prog 43 #[] w fun e w' => e = .returned (.agg formCells) ∧ Below w.heap.size w w' := by
  go_enter Tryz.func43, Tryz.ntmps43
  go_wp2_with (first
    | (refine wpList_build_to rfl 106 _ rfl formCells (by kernel_rfl) ?_)
    | (refine wpList_store_row rfl 106 _ _ rfl w.heap.size formCells rfl rfl 106 _ (heap_alloc_new w _) forms_size (by rfl) forms_one ?_; rw [setRow_alloc]))
  exact bodyPost_ret (v := .agg formCells) (results_cell_row (p := 0) (ty := 106) rfl _ _ w.heap.size 106 formCells (0, 0) (.array 12 105) rfl (heap_alloc_new w _) (by kernel_rfl) rfl forms_size) rfl ⟨rfl, (Below.refl _ _).alloc (Nat.le_refl _) _⟩

theorem Bx.below {w0 w : World} {N : Nat} {cs : Array Value} {w' w2 : World} (h : Bx w0 w N cs w') (k : Below w'.heap.size w' w2) : Bx w0 w N cs w2 := h.kq (Kq.of_below k (Nat.le_trans h.2.2 h.2.1.low.size))
theorem box3c {w : World} {N : Nat} {a0 a1 a2 : Value} {t : TypeId} (h : w.heap[N]? = some (.cells #[a0, a1, a2] t (0, 0))) : w.cell? ⟨N, 0, none⟩ = some a0 ∧ w.cell? ⟨N, 1, none⟩ = some a1 ∧ w.cell? ⟨N, 2, none⟩ = some a2 ∧ w.frozen? ⟨N, 0, none⟩ = false ∧ w.frozen? ⟨N, 1, none⟩ = false ∧ w.frozen? ⟨N, 2, none⟩ = false := by
  refine ⟨?_, ?_, ?_, ?_, ?_, ?_⟩ <;> simp [World.cell?, World.frozen?, h]
theorem made3 {W w1 : World} {a0 a1 a2 : Value} {t : TypeId} (hb : Below (W.alloc (.cells #[a0, a1, a2] t)).drew.heap.size (W.alloc (.cells #[a0, a1, a2] t)).drew w1) : w1.heap[W.heap.size]? = some (.cells #[a0, a1, a2] t (0, 0)) :=
  (hb.block W.heap.size (by show W.heap.size < (W.alloc _).heap.size; simp)).trans (by show (W.alloc _).heap[W.heap.size]? = _; exact heap_alloc_new W _)
theorem Bx.set {w0 w : World} {N : Nat} {cs : Array Value} {w' : World} (h : Bx w0 w N cs w') {g : Nat} (hg : w.heap.size < g) (hN : N ≤ w.heap.size) (i : Nat) (u : Value) : Bx w0 w N cs (w'.setCell ⟨g, i, none⟩ u) := by
  refine ⟨?_, ⟨h.2.1.low.setCell (p := ⟨g, i, none⟩) (by have := h.2.2; simp only; omega) u, fun k c ty fz e h5 h8 => ?_⟩, h.2.2⟩
  · rw [Below.heap_setCell w' ⟨g, i, none⟩ u N (by simp only; omega)]; exact h.1
  · have hk : k < w.heap.size := (Array.getElem?_eq_some_iff.1 e).1
    rw [Below.heap_setCell w' ⟨g, i, none⟩ u k (by simp only; omega)]; exact h.2.1.other k c ty fz e h5 h8
theorem Bx.set3 {w0 w : World} {N : Nat} {cs : Array Value} {w' : World} (h : Bx w0 w N cs w') {g : Nat} (hg : w.heap.size < g) (hN : N ≤ w.heap.size) (u0 u1 u2 : Value) : Bx w0 w N cs (((w'.setCell ⟨g, 0, none⟩ u0).setCell ⟨g, 1, none⟩ u1).setCell ⟨g, 2, none⟩ u2) :=
  ((h.set hg hN 0 u0).set hg hN 1 u1).set hg hN 2 u2
/-- The line's form is looked up. -/
def Looked (w0 w : World) (b : Nat) (va : Value) (L0 : List UInt8) (cs : Array Value) (u0 u1 u2 : Value) (Y : Nat) (wx : World) : Prop :=
  wx.heap[Y]? = some (.cells #[u0, u1, u2] 105 (0, 0)) ∧ Bx w0 w w.heap.size cs wx ∧ PageAt w0.heap.size b va L0 wx
theorem looked_a {w0 w W w1 : World} {b : Nat} {va : Value} {L0 : List UInt8} {cs : Array Value} {u0 u1 u2 : Value} (hB : Bx w0 w w.heap.size cs W.drew) (hP : PageAt w0.heap.size b va L0 W.drew) (hb : Below W.drew.heap.size W.drew w1) :
    Looked w0 w b va L0 cs u0 u1 u2 w1.heap.size (w1.alloc (.cells #[u0, u1, u2] 105)) :=
  ⟨heap_alloc_new w1 _, (hB.below hb).alloc _, page_alloc (page_below hP hb) _⟩
theorem looked_b {w0 w W w1 : World} {b : Nat} {va : Value} {L0 : List UInt8} {cs : Array Value} {u0 u1 u2 a0 a1 a2 : Value} (hB : Bx w0 w w.heap.size cs W.drew) (hP : PageAt w0.heap.size b va L0 W.drew) (hg : w.heap.size < W.heap.size) (hb : Below (W.alloc (.cells #[a0, a1, a2] 105)).drew.heap.size (W.alloc (.cells #[a0, a1, a2] 105)).drew w1) :
    Looked w0 w b va L0 cs u0 u1 u2 W.heap.size (((w1.setCell ⟨W.heap.size, 0, none⟩ u0).setCell ⟨W.heap.size, 1, none⟩ u1).setCell ⟨W.heap.size, 2, none⟩ u2) := by
  have hz := made3 hb
  have ha : Below W.drew.heap.size W.drew (W.alloc (.cells #[a0, a1, a2] 105)).drew := ((Below.refl W.heap.size W.drew).alloc (Nat.le_refl _) _)
  have h1 : Below W.drew.heap.size W.drew w1 := ha.trans (hb.mono ha.size)
  refine ⟨?_, ((hB.alloc _).below hb).set3 hg (Nat.le_refl _) _ _ _, page_below hP (((h1.setCell (p := ⟨W.heap.size, 0, none⟩) (Nat.le_refl _) _).setCell (p := ⟨W.heap.size, 1, none⟩) (Nat.le_refl _) _).setCell (p := ⟨W.heap.size, 2, none⟩) (Nat.le_refl _) _)⟩
  simp [World.setCell, Array.getElem?_modify, hz]
theorem Looked.drew {w0 w : World} {b : Nat} {va : Value} {L0 : List UInt8} {cs : Array Value} {u0 u1 u2 : Value} {Y : Nat} {wx : World} (h : Looked w0 w b va L0 cs u0 u1 u2 Y wx) : Looked w0 w b va L0 cs u0 u1 u2 Y wx.drew := ⟨h.1, ⟨h.2.1.1, h.2.1.2.1.drew, h.2.1.2.2⟩, page_drew h.2.2⟩
theorem Looked.write {w0 w : World} {b : Nat} {va : Value} {L0 L1 : List UInt8} {cs : Array Value} {u0 u1 u2 : Value} {Y : Nat} {wx w2 : World} (h : Looked w0 w b va L0 cs u0 u1 u2 Y wx) (k : Kq w0.heap.size wx w2) (p : PageAt w0.heap.size b va L1 w2) : Looked w0 w b va L1 cs u0 u1 u2 Y w2 := ⟨k.other Y _ 105 _ h.1 (by decide) (by decide), h.2.1.kq k, p⟩

set_option maxHeartbeats 4000000 in
set_option maxRecDepth 10000 in
theorem line_any {w0 : World} (b : Nat) (va : Value) (L0 T : List UInt8) (name : ByteArray) (lo hi kind op : Int) (vt : Value) (k v x y : Int) (vx vb vr : Value) (wd : ByteArray) (rd F : Nat) (w : World) (hw : Way w0 w)
    (hidx : ∀ w, (Instr.index 106 (.agg formCells) (.int .i64 kind)).run Tryz.prog w = .ok (.agg #[.string wd, .func (.func rd) #[] #[], .func (.func F) #[] #[]]) w)
    (hE : ∀ args w, (callFunc F args).run Tryz.prog w = .ok (.enter F args) w)
    (hC : ∀ w', Way w0 w' → PageAt w0.heap.size b va (L0 ++ wd.data.toList) w' → Calls Tryz.prog F #[.pointer (some ⟨b, 0, none⟩), .agg (sayC name lo hi kind op vt k v x y vx vb vr)] w' fun e w'' => e = .returned (.tuple #[]) ∧ PageAt w0.heap.size b va (L0 ++ wd.data.toList ++ T) w'' ∧ Kq w0.heap.size w' w'')
    (h : PageAt w0.heap.size b va L0 w) (hl : L0.length + wd.size ≤ 600000000) (hT : T.length ≤ 1000000) :
    Calls Tryz.prog 23 #[.pointer (some ⟨b, 0, none⟩), .agg (sayC name lo hi kind op vt k v x y vx vb vr)] w fun e w' => e = .returned (.tuple #[]) ∧ PageAt w0.heap.size b va (L0 ++ wd.data.toList ++ T ++ [10]) w' ∧ Kq w0.heap.size w w' := by
  have HW : Hid (Way w0 w) := hw
  have HL : Hid (L0.length + wd.size ≤ 600000000) := hl
  have HT : Hid (T.length ≤ 1000000) := hT
  have HC : Hid (∀ w', Way w0 w' → PageAt w0.heap.size b va (L0 ++ wd.data.toList) w' → Calls Tryz.prog F #[.pointer (some ⟨b, 0, none⟩), .agg (sayC name lo hi kind op vt k v x y vx vb vr)] w' fun e w'' => e = .returned (.tuple #[]) ∧ PageAt w0.heap.size b va (L0 ++ wd.data.toList ++ T) w'' ∧ Kq w0.heap.size w' w'') := hC
  obtain ⟨W, hW⟩ : ∃ W, w.alloc (.cells (sayC name lo hi kind op vt k v x y vx vb vr) 74) = W := ⟨_, rfl⟩
  have HB : Hid (Bx w0 w w.heap.size (sayC name lo hi kind op vt k v x y vx vb vr) W.drew) := Bx.made _ HW.out.low.size hW
  have hp0 : PageAt w0.heap.size b va L0 W.drew := by rw [← hW]; exact page_drew (page_alloc h _)
  have HP0 : Hid (PageAt w0.heap.size b va L0 W.drew) := hp0
  have HSx : Hid (∀ w', Bx w0 w w.heap.size (sayC name lo hi kind op vt k v x y vx vb vr) w' → w'.cell? ⟨w.heap.size, 3, none⟩ = some (.int .i64 kind) ∧ Bx w0 w w.heap.size (sayC name lo hi kind op vt k v x y vx vb vr) w') := fun w' h => ⟨h.cell 3 _ rfl, h⟩
  have HGt : Hid (w.heap.size < W.heap.size) := by show _ < _; rw [← hW]; simp
  clear hw hl hT hC h hp0
  have hW' := hW
  unfold sayC at hW'
  have e0 : Value.agg (sayC name lo hi kind op vt k v x y vx vb vr) = .agg #[.string name, .int .i64 lo, .int .i64 hi, .int .i64 kind, .int .i64 op, vt, .int .i64 k, .int .i64 v, .int .i64 x, .int .i64 y, vx, vb, vr] := rfl
  rw [e0]
  clear e0
  go_enter Tryz.func23, Tryz.ntmps23
  go_wp2_with fail
  try rw [hW']
  clear hW hW'
  go_cut [4] from 5 to 9 (fun tv wx => ∃ Y, tv = .pointer (some ⟨Y, 0, none⟩) ∧ Hid (Looked w0 w b va L0 (sayC name lo hi kind op vt k v x y vx vb vr) (.string wd) (.func (.func rd) #[] #[]) (.func (.func F) #[] #[]) Y wx))
  case first =>
    go_region_held3 (fun w' => w'.cell? ⟨w.heap.size, 3, none⟩ = some (.int .i64 kind) ∧ Bx w0 w w.heap.size (sayC name lo hi kind op vt k v x y vx vb vr) w')
      (first | exact HSx.out _ HB.out | exact HSx.out _ ((HB.out.below hb1).alloc _) | exact HSx.out _ (Bx.set3 (Bx.below (Bx.alloc HB.out _) hb1) HGt.out (Nat.le_refl _) _ _ _) | exact HSx.out _ (Bx.alloc (And.right (by assumption)) _) | exact HSx.out _ (Bx.below (And.right (by assumption)) (by assumption)) | assumption)
      (first | (go_at_call 43; refine calls_at (forms_any _) (by with_reducible rfl) (by with_reducible rfl) ?_; rintro e w1 ⟨rfl, hb1⟩; have hz := made3 hb1; obtain ⟨z0, z1, z2, z3, z4, z5⟩ := box3c hz) | (go_at_call 43; refine calls_at (forms_any _) (by with_reducible rfl) (by with_reducible rfl) ?_; rintro e w1 ⟨rfl, hb1⟩))
    all_goals
      go_wp2_with fail
      go_meet
      case rel => first | exact ⟨_, rfl, looked_a HB.out HP0.out hb1⟩ | exact ⟨_, rfl, looked_b HB.out HP0.out HGt.out hb1⟩
  case rest =>
    obtain ⟨Y, rfl, hLk⟩ := hcut
    rename World => wk
    clear HSx HGt HB HP0
    have HLk : Hid (Looked w0 w b va L0 (sayC name lo hi kind op vt k v x y vx vb vr) (.string wd) (.func (.func rd) #[] #[]) (.func (.func F) #[] #[]) Y wk) := hLk.out
    obtain ⟨y0, y1, y2, _, _, _⟩ := box3c hLk.out.1
    have HSz : Hid (L0.length + wd.size ≤ 1000000000) := by have := HL.out; show _ ≤ _; omega
    clear y0 y1 y2 hLk
    go_wp2_with fail
    go_region_held3 (fun w' => w'.cell? ⟨Y, 0, none⟩ = some (.string wd))
      (first | exact (box3c (Looked.drew HLk.out).1).1 | exact (box3c (Looked.write (Looked.drew HLk.out) (by assumption) (by assumption)).1).1 | assumption)
      (first | (go_at_call 44; refine calls_at (writeString_any w0.heap.size b va L0 wd _ ?_ HSz.out ?_) (by with_reducible rfl) (by with_reducible rfl) ?_; exact (Looked.drew HLk.out).2.2; exact (HW.out.next (Looked.drew HLk.out).2.1.2.1).low.size; rintro e w2 ⟨rfl, hp2, hk2⟩))
    have HLk2 : Hid (Looked w0 w b va (L0 ++ wd.data.toList) (sayC name lo hi kind op vt k v x y vx vb vr) (.string wd) (.func (.func rd) #[] #[]) (.func (.func F) #[] #[]) Y w2) := Looked.write (Looked.drew HLk.out) hk2 hp2
    clear hp2 hk2
    obtain ⟨y0, y1, y2, _, _, _⟩ := box3c HLk2.out.1
    have q0 : w2.cell? ⟨w.heap.size, 0, none⟩ = some (.string name) := HLk2.out.2.1.cell 0 _ rfl
    have q1 : w2.cell? ⟨w.heap.size, 1, none⟩ = some (.int .i64 lo) := HLk2.out.2.1.cell 1 _ rfl
    have q2 : w2.cell? ⟨w.heap.size, 2, none⟩ = some (.int .i64 hi) := HLk2.out.2.1.cell 2 _ rfl
    have q3 : w2.cell? ⟨w.heap.size, 3, none⟩ = some (.int .i64 kind) := HLk2.out.2.1.cell 3 _ rfl
    have q4 : w2.cell? ⟨w.heap.size, 4, none⟩ = some (.int .i64 op) := HLk2.out.2.1.cell 4 _ rfl
    have q5 : w2.cell? ⟨w.heap.size, 5, none⟩ = some (vt) := HLk2.out.2.1.cell 5 _ rfl
    have q6 : w2.cell? ⟨w.heap.size, 6, none⟩ = some (.int .i64 k) := HLk2.out.2.1.cell 6 _ rfl
    have q7 : w2.cell? ⟨w.heap.size, 7, none⟩ = some (.int .i64 v) := HLk2.out.2.1.cell 7 _ rfl
    have q8 : w2.cell? ⟨w.heap.size, 8, none⟩ = some (.int .i64 x) := HLk2.out.2.1.cell 8 _ rfl
    have q9 : w2.cell? ⟨w.heap.size, 9, none⟩ = some (.int .i64 y) := HLk2.out.2.1.cell 9 _ rfl
    have q10 : w2.cell? ⟨w.heap.size, 10, none⟩ = some (vx) := HLk2.out.2.1.cell 10 _ rfl
    have q11 : w2.cell? ⟨w.heap.size, 11, none⟩ = some (vb) := HLk2.out.2.1.cell 11 _ rfl
    have q12 : w2.cell? ⟨w.heap.size, 12, none⟩ = some (vr) := HLk2.out.2.1.cell 12 _ rfl
    have HC2 := HC.out w2 (HW.out.next HLk2.out.2.1.2.1) HLk2.out.2.2
    have HC3 : Hid (Calls Tryz.prog F #[.pointer (some ⟨b, 0, none⟩), .agg #[.string name, .int .i64 lo, .int .i64 hi, .int .i64 kind, .int .i64 op, vt, .int .i64 k, .int .i64 v, .int .i64 x, .int .i64 y, vx, vb, vr]] w2 fun e w'' => e = .returned (.tuple #[]) ∧ PageAt w0.heap.size b va (L0 ++ wd.data.toList ++ T) w'' ∧ Kq w0.heap.size w2 w'') := HC2
    clear HC2
    go_wp2_with fail
    refine calls_at HC3.out (by with_reducible rfl) (by with_reducible rfl) ?_
    rintro e w3 ⟨rfl, hp3, hk3⟩
    have HP3 : Hid (PageAt w0.heap.size b va (L0 ++ wd.data.toList ++ T) w3) := hp3
    have HK3 : Hid (Kq w0.heap.size w w3) := HLk2.out.2.1.2.1.trans hk3
    have HSw : Hid ((L0 ++ wd.data.toList ++ T).length ≤ 1000000000) := by
      have h1 := HL.out
      have h2 := HT.out
      have h3 := size_toList wd
      show _ ≤ _
      rw [List.length_append, List.length_append]
      omega
    clear hp3 hk3 q0 q1 q2 q3 q4 q5 q6 q7 q8 q9 q10 q11 q12 y0 y1 y2
    go_wp2_with (go_at_call 45; refine calls_at (writeByte_any w0.heap.size b va (L0 ++ wd.data.toList ++ T) 10 10 rfl w3 HP3.out HSw.out (HW.out.next HK3.out).low.size) (by with_reducible rfl) (by with_reducible rfl) ?_; rintro e w4 ⟨rfl, hp4, hk4⟩; have HP4 : Hid (PageAt w0.heap.size b va (L0 ++ wd.data.toList ++ T ++ [10]) w4) := hp4; have HK4 : Hid (Kq w0.heap.size w w4) := HK3.out.trans hk4; clear hp4 hk4)
    go_end0
    exact ⟨rfl, HP4.out, HK4.out⟩
end Go.Proofs.YthohnmplbjhjaaaGreatDoor
