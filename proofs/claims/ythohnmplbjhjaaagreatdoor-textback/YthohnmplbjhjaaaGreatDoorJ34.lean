/-
  Put together: TrSay0, TrSay, TrLay0.
-/
import Derived.Test.YthohnmplbjhjaaaGreatDoorJ33
import Derived.Test.YthohnmplbjhjaaaGreatDoorJ15
namespace Go.Proofs.YthohnmplbjhjaaaGreatDoor
open Go Go.RowKit Go.Shelf Go.Lib
def xt (k : Nat) : List UInt8 :=
  if k = 1 then [108, 105, 110] else if k = 2 then [110, 101] else if k = 3 then [97, 108, 108, 100, 105, 102, 102] else if k = 4 then [101, 108, 101, 109, 101, 110, 116] else if k = 5 then [109, 97, 120] else if k = 6 then [109, 105, 110]
  else if k = 7 then [114, 101, 105, 102] else if k = 8 then [116, 97, 98, 108, 101] else if k = 9 then [99, 111, 117, 110, 116] else if k = 10 then [118, 97, 114] else if k = 11 then [109, 105, 110, 105, 109, 105, 122, 101] else []
def fnK (k : Nat) : Nat := if k = 1 then 79 else if k = 2 then 85 else if k = 3 then 87 else if k = 4 then 89 else if k = 5 then 70 else if k = 6 then 70 else if k = 7 then 92 else if k = 8 then 94 else if k = 9 then 97 else if k = 10 then 75 else 99
theorem y4A (x : List UInt8) (k : Nat) (h1 : 1 ≤ k) (h2 : k ≤ 11) (hx : x = xt k) : zF x = k := by
  subst hx
  rcases (by omega : k = 1 ∨ k = 2 ∨ k = 3 ∨ k = 4 ∨ k = 5 ∨ k = 6 ∨ k = 7 ∨ k = 8 ∨ k = 9 ∨ k = 10 ∨ k = 11) with rfl | rfl | rfl | rfl | rfl | rfl | rfl | rfl | rfl | rfl | rfl <;> rfl
theorem y4z (x : List UInt8) (h : ∀ k, 1 ≤ k → k < 12 → x ≠ xt k) : zF x = 0 := by
  unfold zF
  rw [if_neg (show ¬ x = [108, 105, 110] from h 1 (by omega) (by omega))]
  rw [if_neg (show ¬ x = [110, 101] from h 2 (by omega) (by omega))]
  rw [if_neg (show ¬ x = [97, 108, 108, 100, 105, 102, 102] from h 3 (by omega) (by omega))]
  rw [if_neg (show ¬ x = [101, 108, 101, 109, 101, 110, 116] from h 4 (by omega) (by omega))]
  rw [if_neg (show ¬ x = [109, 97, 120] from h 5 (by omega) (by omega))]
  rw [if_neg (show ¬ x = [109, 105, 110] from h 6 (by omega) (by omega))]
  rw [if_neg (show ¬ x = [114, 101, 105, 102] from h 7 (by omega) (by omega))]
  rw [if_neg (show ¬ x = [116, 97, 98, 108, 101] from h 8 (by omega) (by omega))]
  rw [if_neg (show ¬ x = [99, 111, 117, 110, 116] from h 9 (by omega) (by omega))]
  rw [if_neg (show ¬ x = [118, 97, 114] from h 10 (by omega) (by omega))]
  rw [if_neg (show ¬ x = [109, 105, 110, 105, 109, 105, 122, 101] from h 11 (by omega) (by omega))]
theorem QU (k : Nat) (h1 : 1 ≤ k) (h2 : k ≤ 11) : ∃ pr, ∀ w, (Instr.index 106 (.agg formCells) (.int .i64 (k : Int))).run Tryz.prog w = .ok (.agg #[.string (yd (xt k)), .func (.func (fnK k)) #[] #[], .func (.func pr) #[] #[]]) w := by
  rcases (by omega : k = 1 ∨ k = 2 ∨ k = 3 ∨ k = 4 ∨ k = 5 ∨ k = 6 ∨ k = 7 ∨ k = 8 ∨ k = 9 ∨ k = 10 ∨ k = 11) with rfl | rfl | rfl | rfl | rfl | rfl | rfl | rfl | rfl | rfl | rfl
  · exact ⟨83, fun w => by kernel_rfl⟩
  · exact ⟨86, fun w => by kernel_rfl⟩
  · exact ⟨88, fun w => by kernel_rfl⟩
  · exact ⟨91, fun w => by kernel_rfl⟩
  · exact ⟨73, fun w => by kernel_rfl⟩
  · exact ⟨73, fun w => by kernel_rfl⟩
  · exact ⟨93, fun w => by kernel_rfl⟩
  · exact ⟨95, fun w => by kernel_rfl⟩
  · exact ⟨98, fun w => by kernel_rfl⟩
  · exact ⟨76, fun w => by kernel_rfl⟩
  · exact ⟨100, fun w => by kernel_rfl⟩
theorem y4D : ∀ w, (Instr.index 106 (.agg formCells) (.int .i64 0)).run Tryz.prog w = .ok (.agg #[.string (yd []), .nilFunc, .nilFunc]) w := fun w => by kernel_rfl
theorem y4B (k : Nat) (h1 : 1 ≤ k) (h2 : k ≤ 11) : ∀ args w, (callFunc (fnK k) args).run Tryz.prog w = .ok (.enter (fnK k) args) w := by
  rcases (by omega : k = 1 ∨ k = 2 ∨ k = 3 ∨ k = 4 ∨ k = 5 ∨ k = 6 ∨ k = 7 ∨ k = 8 ∨ k = 9 ∨ k = 10 ∨ k = 11) with rfl | rfl | rfl | rfl | rfl | rfl | rfl | rfl | rfl | rfl | rfl
  · exact enters_of Tryz.func79 (by kernel_rfl) rfl
  · exact enters_of Tryz.func85 (by kernel_rfl) rfl
  · exact enters_of Tryz.func87 (by kernel_rfl) rfl
  · exact enters_of Tryz.func89 (by kernel_rfl) rfl
  · exact enters_of Tryz.func70 (by kernel_rfl) rfl
  · exact enters_of Tryz.func70 (by kernel_rfl) rfl
  · exact enters_of Tryz.func92 (by kernel_rfl) rfl
  · exact enters_of Tryz.func94 (by kernel_rfl) rfl
  · exact enters_of Tryz.func97 (by kernel_rfl) rfl
  · exact enters_of Tryz.func75 (by kernel_rfl) rfl
  · exact enters_of Tryz.func99 (by kernel_rfl) rfl
theorem y4C (k : Nat) (h1 : 1 ≤ k) (h2 : k ≤ 11) {w0 : World} {V : List Md.Vr} {va : Value} {b : Nat} {s : St} (S B : Nat) (w : World) (h : Ln w0 V va b s w) (hS : w.heap[S]? = some (.cells (sayC ⟨#[]⟩ 0 0 (k : Int) 0 (.slice none 0 0) 0 0 0 0 (.slice none 0 0) (.slice none 0 0) (.slice none 0 0)) 74 (0, 0))) (hSw : w0.heap.size ≤ S) (hB : B ≤ w.heap.size) : Calls Tryz.prog (fnK k) #[.pointer (some ⟨b, 0, none⟩), .pointer (some ⟨S, 0, none⟩)] w (SO w0 V va b S B (zo V k s) w) := by
  rcases (by omega : k = 1 ∨ k = 2 ∨ k = 3 ∨ k = 4 ∨ k = 5 ∨ k = 6 ∨ k = 7 ∨ k = 8 ∨ k = 9 ∨ k = 10 ∨ k = 11) with rfl | rfl | rfl | rfl | rfl | rfl | rfl | rfl | rfl | rfl | rfl
  · exact y4f S B w h hS hSw hB
  · exact y4g S B w h hS hSw hB
  · exact y4h S B w h hS hSw hB
  · exact y4i S B w h hS hSw hB
  · exact QG S B 5 w h hS hSw hB
  · exact QG S B 6 w h hS hSw hB
  · exact y4u S B w h hS hSw hB
  · exact y4n S B w h hS hSw hB
  · exact y4j S B w h hS hSw hB
  · exact y4l S B w h hS hSw hB
  · exact y4k S B w h hS hSw hB
structure SyV (B : Nat) (y : Sy) (vt vx vb vr : Value) (W : World) : Prop where
  t : W.ownsRow B 87 2 vt y.c.terms.length (encL encT y.c.terms)
  x : W.ownsRow B 3 1 vx y.c.xs.length (encL encI y.c.xs)
  b : W.ownsRow B 3 1 vb y.c.table.length (encL encI y.c.table)
  r : ∃ vs D, W.ownsRow B 58 1 vr y.c.rows.length vs ∧ RowsW W B D vs y.c.rows
def SR (w0 : World) (V : List Md.Vr) (va : Value) (b : Nat) (r : Sy × St) (w : World) (e : Ending) (w' : World) : Prop :=
  ∃ vt vx vb vr, e = .returned (.agg (sayC r.1.v.name r.1.v.lo r.1.v.hi r.1.c.kind r.1.c.op vt r.1.c.k r.1.c.v r.1.c.x r.1.c.y vx vb vr)) ∧ Ln w0 V va b r.2 w' ∧ Ofw (fun k => k = b) w w' ∧ SyV w.heap.size r.1 vt vx vb vr w'
theorem SyV.off {B : Nat} {y : Sy} {vt vx vb vr : Value} {w w' : World} {S : Nat → Prop} (h : SyV B y vt vx vb vr w) (o : Ofw S w w') (hS : ∀ k, S k → ∀ c t, w.heap[k]? = some (.cells c t (0, 0)) → t ≠ 87 ∧ t ≠ 3 ∧ t ≠ 58) : SyV B y vt vx vb vr w' := by
  have kp : ∀ {e size v n xs}, w.ownsRow B e size v n xs → (e = 87 ∨ e = 3 ∨ e = 58) → w'.ownsRow B e size v n xs := fun {e size v n xs} h1 he => yF h1 (fun g hg eg => by
    obtain ⟨_, cur, hc⟩ := yr h1 hg
    obtain ⟨a1, a2, a3⟩ := hS g eg cur e hc
    rcases he with he | he | he
    · exact a1 he
    · exact a2 he
    · exact a3 he) o
  obtain ⟨vs, D, hr, hrs⟩ := h.r
  exact ⟨kp h.t (.inl rfl), kp h.x (.inr (.inl rfl)), kp h.b (.inr (.inl rfl)), vs, D, kp hr (.inr (.inr rfl)), hrs.keep o (fun k hk => .inr (fun c e => (hS k hk c 3 e).2.1 rfl))⟩
end Go.Proofs.YthohnmplbjhjaaaGreatDoor

namespace Go.Proofs.YthohnmplbjhjaaaGreatDoor
open Go Go.RowKit Go.Shelf Go.Lib
def sayZ (k : Int) : Array Value := sayC ⟨#[]⟩ 0 0 k 0 (.slice none 0 0) 0 0 0 0 (.slice none 0 0) (.slice none 0 0) (.slice none 0 0)
theorem Ys (name : ByteArray) (lo hi kind op : Int) (vt : Value) (k v x y : Int) (vx vb vr : Value) : (Tryz.prog.info? 74).map (·.size) = some (sayC name lo hi kind op vt k v x y vx vb vr).size := by
  show _ = some 13
  kernel_rfl
theorem QJ (name : ByteArray) (lo hi kind op : Int) (a1 : Option Addr) (n1 c1 : Nat) (k v x y : Int) (a2 : Option Addr) (n2 c2 : Nat) (a3 : Option Addr) (n3 c3 : Nat) (a4 : Option Addr) (n4 c4 : Nat) : (sayC name lo hi kind op (.slice a1 n1 c1) k v x y (.slice a2 n2 c2) (.slice a3 n3 c3) (.slice a4 n4 c4)).all (·.oneCell') = true := by kernel_rfl
theorem xT {w : World} {g : Nat} {cs : Array Value} : Ofw (fun k => k = g) w (w.setRow g cs) := ⟨rfl, rfl, rfl, by simp, fun k _ hne => setRow_other w g k cs hne⟩
def conZ (k : Int) : Array Value := #[.int .i64 k, .int .i64 0, .slice none 0 0, .int .i64 0, .int .i64 0, .int .i64 0, .int .i64 0, .slice none 0 0, .slice none 0 0, .slice none 0 0]
theorem y4x {W2 wr W5 : World} {X : ByteArray} {F pr : Nat} {k : Int} {old : Array Value} (hb : Below W2.heap.size W2 wr) (hW5 : ((wr.alloc (.cells #[.string X, .func (.func F) #[] #[], .func (.func pr) #[] #[]] 105)).alloc (.cells old 74)).setRow (wr.heap.size + 1) (sayZ k) = W5) : (Below W2.heap.size W2 W5 ∧ Ofw (fun _ => False) wr W5) ∧ W5.heap[wr.heap.size]? = some (.cells #[.string X, .func (.func F) #[] #[], .func (.func pr) #[] #[]] 105 (0, 0)) ∧ W5.heap[wr.heap.size + 1]? = some (.cells (sayZ k) 74 (0, 0)) := by
  subst hW5
  have hb1 : Below wr.heap.size wr ((wr.alloc (.cells #[.string X, .func (.func F) #[] #[], .func (.func pr) #[] #[]] 105)).alloc (.cells old 74)) := ((Below.refl _ _).alloc (Nat.le_refl _) _).alloc (by simp) _
  have hb2 := below_setRow hb1 (g := wr.heap.size + 1) (by omega) (sayZ k)
  exact ⟨⟨hb.trans (hb2.mono hb.size), Ofw.of_below hb2⟩, (setRow_other _ _ _ _ (by omega)).trans (heap_alloc2_old wr _ _), setRow_heap _ _ _ _ _ _ (heap_alloc2_new wr _ _)⟩
theorem y4y {W1 W2 w wr W5 w7 : World} {b : Nat} {X : ByteArray} {F pr : Nat} {k : Int} (h1 : W5.heap[wr.heap.size]? = some (.cells #[.string X, .func (.func F) #[] #[], .func (.func pr) #[] #[]] 105 (0, 0))) (h2 : W5.heap[wr.heap.size + 1]? = some (.cells (sayZ k) 74 (0, 0))) (o : Ofw (fun k => k = b) W5 w7) (hq : W5.heap[W1.heap.size]? = some (.cells (sayZ 0) 74)) (hb : b < w.heap.size) (e1 : W1.heap.size = w.heap.size + 1) (e2 : W2.heap.size = w.heap.size + 2) (hbl : Below W2.heap.size W2 wr) :
    w7.heap[wr.heap.size]? = some (.cells #[.string X, .func (.func F) #[] #[], .func (.func pr) #[] #[]] 105 (0, 0)) ∧ w7.heap[wr.heap.size + 1]? = some (.cells (sayZ k) 74 (0, 0)) ∧ w.heap.size ≤ wr.heap.size ∧ w.heap.size ≤ w7.heap.size ∧ w7.heap[W1.heap.size]? = some (.cells (sayZ 0) 74) := by
  have hz := hbl.size
  have h3 := (Array.getElem?_eq_some_iff.1 h2).1
  have h4 := o.size
  exact ⟨(o.block _ (by omega) (by omega)).trans h1, (o.block _ (by omega) (by omega)).trans h2, by omega, by omega, (o.block _ (by omega) (by omega)).trans hq⟩
set_option maxRecDepth 100000 in
set_option maxHeartbeats 4000000 in
theorem y4r {w0 : World} {m : Md.Mo} {va : Option Addr} {vp : Nat} {b : Nat} {s : St} (x : List UInt8) (ca : Option Addr) (cp : Nat) (vg : Value) (w : World) (h : Ln w0 m.vars (.slice va m.vars.length vp) b s w) (hx0 : x ≠ []) : Calls Tryz.prog 49 #[.pointer (some ⟨b, 0, none⟩), .string (yd x), .agg #[.slice va m.vars.length vp, .slice ca m.cons.length cp, .bool m.has, vg]] w (SR w0 m.vars (.slice va m.vars.length vp) b (sayT m x s) w) := by
  obtain ⟨W1, hW1⟩ : ∃ W1, w.alloc (.cells #[.slice va m.vars.length vp, .slice ca m.cons.length cp, .bool m.has, vg] 26) = W1 := ⟨_, rfl⟩
  obtain ⟨W2, hW2⟩ : ∃ W2, W1.alloc (.cells (sayZ 0) 74) = W2 := ⟨_, rfl⟩
  have hb1 : Below w.heap.size w W1 := hW1 ▸ (Below.refl _ _).alloc (Nat.le_refl _) _
  have hs1 : W1.heap.size = w.heap.size + 1 := by rw [← hW1]; simp
  have hb2 : Below W1.heap.size W1 W2 := hW2 ▸ (Below.refl _ _).alloc (Nat.le_refl _) _
  have hs2 : W2.heap.size = w.heap.size + 2 := by rw [← hW2]; simp [hs1]
  have hbw : Below w.heap.size w W2 := hb1.trans (hb2.mono hb1.size)
  have hp2 : W2.heap[w.heap.size]? = some (.cells #[.slice va m.vars.length vp, .slice ca m.cons.length cp, .bool m.has, vg] 26) := (hb2.block _ (by omega)).trans (hW1 ▸ World.alloc_heap_new w _)
  have hq2 : W2.heap[w.heap.size + 1]? = some (.cells (sayZ 0) 74) := by rw [← hs1, ← hW2]; exact World.alloc_heap_new W1 _
  have HK : Hid (∀ w', Below W2.heap.size W2 w' → w'.heap[w.heap.size]? = some (.cells #[.slice va m.vars.length vp, .slice ca m.cons.length cp, .bool m.has, vg] 26) ∧ w'.heap[W1.heap.size]? = some (.cells (sayZ 0) 74) ∧ Ln w0 m.vars (.slice va m.vars.length vp) b s w' ∧ Below w.heap.size w w' ∧ w.heap.size + 2 ≤ w'.heap.size) := fun w' hb => by
    exact ⟨(hb.block _ (by omega)).trans hp2, (hb.block _ (by omega)).trans (hs1 ▸ hq2), h.below (hbw.trans (hb.mono hbw.size)), hbw.trans (hb.mono hbw.size), by have := hb.size; omega⟩
  have HM : Hid (∀ (k : Nat) w', Calls Tryz.prog 110 #[.int .i64 (k : Int), .agg #[.slice va m.vars.length vp, .slice ca m.cons.length cp, .bool m.has, vg]] w' fun e w'' => e = .returned (.int .i64 (yU k m)) ∧ Below w'.heap.size w' w'') := fun k w' => y40 k m va vp ca cp vg w'
  have HF51 : Hid (∀ w', Ln w0 m.vars (.slice va m.vars.length vp) b s w' → Calls Tryz.prog 109 #[.pointer (some ⟨b, 0, none⟩), .int .i64 51] w' (RO w0 m.vars (.slice va m.vars.length vp) b (.tuple #[]) (yh 51 s) w')) := fun w' h' => zu 51 w' h'
  have HFm : Hid (∀ (e : Int) w', Ln w0 m.vars (.slice va m.vars.length vp) b s w' → Calls Tryz.prog 109 #[.pointer (some ⟨b, 0, none⟩), .int .i64 e] w' (RO w0 m.vars (.slice va m.vars.length vp) b (.tuple #[]) (yh e s) w')) := fun e w' h' => zu e w' h'
  have hlt := h.lt
  have hbg := h.big
  have HLt : Hid (b < w.heap.size ∧ w0.heap.size ≤ w.heap.size ∧ W2.heap.size = w.heap.size + 2 ∧ W1.heap.size = w.heap.size + 1) := ⟨by omega, by omega, by omega, by omega⟩
  have HX : Hid (x ≠ []) := hx0
  have HRR : Hid (∀ w', SR w0 m.vars (.slice va m.vars.length vp) b (sayT m x s) w = w' → SR w0 m.vars (.slice va m.vars.length vp) b (sayT m x s) w = w') := fun _ h => h
  unfold sayZ sayC at hW2
  obtain ⟨X, hX⟩ : ∃ X, yd x = X := ⟨_, rfl⟩
  have HXX : Hid (yd x = X) := hX
  obtain ⟨R, hR⟩ : ∃ R, sayT m x s = R := ⟨_, rfl⟩
  have HR : Hid (sayT m x s = R) := hR
  rw [hX, hR]
  clear hX hR HRR h hx0 hb1 hb2 hbw hp2 hq2 hs1 hs2 hlt hbg
  go_enter Tryz.func49, Tryz.ntmps49
  go_wp2_with (first
    | (go_at_call 43; refine cZ (ZI _) ?_; rintro e w3 ⟨rfl, hb3⟩))
  have HB3 : Hid (Below W2.heap.size W2 w3) := hb3
  clear hW1 hW2 hb3
  go_loopw [11] (fun v11 wr => ∃ k : Nat, v11 = .int .i64 (k : Int) ∧ k ≤ 12 ∧ Hid (∀ j, 1 ≤ j → j < k → x ≠ xt j) ∧ Hid (Below W2.heap.size W2 wr)) (fun v _ => (12 - RowKit.intOf v).toNat)
  case atStart => exact ⟨0, rfl, by omega, fun j h1 h2 => by omega, HB3.out⟩
  case round =>
    obtain ⟨k, rfl, hk, HJ, HBl⟩ := hrel
    by_cases k12 : k = 12
    · subst k12
      have HQ : Hid (sayT m x s = (⟨zv, zc 0⟩, yh 51 s)) := by
        show _ = _
        unfold sayT
        rw [y4z x HJ.out, if_pos rfl]
      obtain ⟨_, g2, g3, g4, g5⟩ := HK.out _ HBl.out
      go_wp2_with (first
        | (go_at_call 109; refine cZ (HF51.out _ (HK.out _ HBl.out).2.2.1) ?_; rintro e w4 ⟨rfl, h4, o4⟩)
        | (refine Ye rfl 74 _ rfl (sayZ 0) (by kernel_rfl) ?_)
        | (refine wpList_store_row rfl 74 _ _ rfl W1.heap.size (sayZ 0) rfl rfl 74 _ ((o4.block _ (by have := HLt.out; omega) (by have := HLt.out; omega)).trans g2) (Ys _ _ _ _ _ _ _ _ _ _ _ _ _) (by rfl) (by kernel_rfl) ?_))
      have g4h := (o4.block W1.heap.size (by have := HLt.out; omega) (by have := HLt.out; omega)).trans g2
      refine bodyPost_ret (v := .agg (sayZ 0)) (results_cell_row (p := 6) (ty := 74) rfl _ _ W1.heap.size 74 (sayZ 0) (0, 0) _ rfl (setRow_heap _ _ _ _ _ _ g4h) Tryz.underlying74 rfl (Ys _ _ _ _ _ _ _ _ _ _ _ _ _)) rfl ?_
      rw [← HR.out, HQ.out]
      refine ⟨.slice none 0 0, .slice none 0 0, .slice none 0 0, .slice none 0 0, rfl, h4.keep (fun k hk => by have hk' : k = W1.heap.size := hk; have := HLt.out; omega) xT, ((Ofw.of_below g4).trans o4).new xT (fun i hi => by have hi' : i = W1.heap.size := hi; have := HLt.out; omega), yJ _ _ 87 2, yJ _ _ 3 1, yJ _ _ 3 1, [], 0, yJ _ _ 58 1, xr _ _ 0⟩
    · have hk11 : k ≤ 11 := by omega
      clear k12
      by_cases hxk : 1 ≤ k ∧ x = xt k
      · obtain ⟨h1, hxk⟩ := hxk
        have HQ : Hid (sayT m x s = zo m.vars k (yh (yU k m) s)) := by
          show _ = _
          have h0 := y4A x k h1 hk11 hxk
          unfold sayT
          rw [h0, if_neg (by omega)]
        obtain ⟨pr, hidx⟩ := QU k h1 hk11
        have hE := y4B k h1 hk11
        have HC : Hid (∀ (S : Nat) (w' : World), Ln w0 m.vars (.slice va m.vars.length vp) b (yh (yU k m) s) w' → w'.heap[S]? = some (.cells (sayZ (k : Int)) 74 (0, 0)) → w0.heap.size ≤ S → w.heap.size ≤ w'.heap.size → Calls Tryz.prog (fnK k) #[.pointer (some ⟨b, 0, none⟩), .pointer (some ⟨S, 0, none⟩)] w' (SO w0 m.vars (.slice va m.vars.length vp) b S w.heap.size (zo m.vars k (yh (yU k m) s)) w')) := fun S w' a1 a2 a3 a4 => y4C k h1 hk11 S w.heap.size w' a1 a2 a3 a4
        obtain ⟨F, hF⟩ : ∃ F, fnK k = F := ⟨_, rfl⟩
        obtain ⟨Wd, hWd⟩ : ∃ Wd, yd (xt k) = Wd := ⟨_, rfl⟩
        have hXW : X = Wd := by rw [← HXX.out, ← hWd, hxk]
        subst hXW
        rw [hF] at hidx hE HC
        rw [hWd] at hidx
        obtain ⟨e1, hee⟩ : ∃ e, yU k m = e := ⟨_, rfl⟩
        have HMk : Hid (∀ w', Calls Tryz.prog 110 #[.int .i64 (k : Int), .agg #[.slice va m.vars.length vp, .slice ca m.cons.length cp, .bool m.has, vg]] w' fun e w'' => e = .returned (.int .i64 e1) ∧ Below w'.heap.size w' w'') := fun w' => by
          have := HM.out k w'
          rw [hee] at this
          exact this
        rw [hee] at HQ HC
        obtain ⟨Q, hQ⟩ : ∃ Q, zo m.vars k (yh e1 s) = Q := ⟨_, rfl⟩
        rw [hQ] at HQ HC
        have HB : Hid (b < w.heap.size) := HLt.out.1
        have hkl : decide ((k : Int) < 12) = true := decide_eq_true (by omega)
        clear h1 hF hWd hxk hee hk hk11 HJ HM HX HXX hQ
        go_wp2_with (first
          | (refine Ye rfl 61 _ rfl (conZ k) (by kernel_rfl) ?_)
          | (refine Ye rfl 74 _ rfl (sayZ k) (by kernel_rfl) ?_)
          | (refine wpList_store_row rfl 74 _ _ rfl (wr.heap.size + 1) (sayZ k) rfl rfl 74 _ (heap_alloc2_new wr _ _) (Ys _ _ _ _ _ _ _ _ _ _ _ _ _) (by rfl) (by kernel_rfl) ?_
             obtain ⟨W5, hW5⟩ : ∃ W5, ((wr.alloc (.cells #[.string X, .func (.func F) #[] #[], .func (.func pr) #[] #[]] 105)).alloc (.cells #[.string ⟨#[]⟩, .int .i64 0, .int .i64 0, .int .i64 0, .int .i64 0, .slice none 0 0, .int .i64 0, .int .i64 0, .int .i64 0, .int .i64 0, .slice none 0 0, .slice none 0 0, .slice none 0 0] 74)).setRow (wr.heap.size + 1) (sayZ k) = W5 := ⟨_, rfl⟩
             rw [hW5]
             have H5 : Hid ((Below W2.heap.size W2 W5 ∧ Ofw (fun _ => False) wr W5) ∧ W5.heap[wr.heap.size]? = some (.cells #[.string X, .func (.func F) #[] #[], .func (.func pr) #[] #[]] 105 (0, 0)) ∧ W5.heap[wr.heap.size + 1]? = some (.cells (sayZ k) 74 (0, 0))) := y4x HBl.out hW5
             clear hW5
             obtain ⟨⟨n0, n1, n2, n3⟩, _⟩ := box4 (HK.out _ H5.out.1.1).1
             have f1 := (Y0 H5.out.2.1).2.1)
          | (go_at_call 110; refine cZ (HMk.out _) ?_; rintro e w6 ⟨rfl, hb6⟩; have H6 : Hid (Ln w0 m.vars (.slice va m.vars.length vp) b s w6 ∧ Ofw (fun _ => False) W5 w6) := ⟨(HK.out _ H5.out.1.1).2.2.1.below hb6, Ofw.of_below hb6⟩; clear hb6)
          | (go_at_call 109; refine cZ (HFm.out e1 _ H6.out.1) ?_; rintro e w7 ⟨rfl, h7, o7⟩; have H7 : Hid (Ln w0 m.vars (.slice va m.vars.length vp) b (yh e1 s) w7 ∧ Ofw (fun k => k = b) W5 w7) := ⟨h7, (H6.out.2.less fun k hk => hk.elim).trans o7⟩; clear h7 o7; have HS7 : Hid (w7.heap[wr.heap.size]? = some (.cells #[.string X, .func (.func F) #[] #[], .func (.func pr) #[] #[]] 105 (0, 0)) ∧ w7.heap[wr.heap.size + 1]? = some (.cells (sayZ k) 74 (0, 0)) ∧ w.heap.size ≤ wr.heap.size ∧ w.heap.size ≤ w7.heap.size ∧ w7.heap[W1.heap.size]? = some (.cells (sayZ 0) 74)) := y4y H5.out.2.1 H5.out.2.2 H7.out.2 (HK.out _ H5.out.1.1).2.1 HLt.out.1 HLt.out.2.2.2 HLt.out.2.2.1 HBl.out; have f1 := (Y0 HS7.out.1).2.1))
        refine cZ (HC.out (wr.heap.size + 1) w7 H7.out.1 HS7.out.2.1 (by have h1 := HLt.out; have h2 := HS7.out.2.2.1; omega) HS7.out.2.2.2.1) ?_
        rintro e w8 ⟨rfl, h8, o8, vt, vx, vb, vr, hsy⟩
        obtain ⟨vs, D, hr, hrs⟩ := hsy.r
        obtain ⟨at1, ct1, hvt⟩ := yA hsy.t
        obtain ⟨ax1, cx1, hvx⟩ := yA hsy.x
        obtain ⟨ab1, cb1, hvb⟩ := yA hsy.b
        obtain ⟨ar1, cr1, hvr⟩ := yA hr
        have hone : (sayC Q.1.v.name Q.1.v.lo Q.1.v.hi Q.1.c.kind Q.1.c.op vt Q.1.c.k Q.1.c.v Q.1.c.x Q.1.c.y vx vb vr).all (·.oneCell') = true := by
          rw [hvt, hvx, hvb, hvr]
          exact QJ _ _ _ _ _ _ _ _ _ _ _ _ _ _ _ _ _ _ _ _ _
        have hsz := Ys Q.1.v.name Q.1.v.lo Q.1.v.hi Q.1.c.kind Q.1.c.op vt Q.1.c.k Q.1.c.v Q.1.c.x Q.1.c.y vx vb vr
        have hold : (sayZ 0).size = (sayC Q.1.v.name Q.1.v.lo Q.1.v.hi Q.1.c.kind Q.1.c.op vt Q.1.c.k Q.1.c.v Q.1.c.x Q.1.c.y vx vb vr).size := rfl
        have h8c := hsy.c
        have hq8 : w8.heap[W1.heap.size]? = some (.cells (sayZ 0) 74) := (o8.block _ (Array.getElem?_eq_some_iff.1 HS7.out.2.2.2.2).1 (by have h1 := HLt.out; have h2 := HS7.out.2.2.1; have h3 := HBl.out.size; omega)).trans HS7.out.2.2.2.2
        have HY : Hid (SyV w.heap.size Q.1 vt vx vb vr w8) := ⟨hsy.t, hsy.x, hsy.b, vs, D, hr, hrs⟩
        obtain ⟨C8, hC8⟩ : ∃ C, sayC Q.1.v.name Q.1.v.lo Q.1.v.hi Q.1.c.kind Q.1.c.op vt Q.1.c.k Q.1.c.v Q.1.c.x Q.1.c.y vx vb vr = C := ⟨_, rfl⟩
        rw [hC8] at hone hsz hold h8c
        have HP : Hid (sayC Q.1.v.name Q.1.v.lo Q.1.v.hi Q.1.c.kind Q.1.c.op vt Q.1.c.k Q.1.c.v Q.1.c.x Q.1.c.y vx vb vr = C8 ∧ Ln w0 m.vars (.slice va m.vars.length vp) b Q.2 w8 ∧ Ofw (fun k => k = b ∨ k = wr.heap.size + 1) w7 w8) := ⟨hC8, h8, o8⟩
        have HD : Hid (w8.heap[wr.heap.size + 1]? = some (.cells C8 74 (0, 0)) ∧ (Tryz.prog.info? 74).map (·.size) = some C8.size ∧ (sayZ 0).size = C8.size ∧ C8.all (·.oneCell') = true ∧ w8.heap[W1.heap.size]? = some (.cells (sayZ 0) 74)) := ⟨h8c, hsz, hold, hone, hq8⟩
        clear hC8 h8 o8 hsy hr hrs hvt hvx hvb hvr hone hsz hold h8c hq8 n0 n1 n2 n3 f1 hidx hE
        go_wp2_with (first
          | (refine wpList_load_row rfl 74 _ rfl (wr.heap.size + 1) rfl 74 C8 (0, 0) _ HD.out.1 Tryz.underlying74 rfl HD.out.2.1 ?_)
          | (refine wpList_store_row rfl 74 _ _ rfl W1.heap.size C8 rfl rfl 74 (sayZ 0) HD.out.2.2.2.2 HD.out.2.1 HD.out.2.2.1 HD.out.2.2.2.1 ?_))
        refine bodyPost_ret (v := .agg C8) (results_cell_row (p := 6) (ty := 74) rfl _ _ W1.heap.size 74 C8 (0, 0) _ rfl (setRow_heap _ _ _ _ _ _ HD.out.2.2.2.2) Tryz.underlying74 rfl HD.out.2.1) rfl ?_
        rw [← HR.out, HQ.out]
        have hO : Ofw (fun k => k = b) w w8 := ((Ofw.of_below (HK.out _ H5.out.1.1).2.2.2.1).trans H7.out.2).new HP.out.2.2 (fun i hi => by have h2 := HS7.out.2.2.1; omega)
        refine ⟨vt, vx, vb, vr, by rw [HP.out.1], HP.out.2.1.keep (fun k hk => by have hk' : k = W1.heap.size := hk; have := HLt.out; omega) xT, hO.new xT (fun i hi => by have hi' : i = W1.heap.size := hi; have := HLt.out; omega), HY.out.off xT (fun k hk c t e => ?_)⟩
        have hk' : k = W1.heap.size := hk
        rw [hk', HD.out.2.2.2.2] at e
        injection e with e
        injection e with _ e _
        subst e
        decide
      · have hnx : x ≠ xt k := fun e => by
          by_cases h1 : 1 ≤ k
          · exact hxk ⟨h1, e⟩
          · have h0 : k = 0 := by omega
            subst h0
            exact HX.out e
        have HJ2 : Hid (∀ j, 1 ≤ j → j < k + 1 → x ≠ xt j) := fun j h1 h2 => by
          by_cases hj : j = k
          · rw [hj]; exact hnx
          · exact HJ.out j h1 (by omega)
        obtain ⟨Wd, hWd⟩ : ∃ Wd, yd (xt k) = Wd := ⟨_, rfl⟩
        have hq : (Wd.toList == X.toList) = false := by
          rw [← hWd, ← HXX.out, ZT, decide_eq_false (fun e => hnx e.symm)]
        have hkl : decide ((k : Int) < 12) = true := decide_eq_true (by omega)
        have HBn : Hid (∀ o, Below W2.heap.size W2 (wr.alloc o)) := fun o => HBl.out.alloc HBl.out.size o
        by_cases h1 : 1 ≤ k
        · obtain ⟨pr, hidx⟩ := QU k h1 hk11
          obtain ⟨F, hF⟩ : ∃ F, fnK k = F := ⟨_, rfl⟩
          rw [hF, hWd] at hidx
          clear hF hWd hnx hxk h1 HJ HM HXX
          go_wp2_with fail
          go_roundw
          case measure => simp only [RowKit.intOf]; omega
          case rel => exact ⟨k + 1, by simp, by omega, HJ2.out, HBn.out _⟩
        · have h0 : k = 0 := by omega
          subst h0
          have hidx := y4D
          have hw0 : yd (xt 0) = yd [] := rfl
          rw [← hw0, hWd] at hidx
          clear hWd hnx hxk h1 HJ HM HXX hw0
          go_wp2_with fail
          go_roundw
          case measure => simp only [RowKit.intOf]; omega
          case rel => exact ⟨1, by simp, by omega, HJ2.out, HBn.out _⟩
end Go.Proofs.YthohnmplbjhjaaaGreatDoor

namespace Go.Proofs.YthohnmplbjhjaaaGreatDoor
open Go Go.RowKit Go.Shelf Go.Lib
attribute [local go_sem] Oper.semAt_some
def encV (v : Md.Vr) : List Value := [.string v.name, .int .i64 v.lo, .int .i64 v.hi]
structure CnL where
  c : Md.Cn
  t : Value
  x : Value
  b : Value
  r : Value
def CnL.cells (d : CnL) : List Value := [.int .i64 d.c.kind, .int .i64 d.c.op, d.t, .int .i64 d.c.k, .int .i64 d.c.v, .int .i64 d.c.x, .int .i64 d.c.y, d.x, d.b, d.r]
structure MoIs (B P : Nat) (m : Md.Mo) (vv vc vg : Value) (W : World) : Prop where
  o : W.heap[P]? = some (.cells #[vv, vc, .bool m.has, vg] 26 (0, 0))
  lo : B ≤ P
  v : W.ownsRow B 56 3 vv m.vars.length (encL encV m.vars)
  k : ∃ L : List CnL, m.cons = L.map (·.c) ∧ W.ownsRow B 61 10 vc m.cons.length (L.flatMap CnL.cells) ∧ ∀ d ∈ L, SyV B ⟨zv, d.c⟩ d.t d.x d.b d.r W
  g : W.ownsRow B 87 2 vg m.goal.length (encL encT m.goal)
def MoI (B P : Nat) (m : Md.Mo) (W : World) : Prop := ∃ vv vc vg, MoIs B P m vv vc vg W
theorem MoIs.off {B P : Nat} {m : Md.Mo} {vv vc vg : Value} {w w' : World} {S : Nat → Prop} (h : MoIs B P m vv vc vg w) (o : Ofw S w w') (hS : ∀ k, S k → k ≠ P ∧ ∀ c t, w.heap[k]? = some (.cells c t (0, 0)) → t ≠ 56 ∧ t ≠ 61 ∧ t ≠ 87 ∧ t ≠ 3 ∧ t ≠ 58) : MoIs B P m vv vc vg w' := by
  obtain ⟨L, hL, hk, hs⟩ := h.k
  refine ⟨(o.block P (Array.getElem?_eq_some_iff.1 h.o).1 (fun e => (hS P e).1 rfl)).trans h.o, h.lo, ?_, ⟨L, hL, ?_, fun d hd => ?_⟩, ?_⟩
  · exact yF h.v (fun g hg e => by obtain ⟨_, cur, hc⟩ := yr h.v hg; exact ((hS g e).2 cur 56 hc).1 rfl) o
  · exact yF hk (fun g hg e => by obtain ⟨_, cur, hc⟩ := yr hk hg; exact ((hS g e).2 cur 61 hc).2.1 rfl) o
  · exact (hs d hd).off o (fun k hk c t e => by obtain ⟨_, _, h3, h4, h5⟩ := (hS k hk).2 c t e; exact ⟨h3, h4, h5⟩)
  · exact yF h.g (fun g hg e => by obtain ⟨_, cur, hc⟩ := yr h.g hg; exact ((hS g e).2 cur 87 hc).2.2.1 rfl) o
theorem xC {w w' : World} {B : Nat} {e : TypeId} {size : Nat} {v : Value} {n : Nat} {xs : List Value} {S : Nat → Prop} (h : w.ownsRow B e size v n xs) (o : Ofw S w w') (hS : ∀ k, S k → ∀ c t, w.heap[k]? = some (.cells c t (0, 0)) → t ≠ e) : w'.ownsRow B e size v n xs :=
  yF h (fun g hg eg => by obtain ⟨_, cur, hc⟩ := yr h hg; exact hS g eg cur e hc rfl) o
theorem zl {w : World} {k : Nat} {c c' : Array Value} {t t' : TypeId} (h : w.heap[k]? = some (.cells c t (0, 0))) (h' : w.heap[k]? = some (.cells c' t' (0, 0))) : t' = t := by
  rw [h] at h'
  injection h' with h'
  injection h' with _ h' _
  exact h'.symm
theorem y3H {w : World} {B : Nat} {e : TypeId} {size : Nat} {v : Value} {n : Nat} {xs ys : List Value} (h : w.ownsRow B e size v n xs) (h' : w.ownsRow B e size v n ys) : xs = ys := by
  rcases h.2 with ⟨_, h0⟩ | ⟨g, cap, cur, hv, _, hc, _, _, _, ht⟩
  · subst h0
    have h1 := h.1
    have h2 := h'.1
    simp only [Nat.zero_mul, List.length_eq_zero_iff] at h1 h2
    rw [h1, h2]
  · rcases h'.2 with ⟨hv', _⟩ | ⟨g', cap', cur', hv', _, hc', _, _, _, ht'⟩
    · rw [hv] at hv'; cases hv'
    · rw [hv] at hv'
      injection hv' with hv' _ _
      injection hv' with hv'
      injection hv' with hv' _ _
      subst hv'
      rw [hc] at hc'
      injection hc' with hc'
      injection hc' with hc' _ _
      subst hc'
      rw [← ht, ← ht']
theorem MoIs.more_v {B P : Nat} {m : Md.Mo} {vv vc vg v' : Value} {w w' : World} (h : MoIs B P m vv vc vg w) (y : Md.Vr) (hr : w'.ownsRow B 56 3 v' (m.vars.length + 1) (encL encV m.vars ++ encV y)) (ho : Ofw (fun k => vv.ownBlock = some k) w w') :
    MoIs B P { m with vars := m.vars ++ [y] } v' vc vg (w'.setCell ⟨P, 0, none⟩ v') ∧ Ofw (fun k => k = P ∨ vv.ownBlock = some k) w (w'.setCell ⟨P, 0, none⟩ v') := by
  have hP : w'.heap[P]? = some (.cells #[vv, vc, .bool m.has, vg] 26 (0, 0)) := (ho.block P (Array.getElem?_eq_some_iff.1 h.o).1 (fun e => by
    obtain ⟨_, cur, hc⟩ := yr h.v e
    exact absurd (zl h.o hc) (by decide))).trans h.o
  have os : Ofw (fun k => k = P) w' (w'.setCell ⟨P, 0, none⟩ v') := Ofw.set _ rfl
  have oo : Ofw (fun k => k = P ∨ vv.ownBlock = some k) w (w'.setCell ⟨P, 0, none⟩ v') := (ho.less fun k hk => .inr hk).trans (os.less fun k hk => .inl hk)
  have tt : ∀ k, (k = P ∨ vv.ownBlock = some k) → ∀ c t, w.heap[k]? = some (.cells c t (0, 0)) → t = 26 ∨ t = 56 := fun k hk c t e => by
    rcases hk with hk | hk
    · subst hk; exact .inl (zl h.o e)
    · obtain ⟨_, cur, hc⟩ := yr h.v hk
      exact .inr (zl hc e)
  obtain ⟨L, hL, hk, hs⟩ := h.k
  refine ⟨⟨yC hP 0 v', h.lo, ?_, ⟨L, hL, xC hk oo (fun k hk c t e => by rcases tt k hk c t e with rfl | rfl <;> decide), fun d hd => (hs d hd).off oo (fun k hk c t e => by rcases tt k hk c t e with rfl | rfl <;> decide)⟩, xC h.g oo (fun k hk c t e => by rcases tt k hk c t e with rfl | rfl <;> decide)⟩, oo⟩
  show World.ownsRow _ B 56 3 v' (m.vars ++ [y]).length (encL encV (m.vars ++ [y]))
  rw [Ym, List.length_append]
  exact xC hr os (fun k hk c t e => by have hk' : k = P := hk; subst hk'; rw [zl hP e]; decide)
theorem MoIs.more_c {B P : Nat} {m : Md.Mo} {vv vc vg v' : Value} {w w' : World} (h : MoIs B P m vv vc vg w) (d : CnL) (hd : SyV B ⟨zv, d.c⟩ d.t d.x d.b d.r w) (hr : ∀ xs, w.ownsRow B 61 10 vc m.cons.length xs → w'.ownsRow B 61 10 v' (m.cons.length + 1) (xs ++ d.cells)) (ho : Ofw (fun k => vc.ownBlock = some k) w w') :
    MoIs B P { m with cons := m.cons ++ [d.c] } vv v' vg (w'.setCell ⟨P, 1, none⟩ v') ∧ Ofw (fun k => k = P ∨ vc.ownBlock = some k) w (w'.setCell ⟨P, 1, none⟩ v') := by
  obtain ⟨L, hL, hk, hs⟩ := h.k
  have hP : w'.heap[P]? = some (.cells #[vv, vc, .bool m.has, vg] 26 (0, 0)) := (ho.block P (Array.getElem?_eq_some_iff.1 h.o).1 (fun e => by
    obtain ⟨_, cur, hc⟩ := yr hk e
    exact absurd (zl h.o hc) (by decide))).trans h.o
  have os : Ofw (fun k => k = P) w' (w'.setCell ⟨P, 1, none⟩ v') := Ofw.set _ rfl
  have oo : Ofw (fun k => k = P ∨ vc.ownBlock = some k) w (w'.setCell ⟨P, 1, none⟩ v') := (ho.less fun k hk => .inr hk).trans (os.less fun k hk => .inl hk)
  have tt : ∀ k, (k = P ∨ vc.ownBlock = some k) → ∀ c t, w.heap[k]? = some (.cells c t (0, 0)) → t = 26 ∨ t = 61 := fun k hk' c t e => by
    rcases hk' with hk' | hk'
    · subst hk'; exact .inl (zl h.o e)
    · obtain ⟨_, cur, hc⟩ := yr hk hk'
      exact .inr (zl hc e)
  refine ⟨⟨yC hP 1 v', h.lo, xC h.v oo (fun k hk c t e => by rcases tt k hk c t e with rfl | rfl <;> decide), ⟨L ++ [d], by simp [hL], ?_, fun d' hd' => ?_⟩, xC h.g oo (fun k hk c t e => by rcases tt k hk c t e with rfl | rfl <;> decide)⟩, oo⟩
  · show World.ownsRow _ B 61 10 v' (m.cons ++ [d.c]).length _
    rw [List.length_append, List.flatMap_append]
    have h1 := hr _ hk
    have h2 : ([d].flatMap CnL.cells) = d.cells := by simp
    rw [h2]
    exact xC h1 os (fun k hk c t e => by have hk' : k = P := hk; subst hk'; rw [zl hP e]; decide)
  · rcases List.mem_append.1 hd' with hd' | hd'
    · exact (hs d' hd').off oo (fun k hk c t e => by rcases tt k hk c t e with rfl | rfl <;> decide)
    · rw [List.mem_singleton.1 hd']
      exact hd.off oo (fun k hk c t e => by rcases tt k hk c t e with rfl | rfl <;> decide)
theorem MoIs.goal {B P : Nat} {m : Md.Mo} {vv vc vg v' : Value} {w w' : World} {l : List (Int × Int)} (h : MoIs B P m vv vc vg w) (hr : w.ownsRow B 87 2 v' l.length (encL encT l)) (hw : w'.heap[P]? = some (.cells #[vv, vc, .bool true, v'] 26 (0, 0))) (ho : Ofw (fun k => k = P) w w') :
    MoIs B P { m with has := true, goal := l } vv vc v' w' := by
  obtain ⟨L, hL, hk, hs⟩ := h.k
  have tt : ∀ k, k = P → ∀ c t, w.heap[k]? = some (.cells c t (0, 0)) → t = 26 := fun k hk c t e => by
    subst hk; exact zl h.o e
  exact ⟨hw, h.lo, xC h.v ho (fun k hk c t e => by rw [tt k hk c t e]; decide), ⟨L, hL, xC hk ho (fun k hk c t e => by rw [tt k hk c t e]; decide), fun d hd => (hs d hd).off ho (fun k hk c t e => by rw [tt k hk c t e]; decide)⟩, xC hr ho (fun k hk c t e => by rw [tt k hk c t e]; decide)⟩
end Go.Proofs.YthohnmplbjhjaaaGreatDoor
