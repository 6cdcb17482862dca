/-
  Put together: TrReadA, TrFault.
-/
import Derived.Test.YthohnmplbjhjaaaGreatDoorJ40
namespace Go.Proofs.YthohnmplbjhjaaaGreatDoor
open Go Go.RowKit Go.Shelf Go.Lib
attribute [local go_sem] Oper.semAt_some
theorem QI {F : Fence} {nn : Nat} {P : Program} {ops : Array Oper} {o : Oper} {a : Act} {Q : Exit → Act → World → Prop} {K : Act → World → Prop} (w : World) (ty : TypeId) (x y : Operand) (ho : o.op = .store ty x y)
    (g : Nat) (cells : Array Value) (hx : a.eval x = .pointer (some ⟨g, 0, none⟩)) (hy : a.eval y = .agg cells) (t : TypeId) (old : Array Value) (hg : w.heap[g]? = some (.cells old t (0, 0))) (hi : (P.info? ty).map (·.size) = some cells.size)
    (hold : old.size = cells.size) (h1 : cells.all (·.oneCell') = true) (hw : Region.wanted o (yielded ops a.tmps) = true) (h : K (a.put o.dst undef) (w.setRow g cells)) : if Region.wanted o (yielded ops a.tmps) = true then Oper.wpIn F nn P o a w K Q else (∀ f, o.about P w a.eval = some f → F.fn f) ∧ K (a.put o.dst undef) w := by
  rw [if_pos hw]
  refine ⟨by simp [Oper.about, ho], ?_⟩
  rw [Oper.semAt_plain F _ _ (by rw [ho]; intro c hc; cases hc)]
  unfold execOp
  simp only [ho, hx, hy, Instr.storeAt, Instr.sureAddr, Sem.run_bind, Sem.run_pure, Result.andThen_ok, run_storeVar_row w g t ty old cells hg hi hold h1]
  exact h
theorem SyV.base {B B' : Nat} {y : Sy} {vt vx vb vr : Value} {w : World} (h : SyV B y vt vx vb vr w) (hB : B' ≤ B) : SyV B' y vt vx vb vr w := by
  obtain ⟨vs, D, hr, hrs⟩ := h.r
  exact ⟨zp h.t hB, zp h.x hB, zp h.b hB, vs, D, zp hr hB, hrs.base hB⟩
theorem SyV.one {B : Nat} {y : Sy} {vt vx vb vr : Value} {w : World} (h : SyV B y vt vx vb vr w) : (sayC y.v.name y.v.lo y.v.hi y.c.kind y.c.op vt y.c.k y.c.v y.c.x y.c.y vx vb vr).all (·.oneCell') = true := by
  obtain ⟨vs, D, hr, hrs⟩ := h.r
  obtain ⟨at1, ct1, hvt⟩ := yA h.t
  obtain ⟨ax1, cx1, hvx⟩ := yA h.x
  obtain ⟨ab1, cb1, hvb⟩ := yA h.b
  obtain ⟨ar1, cr1, hvr⟩ := yA hr
  rw [hvt, hvx, hvb, hvr]
  exact QJ _ _ _ _ _ _ _ _ _ _ _ _ _ _ _ _ _ _ _ _ _
structure ReadAt (B P : Nat) (m : Md.Mo) (vv vc vg : Value) (w Wa w5 : World) (G : Nat) (Q : Sy × St) (vt vx vb vr : Value) : Prop where
  c : w5.heap[G]? = some (.cells (sayC Q.1.v.name Q.1.v.lo Q.1.v.hi Q.1.c.kind Q.1.c.op vt Q.1.c.k Q.1.c.v Q.1.c.x Q.1.c.y vx vb vr) 74 (0, 0))
  l : Ln w m.vars vv (w.heap.size + 1) Q.2 w5
  o : Ofw (fun k => k = w.heap.size + 1) Wa w5
  y : SyV B Q.1 vt vx vb vr w5
theorem Ze {B P : Nat} {m : Md.Mo} {vv vc vg : Value} {w : World} (h : MoIs B P m vv vc vg w) {k : Nat} (hk : k = P ∨ vv.ownBlock = some k ∨ vc.ownBlock = some k) : ∃ c t, w.heap[k]? = some (.cells c t (0, 0)) ∧ (t = 26 ∨ t = 56 ∨ t = 61) ∧ B ≤ k := by
  rcases hk with rfl | hk | hk
  · exact ⟨_, _, h.o, .inl rfl, h.lo⟩
  · obtain ⟨h1, cur, hc⟩ := yr h.v hk
    exact ⟨_, _, hc, .inr (.inl rfl), h1⟩
  · obtain ⟨L, _, hkk, _⟩ := h.k
    obtain ⟨h1, cur, hc⟩ := yr hkk hk
    exact ⟨_, _, hc, .inr (.inr rfl), h1⟩
theorem Zf {B P : Nat} {m : Md.Mo} {vv vc vg : Value} {w Wa w5 w6 : World} {G D : Nat} {Q : Sy × St} {vt vx vb vr : Value} (hM : MoIs B P m vv vc vg w5) (h5 : ReadAt B P m vv vc vg w Wa w5 G Q vt vx vb vr) (o6 : Ofw (fun k => k = P ∨ vv.ownBlock = some k ∨ vc.ownBlock = some k) w5 w6)
    (hOa : Ofw (fun _ => False) w Wa) (hD : D + 2 ≤ Wa.heap.size) (hnc : ∀ k, (k = D ∨ k = D + 1) → ∀ c t z, Wa.heap[k]? ≠ some (.cells c t z)) (hD4 : D = w.heap.size + 4) (hT : Wa.heap[w.heap.size + 3]? = some (.cells #[.pointer (some ⟨w.heap.size + 1, 0, none⟩)] 113)) (hN : Wa.heap[w.heap.size + 2]? = some (.cells #[.pointer (some ⟨w.heap.size + 1, 0, none⟩)] 113)) (_hBw : B ≤ w.heap.size) :
    Lw vv (w.heap.size + 1) Q.2 w6 ∧ Ofw (fun k => k = P ∨ vv.ownBlock = some k ∨ vc.ownBlock = some k) w w6 ∧ (∀ k, (k = D ∨ k = D + 1) → ∀ c t z, w6.heap[k]? ≠ some (.cells c t z)) ∧ D + 2 ≤ w6.heap.size ∧ w6.heap[w.heap.size + 2]? = some (.cells #[.pointer (some ⟨w.heap.size + 1, 0, none⟩)] 113) ∧ Wa.heap.size ≤ w6.heap.size ∧ ∀ k, (k = w.heap.size + 3 ∨ k = D ∨ k = D + 1) → w6.heap[k]? = Wa.heap[k]? := by
  have hs5 := h5.o.size
  have hs6 := o6.size
  have kp : ∀ k, (k = w.heap.size + 2 ∨ k = w.heap.size + 3 ∨ k = D ∨ k = D + 1) → w6.heap[k]? = Wa.heap[k]? := fun k hk => by
    have hk1 : k < Wa.heap.size := by omega
    have e5 : w5.heap[k]? = Wa.heap[k]? := h5.o.block k hk1 (by omega)
    refine (o6.block k (by omega) (fun e => ?_)).trans e5
    obtain ⟨c, t, hc, ht, _⟩ := Ze hM e
    rw [e5] at hc
    rcases hk with rfl | rfl | hk
    · rw [zl hN hc] at ht; revert ht; decide
    · rw [zl hT hc] at ht; revert ht; decide
    · exact hnc k hk _ _ _ hc
  refine ⟨h5.l.lw.keep (fun k hk e => ?_) o6, (((hOa.less fun _ f => f.elim).new h5.o (fun k hk => by have hk' : k = w.heap.size + 1 := hk; omega)).trans o6), fun k hk c t z e => ?_, by omega, (kp _ (.inl rfl)).trans hN, by omega, fun k hk => kp k (.inr hk)⟩
  · obtain ⟨c, t, hc, ht, _⟩ := Ze hM hk
    rw [e] at hc
    rw [zl h5.l.o hc] at ht
    revert ht
    decide
  · rw [kp k (.inr (.inr hk))] at e
    exact hnc k hk c t z e
set_option maxRecDepth 100000 in
set_option maxHeartbeats 4000000 in
theorem y4d {m : Md.Mo} {B P : Nat} {vv vc vg : Value} (l : List UInt8) (w : World) (h : MoIs B P m vv vc vg w) (hg : Good m) (hw : Way w w) (hl : l.length ≤ 70000) : Calls Tryz.prog 28 #[.pointer (some ⟨P, 0, none⟩), .string (yd l)] w fun e w' => e = .returned (.int .i64 (yO m l).2) ∧ MoI B P (yO m l).1 w' ∧ Ofw (fun k => k = P ∨ vv.ownBlock = some k ∨ vc.ownBlock = some k) w w' := by
  obtain ⟨av, cv, hvv⟩ := yA h.v
  obtain ⟨ac, cc, hvc⟩ : ∃ a cap, vc = .slice a m.cons.length cap := by
    obtain ⟨L, _, hk, _⟩ := h.k
    exact yA hk
  obtain ⟨S, hS⟩ : ∃ S : Nat → Prop, S = (fun k => k = P ∨ vv.ownBlock = some k ∨ vc.ownBlock = some k) := ⟨_, rfl⟩
  rw [← hS]
  subst hvv hvc
  have HSet : Hid (S = (fun k => k = P ∨ (Value.slice av m.vars.length cv).ownBlock = some k ∨ (Value.slice ac m.cons.length cc).ownBlock = some k)) := hS
  clear hS
  have hV : VarsAt w (.slice av m.vars.length cv) m.vars := (h.at hg).v
  obtain ⟨RR, hRR⟩ : ∃ RR, yO m l = RR := ⟨_, rfl⟩
  have HRR : Hid (yO m l = RR) := hRR
  rw [hRR]
  clear hRR
  have hPl := (Array.getElem?_eq_some_iff.1 h.o).1
  have hlo := h.lo
  obtain ⟨W1, hW1⟩ : ∃ W1, w.alloc (.cells #[.pointer (some ⟨P, 0, none⟩)] 81) = W1 := ⟨_, rfl⟩
  obtain ⟨W2, hW2⟩ : ∃ W2, W1.alloc (.cells #[.slice av m.vars.length cv, .string (yd l), .int .i64 0] 115) = W2 := ⟨_, rfl⟩
  obtain ⟨W3, hW3⟩ : ∃ W3, W2.alloc (.cells #[.pointer (some ⟨w.heap.size + 1, 0, none⟩)] 113) = W3 := ⟨_, rfl⟩
  obtain ⟨W4, hW4⟩ : ∃ W4, W3.alloc (.cells #[.pointer (some ⟨w.heap.size + 1, 0, none⟩)] 113) = W4 := ⟨_, rfl⟩
  have hb1 : Below w.heap.size w W1 := hW1 ▸ (Below.refl _ _).alloc (Nat.le_refl _) _
  have hs1 : W1.heap.size = w.heap.size + 1 := by rw [← hW1]; simp
  have hb2 : Below W1.heap.size W1 W2 := hW2 ▸ (Below.refl _ _).alloc (Nat.le_refl _) _
  have hs2 : W2.heap.size = w.heap.size + 2 := by rw [← hW2]; simp [hs1]
  have hb3 : Below W2.heap.size W2 W3 := hW3 ▸ (Below.refl _ _).alloc (Nat.le_refl _) _
  have hs3 : W3.heap.size = w.heap.size + 3 := by rw [← hW3]; simp [hs2]
  have hb4 : Below W3.heap.size W3 W4 := hW4 ▸ (Below.refl _ _).alloc (Nat.le_refl _) _
  have hs4 : W4.heap.size = w.heap.size + 4 := by rw [← hW4]; simp [hs3]
  have hbw : Below w.heap.size w W4 := ((hb1.trans (hb2.mono hb1.size)).trans (hb3.mono (by omega))).trans (hb4.mono (by omega))
  have a1 : W4.heap[w.heap.size]? = some (.cells #[.pointer (some ⟨P, 0, none⟩)] 81) := (hb4.block _ (by omega)).trans ((hb3.block _ (by omega)).trans ((hb2.block _ (by omega)).trans (hW1 ▸ World.alloc_heap_new w _)))
  have a2 : W4.heap[w.heap.size + 1]? = some (.cells #[.slice av m.vars.length cv, .string (yd l), .int .i64 0] 115) := (hb4.block _ (by omega)).trans ((hb3.block _ (by omega)).trans (by rw [← hs1, ← hW2]; exact World.alloc_heap_new W1 _))
  have a3 : W4.heap[w.heap.size + 2]? = some (.cells #[.pointer (some ⟨w.heap.size + 1, 0, none⟩)] 113) := (hb4.block _ (by omega)).trans (by rw [← hs2, ← hW3]; exact World.alloc_heap_new W2 _)
  have a4 : W4.heap[w.heap.size + 3]? = some (.cells #[.pointer (some ⟨w.heap.size + 1, 0, none⟩)] 113) := by rw [← hs3, ← hW4]; exact World.alloc_heap_new W3 _
  have aP : W1.cell? ⟨P, 0, none⟩ = some (.slice av m.vars.length cv) := by rw [yc ((hb1.block _ hPl).trans h.o) 0]; rfl
  have b1 : W1.cell? ⟨w.heap.size, 0, none⟩ = some (.pointer (some ⟨P, 0, none⟩)) := by rw [yc (show W1.heap[w.heap.size]? = some (.cells #[.pointer (some ⟨P, 0, none⟩)] 81) from hW1 ▸ World.alloc_heap_new w _) 0]; rfl
  have b3 : W3.cell? ⟨w.heap.size + 2, 0, none⟩ = some (.pointer (some ⟨w.heap.size + 1, 0, none⟩)) := by rw [yc (show W3.heap[w.heap.size + 2]? = some (.cells #[.pointer (some ⟨w.heap.size + 1, 0, none⟩)] 113) from by rw [← hs2, ← hW3]; exact World.alloc_heap_new W2 _) 0]; rfl
  have hm : Tryz.prog.follows .mixedOrders = true := by kernel_rfl
  have hX := xL (F := Fence.wide) (5 - 1) (w.heap.size + 1) W3 rfl
  refine (callsIn_wide (n := 5)).1 ?_
  refine callsIn_of_wp_marks Tryz.func28 rfl trivial ?_ rfl
  simp only [Tryz.ntmps28, List.size_toArray, List.length_cons, List.length_nil, Nat.reduceAdd, Nat.reduceSub, Array.replicate_succ, Array.replicate_zero, List.push_toArray, List.append_toArray, List.nil_append, List.cons_append]
  gi_wp2_with (refine ⟨trivial, ?_⟩; gi_at_call 47; refine hX.mono ?_; rintro e w' ⟨rfl, rfl⟩)
  try rw [hW4]
  have hLn : Ln w m.vars (.slice av m.vars.length cv) (w.heap.size + 1) (l, 0) W4 := ⟨a2, hl, by omega, hw.below hbw, hV⟩
  have hO4 : Ofw (fun _ => False) w W4 := Ofw.of_below hbw
  clear hX hW1 hW2 hW3 hW4 hb1 hb2 hb3 hb4 b1 b3 aP hs1 hs2 hs3 hbw a2
  refine y4p rfl (by omega) (gf := 105) (lb := #[.pointer (some ⟨w.heap.size + 3, 0, none⟩)]) rfl trivial (enters_of Tryz.func105 (by kernel_rfl) rfl) (va := .slice av m.vars.length cv) (b := w.heap.size + 1) (l, 0) (T := fun k => k = w.heap.size + 3) (fun k hk => by omega)
    (fun W hb => y4q _ (by omega) (w.heap.size + 3) W ((hb.block _ (by omega)).trans a4) (by omega)) rfl
    (fun s W => Lw (.slice av m.vars.length cv) (w.heap.size + 1) s W ∧ ((s = (l, 0) ∧ Ofw (fun _ => False) w W ∧ W.heap[w.heap.size]? = some (.cells #[.pointer (some ⟨P, 0, none⟩)] 81) ∧ W.heap[w.heap.size + 2]? = some (.cells #[.pointer (some ⟨w.heap.size + 1, 0, none⟩)] 113) ∧ W.heap[w.heap.size + 3]? = some (.cells #[.pointer (some ⟨w.heap.size + 1, 0, none⟩)] 113)) ∨ (yl s = none ∧ FinAt S B P RR W4.heap.size (w.heap.size + 2) w (w.heap.size + 1) s W)))
    (fun c W => c = .exit 0 ∧ ∃ (r : List UInt8) (f : Int), Lw (.slice av m.vars.length cv) (w.heap.size + 1) (r, f) W ∧ FinAt S B P RR W4.heap.size (w.heap.size + 2) w (w.heap.size + 1) (r, f) W)
    (fun s W hI => hI.1) ?_ ?_ ⟨hLn.lw, .inl ⟨rfl, hO4, a1, a3, a4⟩⟩
    (fun x => { tmps := #[.pointer (some ⟨P, 0, none⟩), .string (yd l), .pointer (some ⟨w.heap.size, 0, none⟩), undef, .int .i64 0, .pointer (some ⟨w.heap.size + 2, 0, none⟩), .string (yd x), undef, .pointer (some ⟨P, 0, none⟩), .pointer (some ⟨P, 0, none⟩), .pointer (some ⟨P, 0, none⟩), .slice av m.vars.length cv, .string (yd l), .agg #[.slice av m.vars.length cv, .string (yd l), .int .i64 0], .pointer (some ⟨w.heap.size + 1, 0, none⟩), .pointer (some ⟨w.heap.size + 1, 0, none⟩), .func (.func 105) #[] #[.pointer (some ⟨w.heap.size + 3, 0, none⟩)], .string (yd x), undef, undef, undef, undef, undef, undef, undef, undef, undef, undef, undef, undef, undef, undef, undef, undef, undef, undef, undef, undef], defers := [] }) ?assign ?body ?done ?stop
  · rintro s W W' ⟨hln, hd⟩ kk
    refine ⟨hln.keep (fun k hk => by omega) kk, ?_⟩
    rcases hd with ⟨rfl, ho, h0, h2, h3⟩ | ⟨hn, hf⟩
    · exact .inl ⟨rfl, ho.new kk (fun i hi => by omega), (kk.block _ (Array.getElem?_eq_some_iff.1 h0).1 (by omega)).trans h0, (kk.block _ (Array.getElem?_eq_some_iff.1 h2).1 (by omega)).trans h2, (kk.block _ (Array.getElem?_eq_some_iff.1 h3).1 (by omega)).trans h3⟩
    · exact .inr ⟨hn, hf.on kk⟩
  · rintro c W W' ⟨rfl, r, f, hln, hf⟩ kk
    exact ⟨rfl, r, f, hln.keep (fun k hk => by omega) kk, hf.on kk⟩
  case assign =>
    intro l' x W K hK
    gi_wp2
    exact hK
  case body =>
    rintro l' s' x s1 W Wa ⟨hln, hd⟩ hx hla hoa hsz hnc
    obtain ⟨rfl, ho, h0, h2, h3⟩ : s' = (l, 0) ∧ Ofw (fun _ => False) w W ∧ W.heap[w.heap.size]? = some (.cells #[.pointer (some ⟨P, 0, none⟩)] 81) ∧ W.heap[w.heap.size + 2]? = some (.cells #[.pointer (some ⟨w.heap.size + 1, 0, none⟩)] 113) ∧ W.heap[w.heap.size + 3]? = some (.cells #[.pointer (some ⟨w.heap.size + 1, 0, none⟩)] 113) := by
      rcases hd with hd | ⟨hn, _⟩
      · exact hd
      · rw [hn] at hx; cases hx
    have h0a := (hoa.block _ (Array.getElem?_eq_some_iff.1 h0).1 (by omega)).trans h0
    have h2a := (hoa.block _ (Array.getElem?_eq_some_iff.1 h2).1 (by omega)).trans h2
    have h3a := (hoa.block _ (Array.getElem?_eq_some_iff.1 h3).1 (by omega)).trans h3
    have hoA : Ofw (fun _ => False) w Wa := ho.new hoa (fun i hi => .inl (by omega))
    have hMa := h.off hoA (fun _ f => f.elim)
    have hxl : x.length ≤ 70000 := Nat.le_trans (za hx).2.1 hl
    have hx0 : x ≠ [] := (za hx).2.2.2.2
    have hs10 : s1.2 = 0 := (za hx).2.2.1
    have HP48 : Hid (Calls Tryz.prog 48 #[.string (yd x), .string ⟨#[35]⟩] Wa fun e w' => e = .returned (.bool (decide (x.headD 0 = 35))) ∧ Wa = w') := by
      refine (Tryz.strings_HasPrefix (yd x) ⟨#[35]⟩ Wa).mono ?_
      rintro e w' ⟨rfl, rfl⟩
      refine ⟨?_, rfl⟩
      have h1 : Lib.hasPrefix (yd x).data.toList (⟨#[35]⟩ : ByteArray).data.toList = decide (x.headD 0 = 35) := by
        rw [zI]
        exact y3Z x
      rw [h1]
    have c0 : Wa.cell? ⟨w.heap.size, 0, none⟩ = some (.pointer (some ⟨P, 0, none⟩)) := by rw [yc h0a 0]; rfl
    have c2 : Wa.cell? ⟨w.heap.size + 2, 0, none⟩ = some (.pointer (some ⟨w.heap.size + 1, 0, none⟩)) := by rw [yc h2a 0]; rfl
    clear hd ho h0 h2 h3 hoa hln
    obtain ⟨hb, hhb⟩ : ∃ hb, decide (x.headD 0 = 35) = hb := ⟨_, rfl⟩
    rw [hhb] at HP48
    cases hb with
    | true =>
      have hR : (m, s1.2) = RR := by
        rw [← HRR.out, hs10]
        unfold yO
        rw [hx]
        simp only [if_pos (of_decide_eq_true hhb)]
      have HE : Hid (Lw (.slice av m.vars.length cv) (w.heap.size + 1) s1 Wa ∧ FinAt S B P RR W4.heap.size (w.heap.size + 2) w (w.heap.size + 1) s1 Wa) := by
        refine ⟨hla, by rw [← hR], Wa, by rw [← hR]; exact ⟨_, _, _, hMa⟩, hoA.less (fun _ f => f.elim), hsz, hnc, Ofw.refl _ _, h2a⟩
      clear hR hhb hMa hoA h0a h2a h3a hla hs10 hx0 hs4 hnc hsz
      gi_wp2_with (refine ⟨trivial, ?_⟩; gi_at_call 48; refine (zk HP48.out).mono ?_; rintro e w' ⟨rfl, rfl⟩)
      exact .inr (.inr ⟨0, rfl, rfl, s1.1, s1.2, HE.out.1, HE.out.2⟩)
    | false =>
      obtain ⟨Q, hQ⟩ : ∃ Q, sayT m x s1 = Q := ⟨_, rfl⟩
      have HR : Hid ((if Q.2.2 = 0 then (layT m Q.1, 0) else (m, Q.2.2)) = RR) := by
        show _ = _
        rw [← HRR.out]
        unfold yO
        rw [hx]
        simp only [if_neg (of_decide_eq_false hhb), hQ]
      have HSay : Hid (∀ w', Ln w m.vars (.slice av m.vars.length cv) (w.heap.size + 1) s1 w' → Calls Tryz.prog 49 #[.pointer (some ⟨w.heap.size + 1, 0, none⟩), .string (yd x), .agg #[.slice av m.vars.length cv, .slice ac m.cons.length cc, .bool m.has, vg]] w' (SR w m.vars (.slice av m.vars.length cv) (w.heap.size + 1) Q w')) := fun w' h' => by
        have := y4r x ac cc vg w' h' hx0
        rw [hQ] at this
        exact this
      have HEnd : Hid (yl Q.2 = none ∧ Q.2.1.length ≤ s1.1.length) := ⟨by rw [← hQ]; exact y3E _ _ _, by rw [← hQ]; exact y3R _ _ _⟩
      have hPb : P ≠ w.heap.size + 1 := by omega
      have HS : Hid (∀ wz, Ofw (fun k => k = w.heap.size + 1) Wa wz → MoIs B P m (.slice av m.vars.length cv) (.slice ac m.cons.length cc) vg wz ∧ wz.heap[w.heap.size]? = some (.cells #[.pointer (some ⟨P, 0, none⟩)] 81) ∧ wz.heap[w.heap.size + 2]? = some (.cells #[.pointer (some ⟨w.heap.size + 1, 0, none⟩)] 113)) := fun wz oz =>
        ⟨hMa.off oz (fun k hk => ⟨by omega, fun c t e => by
          have hk' : k = w.heap.size + 1 := hk
          rw [hk', hla.o] at e
          injection e with e
          injection e with _ e _
          subst e
          decide⟩), (oz.block _ (Array.getElem?_eq_some_iff.1 h0a).1 (by omega)).trans h0a, (oz.block _ (Array.getElem?_eq_some_iff.1 h2a).1 (by omega)).trans h2a⟩
      have HC : Hid (∀ wz, Ofw (fun k => k = w.heap.size + 1) Wa wz → wz.cell? ⟨w.heap.size + 2, 0, none⟩ = some (.pointer (some ⟨w.heap.size + 1, 0, none⟩)) ∧ wz.cell? ⟨w.heap.size, 0, none⟩ = some (.pointer (some ⟨P, 0, none⟩)) ∧ wz.cell? ⟨P, 0, none⟩ = some (.slice av m.vars.length cv) ∧ wz.cell? ⟨P, 1, none⟩ = some (.slice ac m.cons.length cc) ∧ wz.cell? ⟨P, 2, none⟩ = some (.bool m.has) ∧ wz.cell? ⟨P, 3, none⟩ = some vg) := fun wz oz => by
        obtain ⟨g1, g2, g3⟩ := HS.out wz oz
        exact ⟨by rw [yc g3 0]; rfl, by rw [yc g2 0]; rfl, by rw [yc g1.o 0]; rfl, by rw [yc g1.o 1]; rfl, by rw [yc g1.o 2]; rfl, by rw [yc g1.o 3]; rfl⟩
      have HLa : Hid (Ln w m.vars (.slice av m.vars.length cv) (w.heap.size + 1) s1 Wa) := ⟨hla.o, hla.n, by omega, Zg hw (fun _ f => f.elim) hoA, hV⟩
      have HOa : Hid (Ofw (fun _ => False) w Wa ∧ W4.heap.size + 2 ≤ Wa.heap.size ∧ (∀ k, (k = W4.heap.size ∨ k = W4.heap.size + 1) → ∀ c t z, Wa.heap[k]? ≠ some (.cells c t z)) ∧ W4.heap.size = w.heap.size + 4 ∧ Wa.heap[w.heap.size + 3]? = some (.cells #[.pointer (some ⟨w.heap.size + 1, 0, none⟩)] 113) ∧ Wa.heap[w.heap.size + 2]? = some (.cells #[.pointer (some ⟨w.heap.size + 1, 0, none⟩)] 113)) := ⟨hoA, hsz, hnc, hs4, h3a, h2a⟩
      clear hQ hhb hMa hoA h0a h2a h3a hla hs10 hx0 hsz hnc c0 c2 hs4
      gi_wp2_with (refine ⟨trivial, ?_⟩; gi_at_call 48; refine (zk HP48.out).mono ?_; rintro e w' ⟨rfl, rfl⟩)
      refine zQ (fun w' => w'.cell? ⟨w.heap.size + 2, 0, none⟩ = some (.pointer (some ⟨w.heap.size + 1, 0, none⟩)) ∧ w'.cell? ⟨w.heap.size, 0, none⟩ = some (.pointer (some ⟨P, 0, none⟩)) ∧ w'.cell? ⟨P, 0, none⟩ = some (.slice av m.vars.length cv) ∧ w'.cell? ⟨P, 1, none⟩ = some (.slice ac m.cons.length cc) ∧ w'.cell? ⟨P, 2, none⟩ = some (.bool m.has) ∧ w'.cell? ⟨P, 3, none⟩ = some vg) (fun _ => True) [] hm ⟨HC.out Wa.drew (Ofw.of_below (Below.refl _ _).drew), trivial⟩ (fun hHeld => ?_)
      refine yt (i := 0) (oi := ⟨some 20, .load 113 (.tmp 5), _, _, _, none⟩) (v := ?v0) rfl (by kernel_rfl) (by kernel_rfl) (by kernel_rfl) (by kernel_rfl) (by kernel_rfl) yp ⟨Or.inl ⟨by rfl, ?h0⟩, fun _ => rfl, fun _ e => by cases e⟩ (by assumption) ?r0
      case h0 => (intro w hSw; (try dsimp only at hSw); go_simp; try (with_reducible rfl))
      try simp only [Act.put, List.setIfInBounds_toArray, List.set_cons_zero, List.set_cons_succ]
      refine yt (i := 1) (oi := ⟨some 21, .move (.tmp 6), _, _, _, none⟩) (v := ?v1) rfl (by kernel_rfl) (by kernel_rfl) (by kernel_rfl) (by kernel_rfl) (by kernel_rfl) yp ⟨Or.inl ⟨by rfl, ?h1⟩, fun _ => rfl, fun _ e => by cases e⟩ (by assumption) ?r1
      case h1 => (intro w hSw; (try dsimp only at hSw); go_simp; try (with_reducible rfl))
      try simp only [Act.put, List.setIfInBounds_toArray, List.set_cons_zero, List.set_cons_succ]
      refine yt (i := 2) (oi := ⟨some 22, .load 81 (.tmp 2), _, _, _, none⟩) (v := ?v2) rfl (by kernel_rfl) (by kernel_rfl) (by kernel_rfl) (by kernel_rfl) (by kernel_rfl) yp ⟨Or.inl ⟨by rfl, ?h2⟩, fun _ => rfl, fun _ e => by cases e⟩ (by assumption) ?r2
      case h2 => (intro w hSw; (try dsimp only at hSw); go_simp; try (with_reducible rfl))
      try simp only [Act.put, List.setIfInBounds_toArray, List.set_cons_zero, List.set_cons_succ]
      refine yt (i := 3) (oi := ⟨some 23, .nilCheck (.tmp 22), _, _, _, none⟩) (v := ?v3) rfl (by kernel_rfl) (by kernel_rfl) (by kernel_rfl) (by kernel_rfl) (by kernel_rfl) yp ⟨Or.inl ⟨by rfl, ?h3⟩, fun _ => rfl, fun _ e => by cases e⟩ (by assumption) ?r3
      case h3 => (intro w hSw; (try dsimp only at hSw); go_simp; try (with_reducible rfl))
      try simp only [Act.put, List.setIfInBounds_toArray, List.set_cons_zero, List.set_cons_succ]
      refine yt (i := 4) (oi := ⟨some 24, .load 26 (.tmp 23), _, _, _, none⟩) (v := ?v4) rfl (by kernel_rfl) (by kernel_rfl) (by kernel_rfl) (by kernel_rfl) (by kernel_rfl) yp ⟨Or.inl ⟨by rfl, ?h4⟩, fun _ => rfl, fun _ e => by cases e⟩ (by assumption) ?r4
      case h4 => (intro w hSw; (try dsimp only at hSw); go_simp; try (with_reducible rfl))
      try simp only [Act.put, List.setIfInBounds_toArray, List.set_cons_zero, List.set_cons_succ]
      obtain ⟨q0, hq0⟩ : ∃ q, Wa.drew = q := ⟨_, rfl⟩
      have Oq0 : Hid (Ofw (fun k => k = w.heap.size + 1) Wa q0) := by rw [← hq0]; exact Ofw.of_below (Below.refl _ _).drew
      have Lq0 : Hid (Ln w m.vars (.slice av m.vars.length cv) (w.heap.size + 1) s1 q0) := by rw [← hq0]; exact HLa.out.below (Below.refl _ _).drew
      rw [hq0]
      clear hHeld hq0
      refine zU (i := 5) (j := 6) (o := ⟨some 25, .call { callee := .value (.func 49), args := #[.tmp 20, .tmp 21, .tmp 24], argTypes := #[113, 9, 26] }, _, _, _, none⟩) (o' := ⟨some 7, .alloc 74, _, _, _, none⟩) (by kernel_rfl) rfl rfl (fun K hK => ?_) (fun K hK => ?_)
      · go_simp
        gi_wp2_with (refine ⟨trivial, ?_⟩; gi_at_call 49; refine (zk (HSay.out _ Lq0.out)).mono ?_; rintro e q1 ⟨vt, vx, vb, vr, rfl, L1, o1, y1⟩)
        have Oq1 : Hid (Ofw (fun k => k = w.heap.size + 1) Wa q1) := Oq0.out.trans o1
        have Lq1 : Hid (Ln w m.vars (.slice av m.vars.length cv) (w.heap.size + 1) Q.2 q1) := L1
        have Yq1 : Hid (SyV B Q.1 vt vx vb vr q1) := y1.base (by have h1 := HOa.out.1.size; have h2 := Oq0.out.size; omega)
        clear L1 o1 y1
        refine hK.out _ _ ⟨HC.out _ Oq1.out, fun _ => trivial⟩ ?_
        clear hK K
        try simp only [Act.put, List.setIfInBounds_toArray, List.set_cons_zero, List.set_cons_succ]
        refine yn (i := 6) (o := ⟨some 7, .alloc 74, _, _, _, none⟩) (by kernel_rfl) rfl (fun K hK => ?_)
        go_simp
        obtain ⟨q2, hq2⟩ : ∃ q, q1.alloc (.cells #[.string ⟨#[]⟩, .int .i64 0, .int .i64 0, .int .i64 0, .int .i64 0, .slice none 0 0, .int .i64 0, .int .i64 0, .int .i64 0, .int .i64 0, .slice none 0 0, .slice none 0 0, .slice none 0 0] 74) = q := ⟨_, rfl⟩
        rw [hq2]
        have bq : Below q1.heap.size q1 q2 := hq2 ▸ (Below.refl _ _).alloc (Nat.le_refl _) _
        obtain ⟨G, hG⟩ : ∃ G, q1.heap.size = G := ⟨_, rfl⟩
        have Gq : Hid (q2.heap[G]? = some (.cells (sayZ 0) 74 (0, 0)) ∧ Wa.heap.size ≤ G) := ⟨by rw [← hq2, ← hG]; exact heap_alloc_new q1 _, by rw [← hG]; exact Oq1.out.size⟩
        have Oq2 : Hid (Ofw (fun k => k = w.heap.size + 1) Wa q2) := Oq1.out.trans (Ofw.of_below bq)
        have Lq2 : Hid (Ln w m.vars (.slice av m.vars.length cv) (w.heap.size + 1) Q.2 q2) := Lq1.out.below bq
        have Yq2 : Hid (SyV B Q.1 vt vx vb vr q2) := Yq1.out.off (S := fun _ => False) (Ofw.of_below bq) (fun _ f => f.elim)
        rw [hG]
        clear bq hq2 hG
        refine hK.out _ _ ⟨HC.out _ Oq2.out, fun _ => trivial⟩ ?_
        clear hK K
        try simp only [Act.put, List.setIfInBounds_toArray, List.set_cons_zero, List.set_cons_succ]
        have hone := Yq2.out.one
        obtain ⟨w5, hw5⟩ : ∃ w5, q2.setRow G (sayC Q.1.v.name Q.1.v.lo Q.1.v.hi Q.1.c.kind Q.1.c.op vt Q.1.c.k Q.1.c.v Q.1.c.x Q.1.c.y vx vb vr) = w5 := ⟨_, rfl⟩
        refine yn (i := 7) (o := ⟨none, .store 74 (.tmp 7) (.tmp 25), _, _, _, none⟩) (by kernel_rfl) rfl (fun K hK => ?_)
        refine QI q2 74 (.tmp 7) (.tmp 25) rfl G (sayC Q.1.v.name Q.1.v.lo Q.1.v.hi Q.1.c.kind Q.1.c.op vt Q.1.c.k Q.1.c.v Q.1.c.x Q.1.c.y vx vb vr) (by rfl) (by rfl) 74 (sayZ 0) Gq.out.1 (Ys _ _ _ _ _ _ _ _ _ _ _ _ _) (by rfl) hone (by rfl) ?_
        rw [hw5]
        have og : Ofw (fun k => k = G) q2 w5 := hw5 ▸ xT
        have H5 : Hid (ReadAt B P m (.slice av m.vars.length cv) (.slice ac m.cons.length cc) vg w Wa w5 G Q vt vx vb vr) := ⟨hw5 ▸ setRow_heap _ _ _ _ _ _ Gq.out.1, Lq2.out.keep (fun k hk => by have hk' : k = G := hk; have h1 := HOa.out.2.1; have h2 := HOa.out.2.2.2.1; have h3 := Gq.out.2; omega) og, Oq2.out.new og (fun i hi => by have hi' : i = G := hi; have h3 := Gq.out.2; omega), Yq2.out.off og (fun k hk c t e => by have hk' : k = G := hk; rw [hk'] at e; rw [zl Gq.out.1 e]; decide)⟩
        clear hw5 og
        refine hK.out _ _ ⟨HC.out _ H5.out.o, fun _ => trivial⟩ ?_
        clear hK K
        try simp only [Act.put]
        refine yV (by kernel_rfl) ⟨rfl, ?_⟩ _
        obtain ⟨e1, e2, e3⟩ := HC.out _ H5.out.o
        have eb : w5.cell? ⟨w.heap.size + 1, 2, none⟩ = some (.int .i64 Q.2.2) := by rw [yc H5.out.l.o 2]; rfl
        have f0 : w5.cell? ⟨G, 0, none⟩ = some (.string Q.1.v.name) := by rw [yc H5.out.c 0]; rfl
        have f1 : w5.cell? ⟨G, 1, none⟩ = some (.int .i64 Q.1.v.lo) := by rw [yc H5.out.c 1]; rfl
        have f2 : w5.cell? ⟨G, 2, none⟩ = some (.int .i64 Q.1.v.hi) := by rw [yc H5.out.c 2]; rfl
        have f3 : w5.cell? ⟨G, 3, none⟩ = some (.int .i64 Q.1.c.kind) := by rw [yc H5.out.c 3]; rfl
        have f4 : w5.cell? ⟨G, 4, none⟩ = some (.int .i64 Q.1.c.op) := by rw [yc H5.out.c 4]; rfl
        have f5 : w5.cell? ⟨G, 5, none⟩ = some (vt) := by rw [yc H5.out.c 5]; rfl
        have f6 : w5.cell? ⟨G, 6, none⟩ = some (.int .i64 Q.1.c.k) := by rw [yc H5.out.c 6]; rfl
        have f7 : w5.cell? ⟨G, 7, none⟩ = some (.int .i64 Q.1.c.v) := by rw [yc H5.out.c 7]; rfl
        have f8 : w5.cell? ⟨G, 8, none⟩ = some (.int .i64 Q.1.c.x) := by rw [yc H5.out.c 8]; rfl
        have f9 : w5.cell? ⟨G, 9, none⟩ = some (.int .i64 Q.1.c.y) := by rw [yc H5.out.c 9]; rfl
        have f10 : w5.cell? ⟨G, 10, none⟩ = some (vx) := by rw [yc H5.out.c 10]; rfl
        have f11 : w5.cell? ⟨G, 11, none⟩ = some (vb) := by rw [yc H5.out.c 11]; rfl
        have f12 : w5.cell? ⟨G, 12, none⟩ = some (vr) := by rw [yc H5.out.c 12]; rfl
        clear e3
        by_cases hq0 : Q.2.2 = 0
        · have hq0' : (Q.2.2 == 0) = true := by simp [hq0]
          have HR2 : Hid ((layT m Q.1, Q.2.2) = RR) := by show _ = _; rw [← HR.out, if_pos hq0, hq0]
          have HLy : Hid (Calls Tryz.prog 50 #[.pointer (some ⟨P, 0, none⟩), .agg #[.string Q.1.v.name, .int .i64 Q.1.v.lo, .int .i64 Q.1.v.hi, .int .i64 Q.1.c.kind, .int .i64 Q.1.c.op, vt, .int .i64 Q.1.c.k, .int .i64 Q.1.c.v, .int .i64 Q.1.c.x, .int .i64 Q.1.c.y, vx, vb, vr]] w5 fun e w' => e = .returned (.tuple #[]) ∧ MoI B P (layT m Q.1) w' ∧ Ofw (fun k => k = P ∨ (Value.slice av m.vars.length cv).ownBlock = some k ∨ (Value.slice ac m.cons.length cc).ownBlock = some k) w5 w') := Qp w5 (HS.out _ H5.out.o).1 H5.out.y (by have := hg.v; omega) (by have := hg.c; omega)
          have hin : Q.2.1.length ≤ s1.1.length := HEnd.out.2
          clear hq0 HR
          gi_wp2_with (refine ⟨trivial, ?_⟩; gi_at_call 50; refine (zk HLy.out).mono ?_; rintro e w6 ⟨rfl, h6, o6⟩; have H6 : Hid (MoI B P (layT m Q.1) w6 ∧ Ofw (fun k => k = P ∨ (Value.slice av m.vars.length cv).ownBlock = some k ∨ (Value.slice ac m.cons.length cc).ownBlock = some k) w5 w6) := ⟨h6, o6⟩; clear h6 o6)
          obtain ⟨z1, z2, z3, z4, z5, z6, z7⟩ := Zf (HS.out _ H5.out.o).1 H5.out H6.out.2 HOa.out.1 HOa.out.2.1 HOa.out.2.2.1 HOa.out.2.2.2.1 HOa.out.2.2.2.2.1 HOa.out.2.2.2.2.2 (by omega)
          exact ⟨.inl ⟨rfl, Q.2, ⟨z1, .inr ⟨HEnd.out.1, by rw [← HR2.out], w6, by rw [← HR2.out]; exact H6.out.1, by rw [HSet.out]; exact z2, z4, z3, Ofw.refl _ _, z5⟩⟩, hin⟩, z6, z7⟩
        · have hq0' : (Q.2.2 == 0) = false := by simp [hq0]
          have HR2 : Hid ((m, Q.2.2) = RR) := by show _ = _; rw [← HR.out, if_neg hq0]
          clear hq0 HR
          gi_wp2
          obtain ⟨z1, z2, z3, z4, z5, z6, z7⟩ := Zf (HS.out _ H5.out.o).1 H5.out (Ofw.refl _ _) HOa.out.1 HOa.out.2.1 HOa.out.2.2.1 HOa.out.2.2.2.1 HOa.out.2.2.2.2.1 HOa.out.2.2.2.2.2 (by omega)
          exact ⟨.inl ⟨rfl, Q.2, ⟨z1, .inr ⟨HEnd.out.1, by rw [← HR2.out], w5, by rw [← HR2.out]; exact ⟨_, _, _, (HS.out _ H5.out.o).1⟩, by rw [HSet.out]; exact z2, z4, z3, Ofw.refl _ _, z5⟩⟩, HEnd.out.2⟩, z6, z7⟩
      · go_simp
        obtain ⟨q1, hq1⟩ : ∃ q, q0.alloc (.cells #[.string ⟨#[]⟩, .int .i64 0, .int .i64 0, .int .i64 0, .int .i64 0, .slice none 0 0, .int .i64 0, .int .i64 0, .int .i64 0, .int .i64 0, .slice none 0 0, .slice none 0 0, .slice none 0 0] 74) = q := ⟨_, rfl⟩
        rw [hq1]
        have bq : Below q0.heap.size q0 q1 := hq1 ▸ (Below.refl _ _).alloc (Nat.le_refl _) _
        obtain ⟨G, hG⟩ : ∃ G, q0.heap.size = G := ⟨_, rfl⟩
        have Gq1 : Hid (q1.heap[G]? = some (.cells (sayZ 0) 74 (0, 0)) ∧ Wa.heap.size ≤ G) := ⟨by rw [← hq1, ← hG]; exact heap_alloc_new q0 _, by rw [← hG]; exact Oq0.out.size⟩
        have Oq1 : Hid (Ofw (fun k => k = w.heap.size + 1) Wa q1) := Oq0.out.trans (Ofw.of_below bq)
        have Lq1 : Hid (Ln w m.vars (.slice av m.vars.length cv) (w.heap.size + 1) s1 q1) := Lq0.out.below bq
        rw [hG]
        clear bq hq1 hG
        refine hK.out _ _ ⟨HC.out _ Oq1.out, fun _ => trivial⟩ ?_
        clear hK K
        try simp only [Act.put, List.setIfInBounds_toArray, List.set_cons_zero, List.set_cons_succ]
        refine yn (i := 5) (o := ⟨some 25, .call { callee := .value (.func 49), args := #[.tmp 20, .tmp 21, .tmp 24], argTypes := #[113, 9, 26] }, _, _, _, none⟩) (by kernel_rfl) rfl (fun K hK => ?_)
        go_simp
        gi_wp2_with (refine ⟨trivial, ?_⟩; gi_at_call 49; refine (zk (HSay.out _ Lq1.out)).mono ?_; rintro e q2 ⟨vt, vx, vb, vr, rfl, L2, o2, y2⟩)
        have Oq2 : Hid (Ofw (fun k => k = w.heap.size + 1) Wa q2) := Oq1.out.trans o2
        have Lq2 : Hid (Ln w m.vars (.slice av m.vars.length cv) (w.heap.size + 1) Q.2 q2) := L2
        have Yq2 : Hid (SyV B Q.1 vt vx vb vr q2) := y2.base (by have h1 := HOa.out.1.size; have h2 := Oq1.out.size; omega)
        have Gq : Hid (q2.heap[G]? = some (.cells (sayZ 0) 74 (0, 0)) ∧ Wa.heap.size ≤ G) := ⟨(o2.block _ (Array.getElem?_eq_some_iff.1 Gq1.out.1).1 (by have h1 := HOa.out.2.1; have h2 := HOa.out.2.2.2.1; have h3 := Gq1.out.2; omega)).trans Gq1.out.1, Gq1.out.2⟩
        clear L2 o2 y2 Gq1
        refine hK.out _ _ ⟨HC.out _ Oq2.out, fun _ => trivial⟩ ?_
        clear hK K
        try simp only [Act.put, List.setIfInBounds_toArray, List.set_cons_zero, List.set_cons_succ]
        have hone := Yq2.out.one
        obtain ⟨w5, hw5⟩ : ∃ w5, q2.setRow G (sayC Q.1.v.name Q.1.v.lo Q.1.v.hi Q.1.c.kind Q.1.c.op vt Q.1.c.k Q.1.c.v Q.1.c.x Q.1.c.y vx vb vr) = w5 := ⟨_, rfl⟩
        refine yn (i := 7) (o := ⟨none, .store 74 (.tmp 7) (.tmp 25), _, _, _, none⟩) (by kernel_rfl) rfl (fun K hK => ?_)
        refine QI q2 74 (.tmp 7) (.tmp 25) rfl G (sayC Q.1.v.name Q.1.v.lo Q.1.v.hi Q.1.c.kind Q.1.c.op vt Q.1.c.k Q.1.c.v Q.1.c.x Q.1.c.y vx vb vr) (by rfl) (by rfl) 74 (sayZ 0) Gq.out.1 (Ys _ _ _ _ _ _ _ _ _ _ _ _ _) (by rfl) hone (by rfl) ?_
        rw [hw5]
        have og : Ofw (fun k => k = G) q2 w5 := hw5 ▸ xT
        have H5 : Hid (ReadAt B P m (.slice av m.vars.length cv) (.slice ac m.cons.length cc) vg w Wa w5 G Q vt vx vb vr) := ⟨hw5 ▸ setRow_heap _ _ _ _ _ _ Gq.out.1, Lq2.out.keep (fun k hk => by have hk' : k = G := hk; have h1 := HOa.out.2.1; have h2 := HOa.out.2.2.2.1; have h3 := Gq.out.2; omega) og, Oq2.out.new og (fun i hi => by have hi' : i = G := hi; have h3 := Gq.out.2; omega), Yq2.out.off og (fun k hk c t e => by have hk' : k = G := hk; rw [hk'] at e; rw [zl Gq.out.1 e]; decide)⟩
        clear hw5 og
        refine hK.out _ _ ⟨HC.out _ H5.out.o, fun _ => trivial⟩ ?_
        clear hK K
        try simp only [Act.put]
        refine yV (by kernel_rfl) ⟨rfl, ?_⟩ _
        obtain ⟨e1, e2, e3⟩ := HC.out _ H5.out.o
        have eb : w5.cell? ⟨w.heap.size + 1, 2, none⟩ = some (.int .i64 Q.2.2) := by rw [yc H5.out.l.o 2]; rfl
        have f0 : w5.cell? ⟨G, 0, none⟩ = some (.string Q.1.v.name) := by rw [yc H5.out.c 0]; rfl
        have f1 : w5.cell? ⟨G, 1, none⟩ = some (.int .i64 Q.1.v.lo) := by rw [yc H5.out.c 1]; rfl
        have f2 : w5.cell? ⟨G, 2, none⟩ = some (.int .i64 Q.1.v.hi) := by rw [yc H5.out.c 2]; rfl
        have f3 : w5.cell? ⟨G, 3, none⟩ = some (.int .i64 Q.1.c.kind) := by rw [yc H5.out.c 3]; rfl
        have f4 : w5.cell? ⟨G, 4, none⟩ = some (.int .i64 Q.1.c.op) := by rw [yc H5.out.c 4]; rfl
        have f5 : w5.cell? ⟨G, 5, none⟩ = some (vt) := by rw [yc H5.out.c 5]; rfl
        have f6 : w5.cell? ⟨G, 6, none⟩ = some (.int .i64 Q.1.c.k) := by rw [yc H5.out.c 6]; rfl
        have f7 : w5.cell? ⟨G, 7, none⟩ = some (.int .i64 Q.1.c.v) := by rw [yc H5.out.c 7]; rfl
        have f8 : w5.cell? ⟨G, 8, none⟩ = some (.int .i64 Q.1.c.x) := by rw [yc H5.out.c 8]; rfl
        have f9 : w5.cell? ⟨G, 9, none⟩ = some (.int .i64 Q.1.c.y) := by rw [yc H5.out.c 9]; rfl
        have f10 : w5.cell? ⟨G, 10, none⟩ = some (vx) := by rw [yc H5.out.c 10]; rfl
        have f11 : w5.cell? ⟨G, 11, none⟩ = some (vb) := by rw [yc H5.out.c 11]; rfl
        have f12 : w5.cell? ⟨G, 12, none⟩ = some (vr) := by rw [yc H5.out.c 12]; rfl
        clear e3
        by_cases hq0 : Q.2.2 = 0
        · have hq0' : (Q.2.2 == 0) = true := by simp [hq0]
          have HR2 : Hid ((layT m Q.1, Q.2.2) = RR) := by show _ = _; rw [← HR.out, if_pos hq0, hq0]
          have HLy : Hid (Calls Tryz.prog 50 #[.pointer (some ⟨P, 0, none⟩), .agg #[.string Q.1.v.name, .int .i64 Q.1.v.lo, .int .i64 Q.1.v.hi, .int .i64 Q.1.c.kind, .int .i64 Q.1.c.op, vt, .int .i64 Q.1.c.k, .int .i64 Q.1.c.v, .int .i64 Q.1.c.x, .int .i64 Q.1.c.y, vx, vb, vr]] w5 fun e w' => e = .returned (.tuple #[]) ∧ MoI B P (layT m Q.1) w' ∧ Ofw (fun k => k = P ∨ (Value.slice av m.vars.length cv).ownBlock = some k ∨ (Value.slice ac m.cons.length cc).ownBlock = some k) w5 w') := Qp w5 (HS.out _ H5.out.o).1 H5.out.y (by have := hg.v; omega) (by have := hg.c; omega)
          have hin : Q.2.1.length ≤ s1.1.length := HEnd.out.2
          clear hq0 HR
          gi_wp2_with (refine ⟨trivial, ?_⟩; gi_at_call 50; refine (zk HLy.out).mono ?_; rintro e w6 ⟨rfl, h6, o6⟩; have H6 : Hid (MoI B P (layT m Q.1) w6 ∧ Ofw (fun k => k = P ∨ (Value.slice av m.vars.length cv).ownBlock = some k ∨ (Value.slice ac m.cons.length cc).ownBlock = some k) w5 w6) := ⟨h6, o6⟩; clear h6 o6)
          obtain ⟨z1, z2, z3, z4, z5, z6, z7⟩ := Zf (HS.out _ H5.out.o).1 H5.out H6.out.2 HOa.out.1 HOa.out.2.1 HOa.out.2.2.1 HOa.out.2.2.2.1 HOa.out.2.2.2.2.1 HOa.out.2.2.2.2.2 (by omega)
          exact ⟨.inl ⟨rfl, Q.2, ⟨z1, .inr ⟨HEnd.out.1, by rw [← HR2.out], w6, by rw [← HR2.out]; exact H6.out.1, by rw [HSet.out]; exact z2, z4, z3, Ofw.refl _ _, z5⟩⟩, hin⟩, z6, z7⟩
        · have hq0' : (Q.2.2 == 0) = false := by simp [hq0]
          have HR2 : Hid ((m, Q.2.2) = RR) := by show _ = _; rw [← HR.out, if_neg hq0]
          clear hq0 HR
          gi_wp2
          obtain ⟨z1, z2, z3, z4, z5, z6, z7⟩ := Zf (HS.out _ H5.out.o).1 H5.out (Ofw.refl _ _) HOa.out.1 HOa.out.2.1 HOa.out.2.2.1 HOa.out.2.2.2.1 HOa.out.2.2.2.2.1 HOa.out.2.2.2.2.2 (by omega)
          exact ⟨.inl ⟨rfl, Q.2, ⟨z1, .inr ⟨HEnd.out.1, by rw [← HR2.out], w5, by rw [← HR2.out]; exact ⟨_, _, _, (HS.out _ H5.out.o).1⟩, by rw [HSet.out]; exact z2, z4, z3, Ofw.refl _ _, z5⟩⟩, HEnd.out.2⟩, z6, z7⟩
  case done =>
    rintro s' W ⟨hln, hd⟩ ht hK
    have HD : Hid (RR.2 = s'.2 ∧ MoI B P RR.1 W ∧ Ofw S w W ∧ W.heap[w.heap.size + 2]? = some (.cells #[.pointer (some ⟨w.heap.size + 1, 0, none⟩)] 113)) := by
      rcases hd with ⟨rfl, ho, h0, h2, _⟩ | ⟨_, hf⟩
      · have hR : RR = (m, 0) := by
          rw [← HRR.out]
          unfold yO
          rw [ht]
        rw [hR]
        exact ⟨rfl, ⟨_, _, _, h.off ho (fun _ f => f.elim)⟩, ho.less (fun _ f => f.elim), h2⟩
      · exact hf.fin (by omega) (by omega) (by omega)
    have e1 : W.cell? ⟨w.heap.size + 2, 0, none⟩ = some (.pointer (some ⟨w.heap.size + 1, 0, none⟩)) := by rw [yc HD.out.2.2.2 0]; rfl
    have e2 : W.cell? ⟨w.heap.size + 1, 2, none⟩ = some (.int .i64 s'.2) := by rw [yc hln.o 2]; rfl
    gi_wp2
    refine ⟨by simp, .inl ⟨_, _, rfl, run_takeDeferred hK, ?_⟩⟩
    have hp := yY (S := fun k => k = W4.heap.size) W W4.heap.size (.deferred none) rfl
    refine ⟨_, results_tmp rfl _ _ _, by rw [HD.out.1]; rfl, ?_, HD.out.2.2.1.new hp (fun k hk => by have hk' : k = W4.heap.size := hk; omega)⟩
    obtain ⟨vv, vc, vg', hm'⟩ := HD.out.2.1
    exact ⟨vv, vc, vg', hm'.off hp (fun k hk => by
      have hk' : k = W4.heap.size := hk
      refine ⟨by omega, fun c t e => ?_⟩
      rw [hk', hK] at e
      cases e)⟩
  case stop =>
    rintro c W ⟨rfl, r, f, hln, hf⟩ hK
    obtain ⟨s', hs'⟩ : ∃ s' : St, (r, f) = s' := ⟨_, rfl⟩
    rw [hs'] at hln hf
    clear hs'
    have HD : Hid (RR.2 = s'.2 ∧ MoI B P RR.1 W ∧ Ofw S w W ∧ W.heap[w.heap.size + 2]? = some (.cells #[.pointer (some ⟨w.heap.size + 1, 0, none⟩)] 113)) := hf.fin (by omega) (by omega) (by omega)
    refine wpIn_exit ?_
    have e1 : W.cell? ⟨w.heap.size + 2, 0, none⟩ = some (.pointer (some ⟨w.heap.size + 1, 0, none⟩)) := by rw [yc HD.out.2.2.2 0]; rfl
    have e2 : W.cell? ⟨w.heap.size + 1, 2, none⟩ = some (.int .i64 s'.2) := by rw [yc hln.o 2]; rfl
    gi_wp2
    refine ⟨by simp, .inl ⟨_, _, rfl, run_takeDeferred hK, ?_⟩⟩
    have hp := yY (S := fun k => k = W4.heap.size) W W4.heap.size (.deferred none) rfl
    refine ⟨_, results_tmp rfl _ _ _, by rw [HD.out.1]; rfl, ?_, HD.out.2.2.1.new hp (fun k hk => by have hk' : k = W4.heap.size := hk; omega)⟩
    obtain ⟨vv, vc, vg', hm'⟩ := HD.out.2.1
    exact ⟨vv, vc, vg', hm'.off hp (fun k hk => by
      have hk' : k = W4.heap.size := hk
      refine ⟨by omega, fun c t e => ?_⟩
      rw [hk', hK] at e
      cases e)⟩
end Go.Proofs.YthohnmplbjhjaaaGreatDoor

namespace Go.Proofs.YthohnmplbjhjaaaGreatDoor
open Go Go.RowKit Go.Shelf Go.Lib
theorem Y6 {P : Program} {fn : Func} {p u : Tmp} {ty : TypeId} (h : fn.results = #[.cell p ty, .tmp u]) (tmps : Array Value) (w : World) (g : Nat) (t : TypeId) (cs : Array Value) (fr : Nat × Nat) (d : TypeDesc)
    (hp : tmps.getD p undef = .pointer (some ⟨g, 0, none⟩)) (hg : w.heap[g]? = some (.cells cs t fr))
    (hu : P.underlying ty = some d) (hd : (match d with | .struct _ | .array _ _ => true | _ => false) = true) (hi : (P.info? ty).map (·.size) = some cs.size) :
    (results fn tmps).run P w = .ok (.tuple #[.agg cs, tmps.getD u undef]) w := by
  rw [results_cell_tmp h, hp]
  simp [asAddr, run_loadVar_row w g t ty cs fr d hg hu hd hi, Result.andThen]
def moZ : Array Value := #[.slice none 0 0, .slice none 0 0, .bool false, .slice none 0 0]
theorem zE (a b c d : Value) : (Tryz.prog.info? 26).map (·.size) = some (#[a, b, c, d] : Array Value).size := by
  show _ = some 4
  kernel_rfl
theorem Z8 (a b c : Value) : (Tryz.prog.info? 44).map (·.size) = some (#[a, b, c] : Array Value).size := by
  show _ = some 3
  kernel_rfl
set_option maxRecDepth 10000 in
set_option maxHeartbeats 1000000 in
theorem ZR (n e : Int) (w : World) : Calls Tryz.prog 26 #[.int .i64 n, .int .i64 e] w fun en w' => ∃ F, en = .returned (.tuple #[.agg #[.slice none 0 0, .slice none 0 0, .bool false, .slice none 0 0], .iface 91 (.pointer (some ⟨F, 0, none⟩))]) ∧ w'.heap[F]? = some (.cells #[.int .i64 1, .int .i64 n, .int .i64 e] 44 (0, 0)) ∧ w.heap.size ≤ F ∧ Below w.heap.size w w' := by
  go_enter Tryz.func26, Tryz.ntmps26
  go_wp2_with fail
  refine bodyPost_ret (Y6 (p := 4) (u := 5) (ty := 26) rfl _ _ w.heap.size 26 _ (0, 0) _ rfl (heap_alloc2_old w _ _) Tryz.underlying26 rfl (zE _ _ _ _)) rfl ?_
  exact ⟨w.heap.size + 1, rfl, heap_alloc2_new w _ _, by omega, ((Below.refl _ _).alloc (Nat.le_refl _) _).alloc (by simp) _⟩
theorem y3F (p : Value) (w : World) : (Instr.typeAssert (.iface 91 p) 35 91 true).run Tryz.prog w = .ok (.tuple #[p, .bool true]) w := by kernel_rfl
attribute [local go_sem] y3F
set_option maxRecDepth 10000 in
set_option maxHeartbeats 1000000 in
theorem Q2 (F : Nat) (n e : Int) (w : World) (h : w.heap[F]? = some (.cells #[.int .i64 1, .int .i64 n, .int .i64 e] 44 (0, 0))) (he : e ≠ 0) : Calls Tryz.prog 17 #[.iface 91 (.pointer (some ⟨F, 0, none⟩))] w fun en w' => en = .returned (.tuple #[.agg #[.int .i64 1, .int .i64 n, .int .i64 e], .bool true]) ∧ Below w.heap.size w w' := by
  obtain ⟨W, hW⟩ : ∃ W, w.alloc (.cells #[.int .i64 0, .int .i64 0, .int .i64 0] 44) = W := ⟨_, rfl⟩
  have hb : Below w.heap.size w W := hW ▸ (Below.refl _ _).alloc (Nat.le_refl _) _
  have hF : W.heap[F]? = some (.cells #[.int .i64 1, .int .i64 n, .int .i64 e] 44 (0, 0)) := (hb.block F (Array.getElem?_eq_some_iff.1 h).1).trans h
  have hR : W.heap[w.heap.size]? = some (.cells #[.int .i64 0, .int .i64 0, .int .i64 0] 44 (0, 0)) := hW ▸ heap_alloc_new w _
  have c0 : W.cell? ⟨F, 0, none⟩ = some (.int .i64 1) := by rw [yc hF 0]; rfl
  have c1 : W.cell? ⟨F, 1, none⟩ = some (.int .i64 n) := by rw [yc hF 1]; rfl
  have c2 : W.cell? ⟨F, 2, none⟩ = some (.int .i64 e) := by rw [yc hF 2]; rfl
  have he' : (e == 0) = false := by simp [he]
  have HB : Hid (Below w.heap.size w W) := hb
  clear hb hF h he
  go_enter Tryz.func17, Tryz.ntmps17
  go_wp2_with (refine wpList_store_row rfl 44 _ _ rfl w.heap.size #[.int .i64 1, .int .i64 n, .int .i64 e] rfl rfl 44 _ hR (Z8 _ _ _) (by rfl) (by kernel_rfl) ?_)
  refine bodyPost_ret (Y6 (p := 2) (u := 3) (ty := 44) rfl _ _ w.heap.size 44 _ (0, 0) _ rfl (setRow_heap _ _ _ _ _ _ hR) Tryz.underlying44 rfl (Z8 _ _ _)) rfl ?_
  exact ⟨rfl, below_setRow HB.out (Nat.le_refl _) _⟩
set_option maxRecDepth 10000 in
set_option maxHeartbeats 1000000 in
theorem y3G (w : World) : Calls Tryz.prog 17 #[.nilIface] w fun en w' => en = .returned (.tuple #[.agg #[.int .i64 0, .int .i64 0, .int .i64 0], .bool true]) ∧ Below w.heap.size w w' := by
  obtain ⟨W, hW⟩ : ∃ W, w.alloc (.cells #[.int .i64 0, .int .i64 0, .int .i64 0] 44) = W := ⟨_, rfl⟩
  have hb : Below w.heap.size w W := hW ▸ (Below.refl _ _).alloc (Nat.le_refl _) _
  have hR : W.heap[w.heap.size]? = some (.cells #[.int .i64 0, .int .i64 0, .int .i64 0] 44 (0, 0)) := hW ▸ heap_alloc_new w _
  have HB : Hid (Below w.heap.size w W) := hb
  clear hb
  go_enter Tryz.func17, Tryz.ntmps17
  go_wp2_with (first
    | (refine Ye rfl 44 _ rfl #[.int .i64 0, .int .i64 0, .int .i64 0] (by kernel_rfl) ?_)
    | (refine wpList_store_row rfl 44 _ _ rfl w.heap.size #[.int .i64 0, .int .i64 0, .int .i64 0] rfl rfl 44 _ hR (Z8 _ _ _) (by rfl) (by kernel_rfl) ?_))
  refine bodyPost_ret (Y6 (p := 2) (u := 3) (ty := 44) rfl _ _ w.heap.size 44 _ (0, 0) _ rfl (setRow_heap _ _ _ _ _ _ hR) Tryz.underlying44 rfl (Z8 _ _ _)) rfl ?_
  exact ⟨rfl, below_setRow HB.out (Nat.le_refl _) _⟩
end Go.Proofs.YthohnmplbjhjaaaGreatDoor
