/-
  ModelMore, as it runs.
-/
import Derived.Test.YtmhfabnpfkkbcaaMdCopy
import Derived.Test.YtmhfabnpfkkbcaaMdKnown
import Derived.Test.YtmhfabnpfkkbcaaMdLists
import Derived.Test.YtmhfabnpfkkbcaaMdWStep
import Derived.Deep.RegionHeld3
namespace Go.Proofs.Ytmhfabnpfkkbcaa
open Go.RowKit

theorem costV_len (l : List Md.Vr) : l.length ≤ costV l := by
  induction l with
  | nil => exact Nat.le_refl _
  | cons v l ih => simp only [costV, List.length_cons]; omega
theorem costK_len (l : List Md.Cn) : l.length ≤ costK l := by
  induction l with
  | nil => exact Nat.le_refl _
  | cons v l ih => simp only [costK, costC, List.length_cons]; omega
theorem costK_mem {l : List Md.Cn} {c : Md.Cn} (h : c ∈ l) : costC c ≤ costK l := by
  induction l with
  | nil => cases h
  | cons v l ih =>
    simp only [costK]
    rcases List.mem_cons.1 h with rfl | h
    · omega
    · have := ih h; omega
theorem cost_sizes {m : Md.Mo} {n : Nat} (h : costM m + n ≤ 20000) : (m.vars.length ≤ 1000000 ∧ m.cons.length ≤ 1000000 ∧ m.goal.length ≤ 1000000) ∧ ∀ c ∈ m.cons, c.terms.length ≤ 1000000 ∧ c.xs.length ≤ 1000000 ∧ c.table.length ≤ 1000000 ∧ c.rows.length ≤ 1000000 ∧ ∀ r ∈ c.rows, r.length ≤ 1000000 := by
  unfold costM at h
  have h1 := costV_len m.vars
  have h2 := costK_len m.cons
  refine ⟨by omega, fun c hc => ?_⟩
  have h3 := costK_mem hc
  unfold costC at h3
  have h4 := costL_len c.rows
  refine ⟨by omega, by omega, by omega, by omega, fun r hr => ?_⟩
  have := costL_mem hr
  omega

theorem more_box {W6 w7 : World} {us : List Value} {e : TypeId} {row : Option Nat} {P : Nat} {cs : Array Value} {t : TypeId} {B : Nat} (hg : (W6.alloc (.cells us.toArray e)).grownBy w7 row) (hP : W6.heap[P]? = some (.cells cs t)) (hr : ∀ k, row = some k → B ≤ k ∧ k < P) : w7.heap[P]? = some (.cells cs t) := by
  have hl := (Array.getElem?_eq_some_iff.1 hP).1
  exact (hg.block P (by simp; omega) (fun e => by have := (hr P e.symm).2; omega)).trans ((Below.heap_alloc _ _ _ hl).trans hP)
/-- The problem with one constraint more. -/
structure MoreAt (w w3 w4 W W8 : World) (m : Md.Mo) (c : Md.Cn) (vv vc vg : Value) : Prop where
  belowW : Below W.heap.size W W8
  mo : MoAt W8 (Md.more m c) vv vc vg
  box : W8.heap[w4.heap.size]? = some (.cells #[vv, vc, .bool m.has, vg] 26)
theorem more_at {w w3 w4 W W6 w7 W8 : World} {m : Md.Mo} {c : Md.Cn} {vv vc vg v7 vt vx vb vr : Value} {xs : List Value} (hW8 : w7.setCell ⟨w4.heap.size, 1, none⟩ v7 = W8) (hBW : Below w.heap.size w W) (h34 : Below w3.heap.size w3 w4) (hT3 : Below W.heap.size W w3) (hO : COwn w3.heap.size (w3.heap.size + 1) w4 vc m.cons xs) (hV : Kept (fun b => ob vc b ∨ b = w3.heap.size + 1) w4 (fun w2 => VarsAt w2 vv m.vars)) (hcap : ∀ a n cp, vv = .slice a n cp → n ≤ cp) (hG : Kept (fun b => ob vc b ∨ b = w3.heap.size + 1) w4 (fun w2 => TermsAt w2 vg m.goal))
    (h46 : Below w4.heap.size w4 W6) (hs6 : W6.heap.size = w4.heap.size + 1) (hg : (W6.alloc (.cells (cnCells c vt vx vb vr).toArray 40)).grownBy w7 vc.ownBlock) (hP : w7.heap[w4.heap.size]? = some (.cells #[vv, vc, .bool m.has, vg] 26)) (ho : w7.ownsRow w3.heap.size 40 10 v7 (m.cons.length + 1) (xs ++ cnCells c vt vx vb vr)) (hn : v7.ownBlock = vc.ownBlock ∨ v7.ownBlock = some (W6.heap.size + 1)) (hC : ∀ w', Below w.heap.size w w' → CnAt w' c vt vx vb vr) (hl : m.cons.length + 1 ≤ 1000001) : MoreAt w w3 w4 W W8 m c vv v7 vg := by
  have hlt := hO.own.lt
  have s34 := h34.size
  have sT3 := hT3.size
  have b7 : Below w3.heap.size w3 w7 := ((h34.trans (h46.mono s34)).alloc (by omega) _).grown hg (by simp; omega) (fun k hk => (hlt k hk).1)
  have b8 : Below w3.heap.size w3 W8 := by rw [← hW8]; exact b7.setCell (by show w3.heap.size ≤ w4.heap.size; exact s34) _
  have bW8 : Below W.heap.size W W8 := hT3.trans (b8.mono sT3)
  have bw8 : Below w.heap.size w W8 := hBW.trans (bW8.mono hBW.size)
  have o6 : Off (ob vc) w4 (W6.alloc (.cells (cnCells c vt vx vb vr).toArray 40)) := Off.of_below (h46.alloc (by omega) _)
  have o7 : Off (ob vc) w4 w7 := o6.trans (Off.grown hg fun k hk => hk)
  have o8 : Off (ob vc) w4 W8 := by
    rw [← hW8]
    exact o7.then (T := fun b => b = w4.heap.size) (Off.setG _) (fun x hx => by omega)
  have o8' : Off (fun b => ob vc b ∨ b = w3.heap.size + 1) w4 W8 := o8.less fun _ => .inl
  have n8 : W8.ownsRow w3.heap.size 40 10 v7 (m.cons.length + 1) (xs ++ cnCells c vt vx vb vr) := by
    rw [← hW8]
    refine own_off ho (fun g hg e => ?_) (Off.setG _)
    rcases hn with h1 | h1
    · rw [h1] at hg; have := (hlt g hg).2; omega
    · rw [h1] at hg; injection hg with hg; omega
  obtain ⟨av, nv, rfl⟩ := own_form ho
  refine ⟨bW8, ⟨hV W8 o8', hcap, hO.more n8 o8' (hC W8 bw8) (by unfold maxLen; omega), hG W8 o8'⟩, ?_⟩
  rw [← hW8]
  exact heap_setCell_same w7 _ 1 _ 26 _ hP

/-- The three boxes. -/
structure SX (N P : Nat) (MM CC PP : Array Value) (Wb : World) (w' : World) : Prop where
  m : w'.heap[N]? = some (.cells MM 26 (0, 0))
  c : w'.heap[N + 1]? = some (.cells CC 40 (0, 0))
  n : w'.heap[P]? = some (.cells PP 26 (0, 0))
  b : Below Wb.heap.size Wb w'
theorem SX.next {N P : Nat} {MM CC PP : Array Value} {Wb w1 w2 : World} (h : SX N P MM CC PP Wb w1) (hb : Below w1.heap.size w1 w2) : SX N P MM CC PP Wb w2 :=
  ⟨(hb.block _ (Array.getElem?_eq_some_iff.1 h.m).1).trans h.m, (hb.block _ (Array.getElem?_eq_some_iff.1 h.c).1).trans h.c, (hb.block _ (Array.getElem?_eq_some_iff.1 h.n).1).trans h.n, h.b.trans (hb.mono h.b.size)⟩
theorem SX.grown {N P : Nat} {MM CC PP : Array Value} {Wb w1 w2 : World} {row : Option Nat} (h : SX N P MM CC PP Wb w1) (hg : w1.grownBy w2 row) (hr : ∀ k, row = some k → Wb.heap.size ≤ k) (hl : N + 1 < Wb.heap.size ∧ P < Wb.heap.size) : SX N P MM CC PP Wb w2 :=
  ⟨(hg.block _ (Array.getElem?_eq_some_iff.1 h.m).1 (fun e => by have := hr _ e.symm; omega)).trans h.m, (hg.block _ (Array.getElem?_eq_some_iff.1 h.c).1 (fun e => by have := hr _ e.symm; omega)).trans h.c, (hg.block _ (Array.getElem?_eq_some_iff.1 h.n).1 (fun e => by have := hr _ e.symm; omega)).trans h.n, h.b.grown hg h.b.size hr⟩
theorem Cx.next {w1 w2 : World} {v : Value} {l : List Int} {B n : Nat} {xs : List Value} (h : IntsAt w1 v l ∧ w1.ownsRow B 3 1 v n xs) (hb : Below w1.heap.size w1 w2) : IntsAt w2 v l ∧ w2.ownsRow B 3 1 v n xs :=
  ⟨h.1.below hb, own_off (S := fun _ => False) h.2 (fun _ _ h => h) (Off.of_below hb)⟩
theorem ints_more {w : World} {B n : Nat} {v : Value} {l : List Int} {z : Int} (h : w.ownsRow B 3 1 v (n + 1) (l.map (.int .i64) ++ [.int .i64 z])) (hl : l.length = n) (hn : n ≤ 1000000) : IntsAt w v (l ++ [z]) := by
  have e1 : (l ++ [z]).length = n + 1 := by simp [hl]
  have h' : w.ownsRow B 3 1 v (l ++ [z]).length ((l ++ [z]).map (.int .i64)) := by rw [e1, List.map_append]; exact h
  exact own_ints' h' (by rw [e1]; unfold maxLen; omega)
/-- An append where the order is drawn. -/
theorem op_append_one {P : Program} {ops : Array Oper} {o : Oper} {a : Act} {Q : Exit → Act → World → Prop} {K : Act → World → Prop} (wr : World) (u : Value) (s x : Operand) (t e : TypeId) (z : Value) (bytes : Nat)
    (ho : o.op = .call { callee := .builtin .append, args := #[s, x], argTypes := #[t, t] }) (ht : P.underlying t = some (.slice e)) (hinfo : (P.info? e).map (fun i => (i.zero, i.size, i.bytes)) = some (some z, 1, bytes)) (hz1 : z.cells.size = 1)
    (base : Nat) (v : Value) (n : Nat) (xs : List Value) (hs : a.eval s = v) (hown : wr.ownsRow base e 1 v n xs) (hu : u.oneCell' = true)
    (bk : Nat) (hbk : wr.heap.size = bk) (hx : a.eval x = .slice (some ⟨bk, 0, none⟩) 1 1) (h63 : n + 1 ≤ maxLen) (hbytes : (n + 1) * bytes ≤ 140737488355328) (hbase : base ≤ wr.heap.size) (hw : Region.wanted o (yielded ops a.tmps) = true)
    (h : ∀ v' w', w'.ownsRow base e 1 v' (n + 1) (xs ++ [u]) → (wr.alloc (.cells #[u] e)).grownBy w' v.ownBlock → K (a.put o.dst v') w') : if Region.wanted o (yielded ops a.tmps) = true then Oper.wp P o a (wr.alloc (.cells #[u] e)) K Q else K (a.put o.dst undef) (wr.alloc (.cells #[u] e)) := by
  subst hbk
  rw [if_pos hw]
  obtain ⟨i0, hi, hz0, hz1', hz2⟩ := info_of hinfo
  have hsz : (wr.alloc (.cells #[u] e)).heap.size = wr.heap.size + 1 := by simp
  obtain ⟨v', w', hr, h2, h3, _⟩ := run_append_s (P := P) (wr.alloc (.cells #[u] e)) base t o.type e i0 z 1 bytes ht hi hz0 hz1' hz2 hz1 (by decide) v n xs (hown.alloc _) ⟨wr.heap.size, 0, none⟩ 1 1 [u] rfl (fun j y hj => by
    rw [addr_none]
    match j, hj with
    | 0, hj => simp at hj; subst hj; show World.cell? _ ⟨wr.heap.size, 0, none⟩ = _; unfold World.cell?; rw [heap_alloc_new wr (.cells #[u] e)]; rfl
    | k + 1, hj => simp at hj) (fun y hy => by rw [List.mem_singleton.1 hy]; exact hu) h63 hbytes (by rw [hsz]; omega)
  unfold Oper.wp execOp
  simp only [ho, resolve, invoke, builtin, Sem.run_bind, Sem.run_pure, Result.andThen_ok, List.map_toArray, List.map_cons, List.map_nil, hs, hx, hr]
  exact h v' w' h2 h3

set_option maxRecDepth 10000 in
set_option maxHeartbeats 1000000 in
theorem modelMore_walk (m : Md.Mo) (c : Md.Cn) (vv vc vg vt vx vb vr vq : Value) (l : List Int) (w : World) (h : MoAt w m vv vc vg) (hC : CnAt w c vt vx vb vr) (hq : IntsAt w vq l) : Calls Try.prog 5 #[moVal m vv vc vg, cnVal c vt vx vb vr, vq] w fun e w' => e = .returned (.bool true) ∧ Below w.heap.size w w' := by
  obtain ⟨va, vp, rfl, hvm⟩ := h.v.form
  obtain ⟨ca, cp, rfl, hcm⟩ := h.c.form
  obtain ⟨ga, gp, rfl, hgm⟩ := h.g.form
  obtain ⟨ta, tc, rfl, _⟩ := hC.t.form
  obtain ⟨xa, xc, rfl, _⟩ := hC.x.form
  obtain ⟨ba, bc, rfl, _⟩ := hC.b.form
  obtain ⟨ra, rc, rfl, _⟩ := hC.r.form
  obtain ⟨qa, qc, rfl, hqm⟩ := hq.form
  obtain ⟨W, hW⟩ : ∃ W, (w.alloc (.cells #[.slice va m.vars.length vp, .slice ca m.cons.length cp, .bool m.has, .slice ga m.goal.length gp] 26)).alloc (.cells #[.int .i64 c.kind, .int .i64 c.op, .slice ta c.terms.length tc, .int .i64 c.k, .int .i64 c.v, .int .i64 c.x, .int .i64 c.y, .slice xa c.xs.length xc, .slice ba c.table.length bc, .slice ra c.rows.length rc] 40) = W := ⟨_, rfl⟩
  have hbW : Below w.heap.size w W := by rw [← hW]; exact ((Below.refl _ _).alloc (Nat.le_refl _) _).alloc (by simp) _
  have hN : W.heap[w.heap.size]? = some (.cells #[.slice va m.vars.length vp, .slice ca m.cons.length cp, .bool m.has, .slice ga m.goal.length gp] 26) := by
    rw [← hW, Below.heap_alloc _ _ _ (by simp)]; exact heap_alloc_new w _
  have hN1 : W.heap[w.heap.size + 1]? = some (.cells #[.int .i64 c.kind, .int .i64 c.op, .slice ta c.terms.length tc, .int .i64 c.k, .int .i64 c.v, .int .i64 c.x, .int .i64 c.y, .slice xa c.xs.length xc, .slice ba c.table.length bc, .slice ra c.rows.length rc] 40) := by
    rw [← hW]
    have := heap_alloc_new (w.alloc (.cells #[.slice va m.vars.length vp, .slice ca m.cons.length cp, .bool m.has, .slice ga m.goal.length gp] 26)) (.cells #[.int .i64 c.kind, .int .i64 c.op, .slice ta c.terms.length tc, .int .i64 c.k, .int .i64 c.v, .int .i64 c.x, .int .i64 c.y, .slice xa c.xs.length xc, .slice ba c.table.length bc, .slice ra c.rows.length rc] 40)
    simpa using this
  have hWs : W.heap.size = w.heap.size + 2 := by rw [← hW]; simp
  have HB : Hid (Below w.heap.size w W) := hbW
  have HWs : Hid (W.heap.size = w.heap.size + 2) := hWs
  have HM : Hid (∀ w', Below w.heap.size w w' → MoAt w' m (.slice va m.vars.length vp) (.slice ca m.cons.length cp) (.slice ga m.goal.length gp)) := fun w' hb => h.below hb
  have HCc : Hid (∀ w', Below w.heap.size w w' → CnAt w' c (.slice ta c.terms.length tc) (.slice xa c.xs.length xc) (.slice ba c.table.length bc) (.slice ra c.rows.length rc)) := fun w' hb => hC.below hb
  have HX : Hid (∀ w', Below w.heap.size w w' → IntsAt w' (.slice qa l.length qc) l) := fun w' hb => hq.below hb
  have HN : Hid (∀ w', Below W.heap.size W w' → w'.heap[w.heap.size]? = some (.cells #[.slice va m.vars.length vp, .slice ca m.cons.length cp, .bool m.has, .slice ga m.goal.length gp] 26)) := fun w' hb => (hb.block _ (by omega)).trans hN
  have HN1 : Hid (∀ w', Below W.heap.size W w' → w'.heap[w.heap.size + 1]? = some (.cells #[.int .i64 c.kind, .int .i64 c.op, .slice ta c.terms.length tc, .int .i64 c.k, .int .i64 c.v, .int .i64 c.x, .int .i64 c.y, .slice xa c.xs.length xc, .slice ba c.table.length bc, .slice ra c.rows.length rc] 40)) := fun w' hb => (hb.block _ (by omega)).trans hN1
  have HFew : Hid (Calls Try.prog 6 #[.agg #[.slice va m.vars.length vp, .slice ca m.cons.length cp, .bool m.has, .slice ga m.goal.length gp], .slice qa l.length qc] W (Few (costM m + l.length) W)) := few_any m _ _ _ qa l.length qc W hqm (h.below hbW)
  have HFew1 : Hid (∀ w', Below w.heap.size w w' → Calls Try.prog 6 #[.agg #[.slice none 0 0, .slice (some ⟨w'.heap.size, 0, none⟩) 1 1, .bool false, .slice none 0 0], .slice none 0 0] (w'.alloc (.cells #[.int .i64 c.kind, .int .i64 c.op, .slice ta c.terms.length tc, .int .i64 c.k, .int .i64 c.v, .int .i64 c.x, .int .i64 c.y, .slice xa c.xs.length xc, .slice ba c.table.length bc, .slice ra c.rows.length rc] 40)) (Few (costC c + 0) (w'.alloc (.cells #[.int .i64 c.kind, .int .i64 c.op, .slice ta c.terms.length tc, .int .i64 c.k, .int .i64 c.v, .int .i64 c.x, .int .i64 c.y, .slice xa c.xs.length xc, .slice ba c.table.length bc, .slice ra c.rows.length rc] 40)))) := fun w' hb => few1_any w'.heap.size c _ _ _ _ none 0 0 _ (Nat.zero_le _) (hC.below (hb.alloc hb.size _)) (heap_alloc_new w' _)
  obtain ⟨⟨p0, p1, p2, p3⟩, _⟩ := box4 hN
  unfold maxLen at hvm hcm hgm hqm
  unfold moVal cnVal
  clear h hC hq hbW hN hN1 hWs
  go_enter Try.func5, Try.ntmps5
  go_wp2_with fail
  refine calls_at HFew.out (by with_reducible rfl) (by with_reducible rfl) ?_
  rintro e w1 ⟨⟨bf, rfl, hcost⟩, hb1⟩
  have HT1 : Hid (Below W.heap.size W w1) := hb1
  clear hb1 HFew p0 p1 p2 p3
  cases bf
  · go_wp2_with fail
    go_ret
    exact ⟨rfl, HB.out.trans (HT1.out.mono HB.out.size)⟩
  have HSz : Hid ((m.vars.length ≤ 1000000 ∧ m.cons.length ≤ 1000000 ∧ m.goal.length ≤ 1000000) ∧ ∀ c ∈ m.cons, c.terms.length ≤ 1000000 ∧ c.xs.length ≤ 1000000 ∧ c.table.length ≤ 1000000 ∧ c.rows.length ≤ 1000000 ∧ ∀ r ∈ c.rows, r.length ≤ 1000000) := cost_sizes (hcost rfl)
  clear hcost
  have HBw1 : Hid (Below w.heap.size w w1) := HB.out.trans (HT1.out.mono HB.out.size)
  obtain ⟨⟨q0, q1, q2, q3, q4, q5, q6, q7, q8, q9⟩, _⟩ := box10 (HN1.out w1 HT1.out)
  go_wp2_with fail
  refine calls_at (HFew1.out w1 HBw1.out) (by with_reducible rfl) (by with_reducible rfl) ?_
  rintro e w2 ⟨⟨bf, rfl, _⟩, hb2⟩
  have HT2 : Hid (Below W.heap.size W w2) := (HT1.out.alloc HT1.out.size _).trans (hb2.mono (by simp; have := HT1.out.size; omega))
  clear hb2 q0 q1 q2 q3 q4 q5 q6 q7 q8 q9 HFew1
  cases bf
  · go_wp2_with fail
    go_ret
    exact ⟨rfl, HB.out.trans (HT2.out.mono HB.out.size)⟩
  go_wp2_with fail
  refine calls_at (known_any w2) (by with_reducible rfl) (by with_reducible rfl) ?_
  rintro e w3 ⟨rfl, hb3⟩
  have HT3 : Hid (Below W.heap.size W w3) := HT2.out.trans (hb3.mono HT2.out.size)
  clear hb3
  have HBw3 : Hid (Below w.heap.size w w3) := HB.out.trans (HT3.out.mono HB.out.size)
  obtain ⟨⟨p0, p1, p2, p3⟩, _⟩ := box4 (HN.out w3 HT3.out)
  have HCopy : Hid (Calls Try.prog 17 #[.agg #[.slice va m.vars.length vp, .slice ca m.cons.length cp, .bool m.has, .slice ga m.goal.length gp]] w3 (CopyOut w3 m)) := by
    have h1 := copy_any m _ _ _ w3 (HM.out w3 HBw3.out) HSz.out.1 HSz.out.2
    unfold moVal at h1
    exact h1
  go_wp2_with fail
  refine calls_at HCopy.out (by with_reducible rfl) (by with_reducible rfl) ?_
  rintro e w4 ⟨vv', vc', vg', xs, rfl, hb4, hO4, hV4, hcap4, hG4⟩
  obtain ⟨va', vp', rfl, _⟩ := hV4.now.form
  obtain ⟨ca', cp', rfl⟩ := own_form hO4.own
  obtain ⟨ga', gp', rfl, _⟩ := hG4.now.form
  have HT4 : Hid (Below W.heap.size W w4) := HT3.out.trans (hb4.mono HT3.out.size)
  have HO4 : Hid (COwn w3.heap.size (w3.heap.size + 1) w4 (.slice ca' m.cons.length cp') m.cons xs) := hO4
  have HV4 : Hid (Kept (fun b => ob (.slice ca' m.cons.length cp') b ∨ b = w3.heap.size + 1) w4 (fun w2 => VarsAt w2 (.slice va' m.vars.length vp') m.vars)) := hV4
  have HG4 : Hid (Kept (fun b => ob (.slice ca' m.cons.length cp') b ∨ b = w3.heap.size + 1) w4 (fun w2 => TermsAt w2 (.slice ga' m.goal.length gp') m.goal)) := hG4
  have HC4 : Hid (∀ a n cp, Value.slice va' m.vars.length vp' = .slice a n cp → n ≤ cp) := hcap4
  have HB34 : Hid (Below w3.heap.size w3 w4) := hb4
  clear hb4 hO4 hV4 hcap4 hG4 HCopy p0 p1 p2 p3
  obtain ⟨W6, hW6⟩ : ∃ W6, w4.alloc (.cells #[.slice va' m.vars.length vp', .slice ca' m.cons.length cp', .bool m.has, .slice ga' m.goal.length gp'] 26) = W6 := ⟨_, rfl⟩
  have hb6 : Below w4.heap.size w4 W6 := by rw [← hW6]; exact (Below.refl _ _).alloc (Nat.le_refl _) _
  have hP6 : W6.heap[w4.heap.size]? = some (.cells #[.slice va' m.vars.length vp', .slice ca' m.cons.length cp', .bool m.has, .slice ga' m.goal.length gp'] 26) := by rw [← hW6]; exact heap_alloc_new w4 _
  have hs6 : W6.heap.size = w4.heap.size + 1 := by rw [← hW6]; simp
  have HT6 : Hid (Below W.heap.size W W6) := HT4.out.trans (hb6.mono HT4.out.size)
  have HB46 : Hid (Below w4.heap.size w4 W6) := hb6
  have HP6 : Hid (W6.heap[w4.heap.size]? = some (.cells #[.slice va' m.vars.length vp', .slice ca' m.cons.length cp', .bool m.has, .slice ga' m.goal.length gp'] 26)) := hP6
  have HS6 : Hid (W6.heap.size = w4.heap.size + 1) := hs6
  have HO6 : Hid (W6.ownsRow w3.heap.size 40 10 (.slice ca' m.cons.length cp') m.cons.length xs) := (HO4.out.next hb6).own
  obtain ⟨⟨q0, q1, q2, q3, q4, q5, q6, q7, q8, q9⟩, _⟩ := box10 (HN1.out W6 HT6.out)
  obtain ⟨⟨z0, z1, z2, z3⟩, hz⟩ := box4 hP6
  have hcl : m.cons.length ≤ 1000000 := HSz.out.1.2.1
  have HOne : Hid (∀ u ∈ ([.int .i64 c.kind, .int .i64 c.op, .slice ta c.terms.length tc, .int .i64 c.k, .int .i64 c.v, .int .i64 c.x, .int .i64 c.y, .slice xa c.xs.length xc, .slice ba c.table.length bc, .slice ra c.rows.length rc] : List Value), u.oneCell' = true) := by
    intro u hu
    simp only [List.mem_cons, List.not_mem_nil, or_false] at hu
    rcases hu with rfl | rfl | rfl | rfl | rfl | rfl | rfl | rfl | rfl | rfl <;> rfl
  have h36 : w3.heap.size ≤ W6.heap.size := by have := HB34.out.size; omega
  clear hb6 hP6 hs6 hz
  go_wp2_with (at_builtin; refine append_els W6 [.int .i64 c.kind, .int .i64 c.op, .slice ta c.terms.length tc, .int .i64 c.k, .int .i64 c.v, .int .i64 c.x, .int .i64 c.y, .slice xa c.xs.length xc, .slice ba c.table.length bc, .slice ra c.rows.length rc] 10 rfl (by decide) rfl (.tmp 25) (.tmp 27) 23 40 (.agg #[.int .i64 0, .int .i64 0, .slice none 0 0, .int .i64 0, .int .i64 0, .int .i64 0, .int .i64 0, .slice none 0 0, .slice none 0 0, .slice none 0 0]) 144 rfl und23' info40' rfl w3.heap.size _ _ _ (by rfl) HO6.out HOne.out _ rfl (by rfl) (by unfold maxLen; omega) (by omega) h36 ?_; intro v7 w7 ho7 hg7 hn7; obtain ⟨a7, c7, rfl⟩ := own_form ho7; have hP7 : w7.heap[w4.heap.size]? = some (.cells #[.slice va' m.vars.length vp', .slice ca' m.cons.length cp', .bool m.has, .slice ga' m.goal.length gp'] 26) := more_box hg7 HP6.out HO4.out.own.lt; obtain ⟨W8, hW8⟩ : ∃ W8, w7.setCell ⟨w4.heap.size, 1, none⟩ (.slice a7 (m.cons.length + 1) c7) = W8 := ⟨_, rfl⟩; have HQ8 : Hid (MoreAt w w3 w4 W W8 m c (.slice va' m.vars.length vp') (.slice a7 (m.cons.length + 1) c7) (.slice ga' m.goal.length gp')) := more_at hW8 HB.out HB34.out HT3.out HO4.out HV4.out HC4.out HG4.out HB46.out HS6.out hg7 hP7 ho7 hn7 HCc.out (by omega); obtain ⟨⟨z0, z1, z2, z3⟩, hz⟩ := box4 hP7; have hz71 := hz 1; obtain ⟨⟨p0, p1, p2, p3⟩, _⟩ := box4 (HN.out W8 HQ8.out.belowW); clear hz hP7 ho7 hg7 hn7)
  clear hW8 hz71 z0 z1 z2 z3 HV4 HG4 HC4 HO4 HO6 HOne HP6 HB46 HS6 HB34
  have HB8 : Hid (Below w.heap.size w W8) := HB.out.trans (HQ8.out.belowW.mono HB.out.size)
  have HRm : Hid (Calls Try.prog 8 #[.agg #[.slice va m.vars.length vp, .slice ca m.cons.length cp, .bool m.has, .slice ga m.goal.length gp]] W8 fun e w' => e = .returned (.bool (Md.rightB m)) ∧ Below W8.heap.size W8 w') := rightLaw_any m _ _ _ W8 (HM.out W8 HB8.out)
  refine calls_at HRm.out (by with_reducible rfl) (by with_reducible rfl) ?_
  rintro e w9 ⟨rfl, hb9⟩
  have H89 : Hid (Below W8.heap.size W8 w9) := hb9
  have HB9 : Hid (Below w.heap.size w w9) := HB8.out.trans (hb9.mono HB8.out.size)
  clear hb9 p0 p1 p2 p3 HRm
  cases hr : Md.rightB m
  · go_wp2_with fail
    go_ret
    exact ⟨rfl, HB9.out⟩
  have HP9 : Hid (w9.heap[w4.heap.size]? = some (.cells #[.slice va' m.vars.length vp', .slice a7 (m.cons.length + 1) c7, .bool m.has, .slice ga' m.goal.length gp'] 26)) := (H89.out.block _ (Array.getElem?_eq_some_iff.1 HQ8.out.box).1).trans HQ8.out.box
  obtain ⟨⟨z0, z1, z2, z3⟩, _⟩ := box4 HP9.out
  have HRn : Hid (Calls Try.prog 8 #[.agg #[.slice va' m.vars.length vp', .slice a7 (m.cons.length + 1) c7, .bool m.has, .slice ga' m.goal.length gp']] w9 fun e w' => e = .returned (.bool (Md.rightB (Md.more m c))) ∧ Below w9.heap.size w9 w') := rightLaw_any (Md.more m c) _ _ _ w9 (HQ8.out.mo.below H89.out)
  go_wp2_with fail
  refine calls_at HRn.out (by with_reducible rfl) (by with_reducible rfl) ?_
  rintro e w10 ⟨rfl, hb10⟩
  have H810 : Hid (Below W8.heap.size W8 w10) := H89.out.trans (hb10.mono H89.out.size)
  have HB10 : Hid (Below w.heap.size w w10) := HB8.out.trans (H810.out.mono HB8.out.size)
  clear hb10 z0 z1 z2 z3 HRn
  cases hr2 : Md.rightB (Md.more m c)
  · go_wp2_with fail
    go_ret
    exact ⟨rfl, HB10.out⟩
  have HR : Hid (Md.Right m) := Md.rightB_of hr
  have HK1 : Hid ((Md.check m).2 = 0 ∧ (Md.check (Md.more m c)).2 = 0) := ⟨by simpa [Md.rightB] using hr, by simpa [Md.rightB] using hr2⟩
  have HTW : Hid (Below W.heap.size W w10) := HQ8.out.belowW.trans (H810.out.mono HQ8.out.belowW.size)
  have HI : Hid (Calls Try.prog 10 #[.agg #[.slice va m.vars.length vp, .slice ca m.cons.length cp, .bool m.has, .slice ga m.goal.length gp], .slice qa l.length qc] w10 fun e w'' => ∃ a c, e = .returned (.slice a m.vars.length c) ∧ IntsAt w'' (.slice a m.vars.length c) (insI m.vars l) ∧ w''.ownsRow w10.heap.size 3 1 (.slice a m.vars.length c) m.vars.length ((insI m.vars l).map (.int .i64)) ∧ Below w10.heap.size w10 w'') := by
    have h1 := inside_any m _ _ _ _ l w10 (HM.out w10 HB10.out) (HX.out w10 HB10.out) HR.out.nv.2 (fun v hv => (HR.out.var v hv).2)
    unfold moVal at h1
    refine h1.mono ?_
    rintro e w2 ⟨v, rfl, h2, h3⟩
    rw [insL_eq] at h2
    rcases h2.2 with ⟨rfl, hn⟩ | ⟨g, cap, cur, rfl, _⟩
    · exact absurd hn (by have := HR.out.nv.1; omega)
    · exact ⟨_, _, rfl, own_ints (by rw [insI_len]; exact h2) (by rw [insI_len]; unfold maxLen; omega), h2, h3⟩
  have HVn : Hid ((insI m.vars l).all Md.numB = true) := insI_num (fun v hv => (HR.out.var v hv).2)
  have HVl0 : Hid ((insI m.vars l).length = m.vars.length) := insI_len _ _
  obtain ⟨⟨p0, p1, p2, p3⟩, _⟩ := box4 (HN.out w10 HTW.out)
  go_wp2_with fail
  refine calls_at HI.out (by with_reducible rfl) (by with_reducible rfl) ?_
  rintro e w11 ⟨a11, c11, rfl, hI11, hO11, hb11⟩
  generalize insI m.vars l = vl at *
  have HVl : Hid (vl.length = m.vars.length) := HVl0.out
  have HSays : Hid (Md.solution (Md.more m c) vl = (Md.solution m vl && Md.holds c vl)) := Md.more_says HK1.out.1 HK1.out.2 HVl0.out HVn.out
  have hH11 : Hid (SX w.heap.size w4.heap.size #[.slice va m.vars.length vp, .slice ca m.cons.length cp, .bool m.has, .slice ga m.goal.length gp] #[.int .i64 c.kind, .int .i64 c.op, .slice ta c.terms.length tc, .int .i64 c.k, .int .i64 c.v, .int .i64 c.x, .int .i64 c.y, .slice xa c.xs.length xc, .slice ba c.table.length bc, .slice ra c.rows.length rc] #[.slice va' m.vars.length vp', .slice a7 (m.cons.length + 1) c7, .bool m.has, .slice ga' m.goal.length gp'] w10 w11 ∧ (IntsAt w11 (.slice a11 m.vars.length c11) vl ∧ w11.ownsRow w10.heap.size 3 1 (.slice a11 m.vars.length c11) m.vars.length (vl.map (.int .i64)))) := ⟨SX.next ⟨HN.out w10 HTW.out, HN1.out w10 HTW.out, (H810.out.block _ (Array.getElem?_eq_some_iff.1 HQ8.out.box).1).trans HQ8.out.box, Below.refl _ _⟩ hb11, hI11, hO11⟩
  have HLt : Hid (w.heap.size + 1 < w10.heap.size ∧ w4.heap.size < w10.heap.size) := ⟨by have := HTW.out.size; have := HWs.out; omega, by have := (Array.getElem?_eq_some_iff.1 HQ8.out.box).1; have := H810.out.size; omega⟩
  have HMn : Hid (∀ w', Below w10.heap.size w10 w' → MoAt w' (Md.more m c) (.slice va' m.vars.length vp') (.slice a7 (m.cons.length + 1) c7) (.slice ga' m.goal.length gp')) := fun w' hb => HQ8.out.mo.below (H810.out.trans (hb.mono H810.out.size))
  have HBb : Hid (∀ {w'}, Below w10.heap.size w10 w' → Below w.heap.size w w') := fun hb => HB10.out.trans (hb.mono HB10.out.size)
  have hvl : m.vars.length ≤ 1000000 := HSz.out.1.1
  have HSl : Hid (∀ w' v', Below w10.heap.size w10 w' → IntsAt w' v' (vl ++ [0]) → Calls Try.prog 18 #[.agg #[.slice va m.vars.length vp, .slice ca m.cons.length cp, .bool m.has, .slice ga m.goal.length gp], v'] w' fun e w'' => e = .returned (.bool false) ∧ Below w'.heap.size w' w'') := fun w' v' hb hi => by
    have h1 := solution_any m _ _ _ v' _ w' (HM.out w' (HBb.out hb)) hi
    rw [Md.long_none HVl.out] at h1
    exact h1
  have HHo0 : Hid (∀ w', Below w10.heap.size w10 w' → IntsAt w' (.slice a11 m.vars.length c11) vl → Calls Try.prog 13 #[.agg #[.int .i64 c.kind, .int .i64 c.op, .slice ta c.terms.length tc, .int .i64 c.k, .int .i64 c.v, .int .i64 c.x, .int .i64 c.y, .slice xa c.xs.length xc, .slice ba c.table.length bc, .slice ra c.rows.length rc], .slice a11 m.vars.length c11] w' fun e w'' => e = .returned (.bool (Md.holds c vl)) ∧ Below w'.heap.size w' w'') := fun w' hb hi => by
    have h1 := Holds_any c _ _ _ _ _ vl w' (HCc.out w' (HBb.out hb)) hi
    unfold cnVal at h1
    exact h1
  have HSn0 : Hid (∀ w', Below w10.heap.size w10 w' → IntsAt w' (.slice a11 m.vars.length c11) vl → Calls Try.prog 18 #[.agg #[.slice va' m.vars.length vp', .slice a7 (m.cons.length + 1) c7, .bool m.has, .slice ga' m.goal.length gp'], .slice a11 m.vars.length c11] w' fun e w'' => e = .returned (.bool (Md.solution (Md.more m c) vl)) ∧ Below w'.heap.size w' w'') := fun w' hb hi => solution_any (Md.more m c) _ _ _ _ vl w' (HMn.out w' hb) hi
  have HSm0 : Hid (∀ w', Below w10.heap.size w10 w' → IntsAt w' (.slice a11 m.vars.length c11) vl → Calls Try.prog 18 #[.agg #[.slice va m.vars.length vp, .slice ca m.cons.length cp, .bool m.has, .slice ga m.goal.length gp], .slice a11 m.vars.length c11] w' fun e w'' => e = .returned (.bool (Md.solution m vl)) ∧ Below w'.heap.size w' w'') := fun w' hb hi => solution_any m _ _ _ _ vl w' (HM.out w' (HBb.out hb)) hi
  rw [HSays.out] at HSn0
  clear hI11 hO11 hb11 p0 p1 p2 p3 HI HSays HR HK1 hr hr2
  cases hbm : Md.solution m vl
  · rw [hbm] at HSn0 HSm0
    have HSn : Hid (∀ w', Below w10.heap.size w10 w' → IntsAt w' (.slice a11 m.vars.length c11) vl → Calls Try.prog 18 #[.agg #[.slice va' m.vars.length vp', .slice a7 (m.cons.length + 1) c7, .bool m.has, .slice ga' m.goal.length gp'], .slice a11 m.vars.length c11] w' fun e w'' => e = .returned (.bool false) ∧ Below w'.heap.size w' w'') := HSn0.out
    have HSm : Hid (∀ w', Below w10.heap.size w10 w' → IntsAt w' (.slice a11 m.vars.length c11) vl → Calls Try.prog 18 #[.agg #[.slice va m.vars.length vp, .slice ca m.cons.length cp, .bool m.has, .slice ga m.goal.length gp], .slice a11 m.vars.length c11] w' fun e w'' => e = .returned (.bool false) ∧ Below w'.heap.size w' w'') := HSm0.out
    clear HSn0 HSm0 HHo0 hbm
    go_wp2_with fail
    refine wp_region_T (SX w.heap.size w4.heap.size #[.slice va m.vars.length vp, .slice ca m.cons.length cp, .bool m.has, .slice ga m.goal.length gp] #[.int .i64 c.kind, .int .i64 c.op, .slice ta c.terms.length tc, .int .i64 c.k, .int .i64 c.v, .int .i64 c.x, .int .i64 c.y, .slice xa c.xs.length xc, .slice ba c.table.length bc, .slice ra c.rows.length rc] #[.slice va' m.vars.length vp', .slice a7 (m.cons.length + 1) c7, .bool m.has, .slice ga' m.goal.length gp'] w10) (fun w' => IntsAt w' (.slice a11 m.vars.length c11) vl ∧ w'.ownsRow w10.heap.size 3 1 (.slice a11 m.vars.length c11) m.vars.length (vl.map (.int .i64))) [15, 16, 17, 18, 19, 20] (by kernel_rfl) ⟨hH11.out.1.next (Below.refl _ _).drew, Cx.next hH11.out.2 (Below.refl _ _).drew⟩ (fun hHeld => ?_)
    refine wpAnyT_takeB (i := 0) (oi := ⟨some 41, .load 26 (.tmp 7), _, _, _, _⟩) (v := ?vR10x0b) rfl (by kernel_rfl) (by kernel_rfl) (by kernel_rfl) (by kernel_rfl) (fun _ _ _ h => h) (Or.inl ⟨by rfl, ?hyR10x0b⟩) (by assumption) ?restR10x0b
    case hyR10x0b => (intro w hSw; obtain ⟨⟨p0, p1, p2, p3⟩, _⟩ := box4 hSw.m; obtain ⟨⟨q0, q1, q2, q3, q4, q5, q6, q7, q8, q9⟩, _⟩ := box10 hSw.c; obtain ⟨⟨z0, z1, z2, z3⟩, _⟩ := box4 hSw.n; go_simp; try (with_reducible rfl))
    try simp only [Act.put, List.setIfInBounds_toArray, List.set_cons_zero, List.set_cons_succ]
    refine wpAnyT_takeB (i := 1) (oi := ⟨some 42, .move (.tmp 8), _, _, _, _⟩) (v := ?vR10x1b) rfl (by kernel_rfl) (by kernel_rfl) (by kernel_rfl) (by kernel_rfl) (fun _ _ _ h => h) (Or.inl ⟨by rfl, ?hyR10x1b⟩) (by assumption) ?restR10x1b
    case hyR10x1b => (intro w hSw; obtain ⟨⟨p0, p1, p2, p3⟩, _⟩ := box4 hSw.m; obtain ⟨⟨q0, q1, q2, q3, q4, q5, q6, q7, q8, q9⟩, _⟩ := box10 hSw.c; obtain ⟨⟨z0, z1, z2, z3⟩, _⟩ := box4 hSw.n; go_simp; try (with_reducible rfl))
    try simp only [Act.put, List.setIfInBounds_toArray, List.set_cons_zero, List.set_cons_succ]
    refine wpAnyT_takeB (i := 3) (oi := ⟨some 44, .load 26 (.tmp 3), _, _, _, _⟩) (v := ?vR10x3b) rfl (by kernel_rfl) (by kernel_rfl) (by kernel_rfl) (by kernel_rfl) (fun _ _ _ h => h) (Or.inl ⟨by rfl, ?hyR10x3b⟩) (by assumption) ?restR10x3b
    case hyR10x3b => (intro w hSw; obtain ⟨⟨p0, p1, p2, p3⟩, _⟩ := box4 hSw.m; obtain ⟨⟨q0, q1, q2, q3, q4, q5, q6, q7, q8, q9⟩, _⟩ := box10 hSw.c; obtain ⟨⟨z0, z1, z2, z3⟩, _⟩ := box4 hSw.n; go_simp; try (with_reducible rfl))
    try simp only [Act.put, List.setIfInBounds_toArray, List.set_cons_zero, List.set_cons_succ]
    refine wpAnyT_takeB (i := 4) (oi := ⟨some 45, .move (.tmp 8), _, _, _, _⟩) (v := ?vR10x4b) rfl (by kernel_rfl) (by kernel_rfl) (by kernel_rfl) (by kernel_rfl) (fun _ _ _ h => h) (Or.inl ⟨by rfl, ?hyR10x4b⟩) (by assumption) ?restR10x4b
    case hyR10x4b => (intro w hSw; obtain ⟨⟨p0, p1, p2, p3⟩, _⟩ := box4 hSw.m; obtain ⟨⟨q0, q1, q2, q3, q4, q5, q6, q7, q8, q9⟩, _⟩ := box10 hSw.c; obtain ⟨⟨z0, z1, z2, z3⟩, _⟩ := box4 hSw.n; go_simp; try (with_reducible rfl))
    try simp only [Act.put, List.setIfInBounds_toArray, List.set_cons_zero, List.set_cons_succ]
    refine wpAnyT_one (i := 2) (o := ⟨some 43, .call { callee := .value (.func 18), args := #[.tmp 41, .tmp 42], argTypes := #[26, 27] }, _, _, _, _⟩) (by kernel_rfl) rfl (fun K hK => ?_)
    go_simp
    refine calls_at (HSn.out _ hHeld.1.b hHeld.2.1) (by with_reducible rfl) (by with_reducible rfl) ?_
    rintro e w12 ⟨rfl, hbw12⟩
    go_wp2_with fail
    have hH12 : SX w.heap.size w4.heap.size #[.slice va m.vars.length vp, .slice ca m.cons.length cp, .bool m.has, .slice ga m.goal.length gp] #[.int .i64 c.kind, .int .i64 c.op, .slice ta c.terms.length tc, .int .i64 c.k, .int .i64 c.v, .int .i64 c.x, .int .i64 c.y, .slice xa c.xs.length xc, .slice ba c.table.length bc, .slice ra c.rows.length rc] #[.slice va' m.vars.length vp', .slice a7 (m.cons.length + 1) c7, .bool m.has, .slice ga' m.goal.length gp'] w10 w12 ∧ (IntsAt w12 (.slice a11 m.vars.length c11) vl ∧ w12.ownsRow w10.heap.size 3 1 (.slice a11 m.vars.length c11) m.vars.length (vl.map (.int .i64))) := ⟨hHeld.1.next hbw12, Cx.next hHeld.2 hbw12⟩
    clear hbw12
    refine hK.out _ _ ⟨hH12.1, fun _ => hH12.2⟩ ?_
    clear hK K
    try simp only [Act.put, List.setIfInBounds_toArray, List.set_cons_zero, List.set_cons_succ]
    refine wpAnyT_one (i := 5) (o := ⟨some 46, .call { callee := .value (.func 18), args := #[.tmp 44, .tmp 45], argTypes := #[26, 27] }, _, _, _, _⟩) (by kernel_rfl) rfl (fun K hK => ?_)
    go_simp
    refine calls_at (HSm.out _ hH12.1.b hH12.2.1) (by with_reducible rfl) (by with_reducible rfl) ?_
    rintro e w13 ⟨rfl, hbw13⟩
    go_wp2_with fail
    have hH13 : SX w.heap.size w4.heap.size #[.slice va m.vars.length vp, .slice ca m.cons.length cp, .bool m.has, .slice ga m.goal.length gp] #[.int .i64 c.kind, .int .i64 c.op, .slice ta c.terms.length tc, .int .i64 c.k, .int .i64 c.v, .int .i64 c.x, .int .i64 c.y, .slice xa c.xs.length xc, .slice ba c.table.length bc, .slice ra c.rows.length rc] #[.slice va' m.vars.length vp', .slice a7 (m.cons.length + 1) c7, .bool m.has, .slice ga' m.goal.length gp'] w10 w13 ∧ (IntsAt w13 (.slice a11 m.vars.length c11) vl ∧ w13.ownsRow w10.heap.size 3 1 (.slice a11 m.vars.length c11) m.vars.length (vl.map (.int .i64))) := ⟨hH12.1.next hbw13, Cx.next hH12.2 hbw13⟩
    clear hbw13
    refine hK.out _ _ ⟨hH13.1, fun _ => hH13.2⟩ ?_
    clear hK K
    try simp only [Act.put, List.setIfInBounds_toArray, List.set_cons_zero, List.set_cons_succ]
    refine wpAnyT_takeB (i := 6) (oi := ⟨some 47, .move (.tmp 46), _, _, _, _⟩) (v := ?vR10x6b) rfl (by kernel_rfl) (by kernel_rfl) (by kernel_rfl) (by kernel_rfl) (fun _ _ _ h => h) (Or.inl ⟨by rfl, ?hyR10x6b⟩) (by assumption) ?restR10x6b
    case hyR10x6b => (intro w hSw; obtain ⟨⟨p0, p1, p2, p3⟩, _⟩ := box4 hSw.m; obtain ⟨⟨q0, q1, q2, q3, q4, q5, q6, q7, q8, q9⟩, _⟩ := box10 hSw.c; obtain ⟨⟨z0, z1, z2, z3⟩, _⟩ := box4 hSw.n; go_simp; try (with_reducible rfl))
    try simp only [Act.put, List.setIfInBounds_toArray, List.set_cons_zero, List.set_cons_succ]
    refine wpAnyT_takeB (i := 7) (oi := ⟨some 48, .load 40 (.tmp 4), _, _, _, _⟩) (v := undef) rfl (by kernel_rfl) (by kernel_rfl) (by kernel_rfl) (by kernel_rfl) (fun _ _ _ h => h) (Or.inr ⟨by rfl, rfl⟩) (by assumption) ?restR10x7b
    try simp only [Act.put, List.setIfInBounds_toArray, List.set_cons_zero, List.set_cons_succ]
    refine wpAnyT_takeB (i := 8) (oi := ⟨some 49, .move (.tmp 8), _, _, _, _⟩) (v := undef) rfl (by kernel_rfl) (by kernel_rfl) (by kernel_rfl) (by kernel_rfl) (fun _ _ _ h => h) (Or.inr ⟨by rfl, rfl⟩) (by assumption) ?restR10x8b
    try simp only [Act.put, List.setIfInBounds_toArray, List.set_cons_zero, List.set_cons_succ]
    refine wpAnyT_one (i := 9) (o := ⟨some 50, .call { callee := .value (.func 13), args := #[.tmp 48, .tmp 49], argTypes := #[40, 27] }, _, _, _, _⟩) (by kernel_rfl) rfl (fun K hK => ?_)
    go_simp
    have hH14 := hH13
    refine hK.out _ _ ⟨hH14.1, fun _ => hH14.2⟩ ?_
    clear hK K
    try simp only [Act.put, List.setIfInBounds_toArray, List.set_cons_zero, List.set_cons_succ]
    refine wpAnyT_takeB (i := 10) (oi := ⟨some 51, .pick (.tmp 47) (.tmp 50) ((.const (.bool false))), _, _, _, _⟩) (v := ?vR10x10b) rfl (by kernel_rfl) (by kernel_rfl) (by kernel_rfl) (by kernel_rfl) (fun _ _ _ h => h) (Or.inl ⟨by rfl, ?hyR10x10b⟩) (by assumption) ?restR10x10b
    case hyR10x10b => (intro w hSw; obtain ⟨⟨p0, p1, p2, p3⟩, _⟩ := box4 hSw.m; obtain ⟨⟨q0, q1, q2, q3, q4, q5, q6, q7, q8, q9⟩, _⟩ := box10 hSw.c; obtain ⟨⟨z0, z1, z2, z3⟩, _⟩ := box4 hSw.n; go_simp; try (with_reducible rfl))
    try simp only [Act.put, List.setIfInBounds_toArray, List.set_cons_zero, List.set_cons_succ]
    refine wpAnyT_takeB (i := 11) (oi := ⟨some 52, .binOp .eql 4 (.tmp 43) (.tmp 51) 4, _, _, _, _⟩) (v := ?vR10x11b) rfl (by kernel_rfl) (by kernel_rfl) (by kernel_rfl) (by kernel_rfl) (fun _ _ _ h => h) (Or.inl ⟨by rfl, ?hyR10x11b⟩) (by assumption) ?restR10x11b
    case hyR10x11b => (intro w hSw; obtain ⟨⟨p0, p1, p2, p3⟩, _⟩ := box4 hSw.m; obtain ⟨⟨q0, q1, q2, q3, q4, q5, q6, q7, q8, q9⟩, _⟩ := box10 hSw.c; obtain ⟨⟨z0, z1, z2, z3⟩, _⟩ := box4 hSw.n; go_simp; try (with_reducible rfl))
    try simp only [Act.put, List.setIfInBounds_toArray, List.set_cons_zero, List.set_cons_succ]
    refine wpAnyT_takeB (i := 12) (oi := ⟨some 53, .move (.tmp 52), _, _, _, _⟩) (v := ?vR10x12b) rfl (by kernel_rfl) (by kernel_rfl) (by kernel_rfl) (by kernel_rfl) (fun _ _ _ h => h) (Or.inl ⟨by rfl, ?hyR10x12b⟩) (by assumption) ?restR10x12b
    case hyR10x12b => (intro w hSw; obtain ⟨⟨p0, p1, p2, p3⟩, _⟩ := box4 hSw.m; obtain ⟨⟨q0, q1, q2, q3, q4, q5, q6, q7, q8, q9⟩, _⟩ := box10 hSw.c; obtain ⟨⟨z0, z1, z2, z3⟩, _⟩ := box4 hSw.n; go_simp; try (with_reducible rfl))
    try simp only [Act.put, List.setIfInBounds_toArray, List.set_cons_zero, List.set_cons_succ]
    refine wpAnyT_takeB (i := 13) (oi := ⟨some 54, .load 26 (.tmp 3), _, _, _, _⟩) (v := ?vR10x13b) rfl (by kernel_rfl) (by kernel_rfl) (by kernel_rfl) (by kernel_rfl) (fun _ _ _ h => h) (Or.inl ⟨by rfl, ?hyR10x13b⟩) (by assumption) ?restR10x13b
    case hyR10x13b => (intro w hSw; obtain ⟨⟨p0, p1, p2, p3⟩, _⟩ := box4 hSw.m; obtain ⟨⟨q0, q1, q2, q3, q4, q5, q6, q7, q8, q9⟩, _⟩ := box10 hSw.c; obtain ⟨⟨z0, z1, z2, z3⟩, _⟩ := box4 hSw.n; go_simp; try (with_reducible rfl))
    try simp only [Act.put, List.setIfInBounds_toArray, List.set_cons_zero, List.set_cons_succ]
    refine wpAnyT_takeB (i := 14) (oi := ⟨some 55, .move (.tmp 8), _, _, _, _⟩) (v := ?vR10x14b) rfl (by kernel_rfl) (by kernel_rfl) (by kernel_rfl) (by kernel_rfl) (fun _ _ _ h => h) (Or.inl ⟨by rfl, ?hyR10x14b⟩) (by assumption) ?restR10x14b
    case hyR10x14b => (intro w hSw; obtain ⟨⟨p0, p1, p2, p3⟩, _⟩ := box4 hSw.m; obtain ⟨⟨q0, q1, q2, q3, q4, q5, q6, q7, q8, q9⟩, _⟩ := box10 hSw.c; obtain ⟨⟨z0, z1, z2, z3⟩, _⟩ := box4 hSw.n; go_simp; try (with_reducible rfl))
    try simp only [Act.put, List.setIfInBounds_toArray, List.set_cons_zero, List.set_cons_succ]
    refine wpAnyT_late (i := 15) (o := ⟨some 56, .buildSlice 27 1 #[(0, (.const (.int .i64 0)))], _, _, _, _⟩) (by kernel_rfl) rfl (by kernel_rfl) (fun K hK => ?_)
    go_simp
    refine hK.out _ _ ?shR10x15b ?restR10x15b
    case shR10x15b => exact hH14.1.next ((Below.refl _ _).alloc (Nat.le_refl _) _)
    have hS15 := hH14.1.next ((Below.refl _ _).alloc (Nat.le_refl _) (.cells #[.int .i64 0] 3))
    clear hK K
    try simp only [Act.put, List.setIfInBounds_toArray, List.set_cons_zero, List.set_cons_succ]
    refine wpAnyT_late (i := 16) (o := ⟨some 57, .call { callee := .builtin .append, args := #[.tmp 55, .tmp 56], argTypes := #[27, 27] }, _, _, _, _⟩) (by kernel_rfl) rfl (by kernel_rfl) (fun K hK => ?_)
    refine op_append_one w13 (.int .i64 0) (.tmp 55) (.tmp 56) 27 3 (.int .i64 0) 8 rfl und27' info3' rfl w10.heap.size _ _ _ (by rfl) hH14.2.2 rfl _ rfl (by rfl) (by unfold maxLen; omega) (by omega) hH14.1.b.size (by rfl) ?_
    intro v16 w16 ho16 hg16
    obtain ⟨a16, c16, rfl⟩ := own_form ho16
    have hS16 : SX w.heap.size w4.heap.size #[.slice va m.vars.length vp, .slice ca m.cons.length cp, .bool m.has, .slice ga m.goal.length gp] #[.int .i64 c.kind, .int .i64 c.op, .slice ta c.terms.length tc, .int .i64 c.k, .int .i64 c.v, .int .i64 c.x, .int .i64 c.y, .slice xa c.xs.length xc, .slice ba c.table.length bc, .slice ra c.rows.length rc] #[.slice va' m.vars.length vp', .slice a7 (m.cons.length + 1) c7, .bool m.has, .slice ga' m.goal.length gp'] w10 w16 := hS15.grown hg16 (fun k hk => (hH14.2.2.lt k hk).1) HLt.out
    have HI16 : Hid (IntsAt w16 (.slice a16 (m.vars.length + 1) c16) (vl ++ [0])) := ints_more ho16 HVl.out (by omega)
    clear ho16 hg16
    refine hK.out _ _ hS16 ?_
    clear hK K
    try simp only [Act.put, List.setIfInBounds_toArray, List.set_cons_zero, List.set_cons_succ]
    refine wpAnyT_late (i := 17) (o := ⟨some 58, .call { callee := .value (.func 18), args := #[.tmp 54, .tmp 57], argTypes := #[26, 27] }, _, _, _, _⟩) (by kernel_rfl) rfl (by kernel_rfl) (fun K hK => ?_)
    go_simp
    refine calls_at (HSl.out _ _ hS16.b HI16.out) (by with_reducible rfl) (by with_reducible rfl) ?_
    rintro e w17 ⟨rfl, hb17⟩
    go_wp2_with fail
    have hS17 : SX w.heap.size w4.heap.size #[.slice va m.vars.length vp, .slice ca m.cons.length cp, .bool m.has, .slice ga m.goal.length gp] #[.int .i64 c.kind, .int .i64 c.op, .slice ta c.terms.length tc, .int .i64 c.k, .int .i64 c.v, .int .i64 c.x, .int .i64 c.y, .slice xa c.xs.length xc, .slice ba c.table.length bc, .slice ra c.rows.length rc] #[.slice va' m.vars.length vp', .slice a7 (m.cons.length + 1) c7, .bool m.has, .slice ga' m.goal.length gp'] w10 w17 := hS16.next hb17
    clear hb17
    refine hK.out _ _ hS17 ?_
    clear hK K
    try simp only [Act.put, List.setIfInBounds_toArray, List.set_cons_zero, List.set_cons_succ]
    refine wpAnyT_late (i := 18) (o := ⟨some 59, .unOp .not 4 (.tmp 58), _, _, _, _⟩) (by kernel_rfl) rfl (by kernel_rfl) (fun K hK => ?_)
    go_simp
    refine hK.out _ _ ?shR10x18b ?restR10x18b
    case shR10x18b => exact hS17
    clear hK K
    try simp only [Act.put, List.setIfInBounds_toArray, List.set_cons_zero, List.set_cons_succ]
    refine wpAnyT_late (i := 19) (o := ⟨some 60, .pick (.tmp 53) (.tmp 59) ((.const (.bool false))), _, _, _, _⟩) (by kernel_rfl) rfl (by kernel_rfl) (fun K hK => ?_)
    go_simp
    refine hK.out _ _ ?shR10x19b ?restR10x19b
    case shR10x19b => exact hS17
    clear hK K
    try simp only [Act.put, List.setIfInBounds_toArray, List.set_cons_zero, List.set_cons_succ]
    refine wpAnyT_late (i := 20) (o := ⟨some 6, .assign (.tmp 60), _, _, _, _⟩) (by kernel_rfl) rfl (by kernel_rfl) (fun K hK => ?_)
    go_simp
    refine hK.out _ _ ?shR10x20b ?restR10x20b
    case shR10x20b => exact hS17
    clear hK K
    try simp only [Act.put, List.setIfInBounds_toArray, List.set_cons_zero, List.set_cons_succ]
    refine wpAnyT_done (by kernel_rfl) ?_ _

    go_wp2_with fail
    go_ret
    exact ⟨rfl, HBb.out hS17.b⟩
  · rw [hbm] at HSn0 HSm0
    obtain ⟨bh, hbh⟩ : ∃ b, Md.holds c vl = b := ⟨_, rfl⟩
    rw [hbh] at HSn0 HHo0
    have HSn : Hid (∀ w', Below w10.heap.size w10 w' → IntsAt w' (.slice a11 m.vars.length c11) vl → Calls Try.prog 18 #[.agg #[.slice va' m.vars.length vp', .slice a7 (m.cons.length + 1) c7, .bool m.has, .slice ga' m.goal.length gp'], .slice a11 m.vars.length c11] w' fun e w'' => e = .returned (.bool bh) ∧ Below w'.heap.size w' w'') := HSn0.out
    have HSm : Hid (∀ w', Below w10.heap.size w10 w' → IntsAt w' (.slice a11 m.vars.length c11) vl → Calls Try.prog 18 #[.agg #[.slice va m.vars.length vp, .slice ca m.cons.length cp, .bool m.has, .slice ga m.goal.length gp], .slice a11 m.vars.length c11] w' fun e w'' => e = .returned (.bool true) ∧ Below w'.heap.size w' w'') := HSm0.out
    have HHo : Hid (∀ w', Below w10.heap.size w10 w' → IntsAt w' (.slice a11 m.vars.length c11) vl → Calls Try.prog 13 #[.agg #[.int .i64 c.kind, .int .i64 c.op, .slice ta c.terms.length tc, .int .i64 c.k, .int .i64 c.v, .int .i64 c.x, .int .i64 c.y, .slice xa c.xs.length xc, .slice ba c.table.length bc, .slice ra c.rows.length rc], .slice a11 m.vars.length c11] w' fun e w'' => e = .returned (.bool bh) ∧ Below w'.heap.size w' w'') := HHo0.out
    clear HSn0 HSm0 HHo0 hbm hbh
    go_wp2_with fail
    refine wp_region_T (SX w.heap.size w4.heap.size #[.slice va m.vars.length vp, .slice ca m.cons.length cp, .bool m.has, .slice ga m.goal.length gp] #[.int .i64 c.kind, .int .i64 c.op, .slice ta c.terms.length tc, .int .i64 c.k, .int .i64 c.v, .int .i64 c.x, .int .i64 c.y, .slice xa c.xs.length xc, .slice ba c.table.length bc, .slice ra c.rows.length rc] #[.slice va' m.vars.length vp', .slice a7 (m.cons.length + 1) c7, .bool m.has, .slice ga' m.goal.length gp'] w10) (fun w' => IntsAt w' (.slice a11 m.vars.length c11) vl ∧ w'.ownsRow w10.heap.size 3 1 (.slice a11 m.vars.length c11) m.vars.length (vl.map (.int .i64))) [15, 16, 17, 18, 19, 20] (by kernel_rfl) ⟨hH11.out.1.next (Below.refl _ _).drew, Cx.next hH11.out.2 (Below.refl _ _).drew⟩ (fun hHeld => ?_)
    refine wpAnyT_takeB (i := 0) (oi := ⟨some 41, .load 26 (.tmp 7), _, _, _, _⟩) (v := ?vR10x0a) rfl (by kernel_rfl) (by kernel_rfl) (by kernel_rfl) (by kernel_rfl) (fun _ _ _ h => h) (Or.inl ⟨by rfl, ?hyR10x0a⟩) (by assumption) ?restR10x0a
    case hyR10x0a => (intro w hSw; obtain ⟨⟨p0, p1, p2, p3⟩, _⟩ := box4 hSw.m; obtain ⟨⟨q0, q1, q2, q3, q4, q5, q6, q7, q8, q9⟩, _⟩ := box10 hSw.c; obtain ⟨⟨z0, z1, z2, z3⟩, _⟩ := box4 hSw.n; go_simp; try (with_reducible rfl))
    try simp only [Act.put, List.setIfInBounds_toArray, List.set_cons_zero, List.set_cons_succ]
    refine wpAnyT_takeB (i := 1) (oi := ⟨some 42, .move (.tmp 8), _, _, _, _⟩) (v := ?vR10x1a) rfl (by kernel_rfl) (by kernel_rfl) (by kernel_rfl) (by kernel_rfl) (fun _ _ _ h => h) (Or.inl ⟨by rfl, ?hyR10x1a⟩) (by assumption) ?restR10x1a
    case hyR10x1a => (intro w hSw; obtain ⟨⟨p0, p1, p2, p3⟩, _⟩ := box4 hSw.m; obtain ⟨⟨q0, q1, q2, q3, q4, q5, q6, q7, q8, q9⟩, _⟩ := box10 hSw.c; obtain ⟨⟨z0, z1, z2, z3⟩, _⟩ := box4 hSw.n; go_simp; try (with_reducible rfl))
    try simp only [Act.put, List.setIfInBounds_toArray, List.set_cons_zero, List.set_cons_succ]
    refine wpAnyT_takeB (i := 3) (oi := ⟨some 44, .load 26 (.tmp 3), _, _, _, _⟩) (v := ?vR10x3a) rfl (by kernel_rfl) (by kernel_rfl) (by kernel_rfl) (by kernel_rfl) (fun _ _ _ h => h) (Or.inl ⟨by rfl, ?hyR10x3a⟩) (by assumption) ?restR10x3a
    case hyR10x3a => (intro w hSw; obtain ⟨⟨p0, p1, p2, p3⟩, _⟩ := box4 hSw.m; obtain ⟨⟨q0, q1, q2, q3, q4, q5, q6, q7, q8, q9⟩, _⟩ := box10 hSw.c; obtain ⟨⟨z0, z1, z2, z3⟩, _⟩ := box4 hSw.n; go_simp; try (with_reducible rfl))
    try simp only [Act.put, List.setIfInBounds_toArray, List.set_cons_zero, List.set_cons_succ]
    refine wpAnyT_takeB (i := 4) (oi := ⟨some 45, .move (.tmp 8), _, _, _, _⟩) (v := ?vR10x4a) rfl (by kernel_rfl) (by kernel_rfl) (by kernel_rfl) (by kernel_rfl) (fun _ _ _ h => h) (Or.inl ⟨by rfl, ?hyR10x4a⟩) (by assumption) ?restR10x4a
    case hyR10x4a => (intro w hSw; obtain ⟨⟨p0, p1, p2, p3⟩, _⟩ := box4 hSw.m; obtain ⟨⟨q0, q1, q2, q3, q4, q5, q6, q7, q8, q9⟩, _⟩ := box10 hSw.c; obtain ⟨⟨z0, z1, z2, z3⟩, _⟩ := box4 hSw.n; go_simp; try (with_reducible rfl))
    try simp only [Act.put, List.setIfInBounds_toArray, List.set_cons_zero, List.set_cons_succ]
    refine wpAnyT_one (i := 2) (o := ⟨some 43, .call { callee := .value (.func 18), args := #[.tmp 41, .tmp 42], argTypes := #[26, 27] }, _, _, _, _⟩) (by kernel_rfl) rfl (fun K hK => ?_)
    go_simp
    refine calls_at (HSn.out _ hHeld.1.b hHeld.2.1) (by with_reducible rfl) (by with_reducible rfl) ?_
    rintro e w12 ⟨rfl, hbw12⟩
    go_wp2_with fail
    have hH12 : SX w.heap.size w4.heap.size #[.slice va m.vars.length vp, .slice ca m.cons.length cp, .bool m.has, .slice ga m.goal.length gp] #[.int .i64 c.kind, .int .i64 c.op, .slice ta c.terms.length tc, .int .i64 c.k, .int .i64 c.v, .int .i64 c.x, .int .i64 c.y, .slice xa c.xs.length xc, .slice ba c.table.length bc, .slice ra c.rows.length rc] #[.slice va' m.vars.length vp', .slice a7 (m.cons.length + 1) c7, .bool m.has, .slice ga' m.goal.length gp'] w10 w12 ∧ (IntsAt w12 (.slice a11 m.vars.length c11) vl ∧ w12.ownsRow w10.heap.size 3 1 (.slice a11 m.vars.length c11) m.vars.length (vl.map (.int .i64))) := ⟨hHeld.1.next hbw12, Cx.next hHeld.2 hbw12⟩
    clear hbw12
    refine hK.out _ _ ⟨hH12.1, fun _ => hH12.2⟩ ?_
    clear hK K
    try simp only [Act.put, List.setIfInBounds_toArray, List.set_cons_zero, List.set_cons_succ]
    refine wpAnyT_one (i := 5) (o := ⟨some 46, .call { callee := .value (.func 18), args := #[.tmp 44, .tmp 45], argTypes := #[26, 27] }, _, _, _, _⟩) (by kernel_rfl) rfl (fun K hK => ?_)
    go_simp
    refine calls_at (HSm.out _ hH12.1.b hH12.2.1) (by with_reducible rfl) (by with_reducible rfl) ?_
    rintro e w13 ⟨rfl, hbw13⟩
    go_wp2_with fail
    have hH13 : SX w.heap.size w4.heap.size #[.slice va m.vars.length vp, .slice ca m.cons.length cp, .bool m.has, .slice ga m.goal.length gp] #[.int .i64 c.kind, .int .i64 c.op, .slice ta c.terms.length tc, .int .i64 c.k, .int .i64 c.v, .int .i64 c.x, .int .i64 c.y, .slice xa c.xs.length xc, .slice ba c.table.length bc, .slice ra c.rows.length rc] #[.slice va' m.vars.length vp', .slice a7 (m.cons.length + 1) c7, .bool m.has, .slice ga' m.goal.length gp'] w10 w13 ∧ (IntsAt w13 (.slice a11 m.vars.length c11) vl ∧ w13.ownsRow w10.heap.size 3 1 (.slice a11 m.vars.length c11) m.vars.length (vl.map (.int .i64))) := ⟨hH12.1.next hbw13, Cx.next hH12.2 hbw13⟩
    clear hbw13
    refine hK.out _ _ ⟨hH13.1, fun _ => hH13.2⟩ ?_
    clear hK K
    try simp only [Act.put, List.setIfInBounds_toArray, List.set_cons_zero, List.set_cons_succ]
    refine wpAnyT_takeB (i := 6) (oi := ⟨some 47, .move (.tmp 46), _, _, _, _⟩) (v := ?vR10x6a) rfl (by kernel_rfl) (by kernel_rfl) (by kernel_rfl) (by kernel_rfl) (fun _ _ _ h => h) (Or.inl ⟨by rfl, ?hyR10x6a⟩) (by assumption) ?restR10x6a
    case hyR10x6a => (intro w hSw; obtain ⟨⟨p0, p1, p2, p3⟩, _⟩ := box4 hSw.m; obtain ⟨⟨q0, q1, q2, q3, q4, q5, q6, q7, q8, q9⟩, _⟩ := box10 hSw.c; obtain ⟨⟨z0, z1, z2, z3⟩, _⟩ := box4 hSw.n; go_simp; try (with_reducible rfl))
    try simp only [Act.put, List.setIfInBounds_toArray, List.set_cons_zero, List.set_cons_succ]
    refine wpAnyT_takeB (i := 7) (oi := ⟨some 48, .load 40 (.tmp 4), _, _, _, _⟩) (v := ?vR10x7a) rfl (by kernel_rfl) (by kernel_rfl) (by kernel_rfl) (by kernel_rfl) (fun _ _ _ h => h) (Or.inl ⟨by rfl, ?hyR10x7a⟩) (by assumption) ?restR10x7a
    case hyR10x7a => (intro w hSw; obtain ⟨⟨p0, p1, p2, p3⟩, _⟩ := box4 hSw.m; obtain ⟨⟨q0, q1, q2, q3, q4, q5, q6, q7, q8, q9⟩, _⟩ := box10 hSw.c; obtain ⟨⟨z0, z1, z2, z3⟩, _⟩ := box4 hSw.n; go_simp; try (with_reducible rfl))
    try simp only [Act.put, List.setIfInBounds_toArray, List.set_cons_zero, List.set_cons_succ]
    refine wpAnyT_takeB (i := 8) (oi := ⟨some 49, .move (.tmp 8), _, _, _, _⟩) (v := ?vR10x8a) rfl (by kernel_rfl) (by kernel_rfl) (by kernel_rfl) (by kernel_rfl) (fun _ _ _ h => h) (Or.inl ⟨by rfl, ?hyR10x8a⟩) (by assumption) ?restR10x8a
    case hyR10x8a => (intro w hSw; obtain ⟨⟨p0, p1, p2, p3⟩, _⟩ := box4 hSw.m; obtain ⟨⟨q0, q1, q2, q3, q4, q5, q6, q7, q8, q9⟩, _⟩ := box10 hSw.c; obtain ⟨⟨z0, z1, z2, z3⟩, _⟩ := box4 hSw.n; go_simp; try (with_reducible rfl))
    try simp only [Act.put, List.setIfInBounds_toArray, List.set_cons_zero, List.set_cons_succ]
    refine wpAnyT_one (i := 9) (o := ⟨some 50, .call { callee := .value (.func 13), args := #[.tmp 48, .tmp 49], argTypes := #[40, 27] }, _, _, _, _⟩) (by kernel_rfl) rfl (fun K hK => ?_)
    go_simp
    refine calls_at (HHo.out _ hH13.1.b hH13.2.1) (by with_reducible rfl) (by with_reducible rfl) ?_
    rintro e w14 ⟨rfl, hbw14⟩
    go_wp2_with fail
    have hH14 : SX w.heap.size w4.heap.size #[.slice va m.vars.length vp, .slice ca m.cons.length cp, .bool m.has, .slice ga m.goal.length gp] #[.int .i64 c.kind, .int .i64 c.op, .slice ta c.terms.length tc, .int .i64 c.k, .int .i64 c.v, .int .i64 c.x, .int .i64 c.y, .slice xa c.xs.length xc, .slice ba c.table.length bc, .slice ra c.rows.length rc] #[.slice va' m.vars.length vp', .slice a7 (m.cons.length + 1) c7, .bool m.has, .slice ga' m.goal.length gp'] w10 w14 ∧ (IntsAt w14 (.slice a11 m.vars.length c11) vl ∧ w14.ownsRow w10.heap.size 3 1 (.slice a11 m.vars.length c11) m.vars.length (vl.map (.int .i64))) := ⟨hH13.1.next hbw14, Cx.next hH13.2 hbw14⟩
    clear hbw14
    refine hK.out _ _ ⟨hH14.1, fun _ => hH14.2⟩ ?_
    clear hK K
    try simp only [Act.put, List.setIfInBounds_toArray, List.set_cons_zero, List.set_cons_succ]
    refine wpAnyT_takeB (i := 10) (oi := ⟨some 51, .pick (.tmp 47) (.tmp 50) ((.const (.bool false))), _, _, _, _⟩) (v := ?vR10x10a) rfl (by kernel_rfl) (by kernel_rfl) (by kernel_rfl) (by kernel_rfl) (fun _ _ _ h => h) (Or.inl ⟨by rfl, ?hyR10x10a⟩) (by assumption) ?restR10x10a
    case hyR10x10a => (intro w hSw; obtain ⟨⟨p0, p1, p2, p3⟩, _⟩ := box4 hSw.m; obtain ⟨⟨q0, q1, q2, q3, q4, q5, q6, q7, q8, q9⟩, _⟩ := box10 hSw.c; obtain ⟨⟨z0, z1, z2, z3⟩, _⟩ := box4 hSw.n; go_simp; try (with_reducible rfl))
    try simp only [Act.put, List.setIfInBounds_toArray, List.set_cons_zero, List.set_cons_succ]
    refine wpAnyT_takeB (i := 11) (oi := ⟨some 52, .binOp .eql 4 (.tmp 43) (.tmp 51) 4, _, _, _, _⟩) (v := ?vR10x11a) rfl (by kernel_rfl) (by kernel_rfl) (by kernel_rfl) (by kernel_rfl) (fun _ _ _ h => h) (Or.inl ⟨by rfl, ?hyR10x11a⟩) (by assumption) ?restR10x11a
    case hyR10x11a => (intro w hSw; obtain ⟨⟨p0, p1, p2, p3⟩, _⟩ := box4 hSw.m; obtain ⟨⟨q0, q1, q2, q3, q4, q5, q6, q7, q8, q9⟩, _⟩ := box10 hSw.c; obtain ⟨⟨z0, z1, z2, z3⟩, _⟩ := box4 hSw.n; go_simp; try (with_reducible rfl))
    try simp only [Act.put, List.setIfInBounds_toArray, List.set_cons_zero, List.set_cons_succ]
    refine wpAnyT_takeB (i := 12) (oi := ⟨some 53, .move (.tmp 52), _, _, _, _⟩) (v := ?vR10x12a) rfl (by kernel_rfl) (by kernel_rfl) (by kernel_rfl) (by kernel_rfl) (fun _ _ _ h => h) (Or.inl ⟨by rfl, ?hyR10x12a⟩) (by assumption) ?restR10x12a
    case hyR10x12a => (intro w hSw; obtain ⟨⟨p0, p1, p2, p3⟩, _⟩ := box4 hSw.m; obtain ⟨⟨q0, q1, q2, q3, q4, q5, q6, q7, q8, q9⟩, _⟩ := box10 hSw.c; obtain ⟨⟨z0, z1, z2, z3⟩, _⟩ := box4 hSw.n; go_simp; try (with_reducible rfl))
    try simp only [Act.put, List.setIfInBounds_toArray, List.set_cons_zero, List.set_cons_succ]
    refine wpAnyT_takeB (i := 13) (oi := ⟨some 54, .load 26 (.tmp 3), _, _, _, _⟩) (v := ?vR10x13a) rfl (by kernel_rfl) (by kernel_rfl) (by kernel_rfl) (by kernel_rfl) (fun _ _ _ h => h) (Or.inl ⟨by rfl, ?hyR10x13a⟩) (by assumption) ?restR10x13a
    case hyR10x13a => (intro w hSw; obtain ⟨⟨p0, p1, p2, p3⟩, _⟩ := box4 hSw.m; obtain ⟨⟨q0, q1, q2, q3, q4, q5, q6, q7, q8, q9⟩, _⟩ := box10 hSw.c; obtain ⟨⟨z0, z1, z2, z3⟩, _⟩ := box4 hSw.n; go_simp; try (with_reducible rfl))
    try simp only [Act.put, List.setIfInBounds_toArray, List.set_cons_zero, List.set_cons_succ]
    refine wpAnyT_takeB (i := 14) (oi := ⟨some 55, .move (.tmp 8), _, _, _, _⟩) (v := ?vR10x14a) rfl (by kernel_rfl) (by kernel_rfl) (by kernel_rfl) (by kernel_rfl) (fun _ _ _ h => h) (Or.inl ⟨by rfl, ?hyR10x14a⟩) (by assumption) ?restR10x14a
    case hyR10x14a => (intro w hSw; obtain ⟨⟨p0, p1, p2, p3⟩, _⟩ := box4 hSw.m; obtain ⟨⟨q0, q1, q2, q3, q4, q5, q6, q7, q8, q9⟩, _⟩ := box10 hSw.c; obtain ⟨⟨z0, z1, z2, z3⟩, _⟩ := box4 hSw.n; go_simp; try (with_reducible rfl))
    try simp only [Act.put, List.setIfInBounds_toArray, List.set_cons_zero, List.set_cons_succ]
    refine wpAnyT_late (i := 15) (o := ⟨some 56, .buildSlice 27 1 #[(0, (.const (.int .i64 0)))], _, _, _, _⟩) (by kernel_rfl) rfl (by kernel_rfl) (fun K hK => ?_)
    go_simp
    refine hK.out _ _ ?shR10x15a ?restR10x15a
    case shR10x15a => exact hH14.1.next ((Below.refl _ _).alloc (Nat.le_refl _) _)
    have hS15 := hH14.1.next ((Below.refl _ _).alloc (Nat.le_refl _) (.cells #[.int .i64 0] 3))
    clear hK K
    try simp only [Act.put, List.setIfInBounds_toArray, List.set_cons_zero, List.set_cons_succ]
    refine wpAnyT_late (i := 16) (o := ⟨some 57, .call { callee := .builtin .append, args := #[.tmp 55, .tmp 56], argTypes := #[27, 27] }, _, _, _, _⟩) (by kernel_rfl) rfl (by kernel_rfl) (fun K hK => ?_)
    refine op_append_one w14 (.int .i64 0) (.tmp 55) (.tmp 56) 27 3 (.int .i64 0) 8 rfl und27' info3' rfl w10.heap.size _ _ _ (by rfl) hH14.2.2 rfl _ rfl (by rfl) (by unfold maxLen; omega) (by omega) hH14.1.b.size (by rfl) ?_
    intro v16 w16 ho16 hg16
    obtain ⟨a16, c16, rfl⟩ := own_form ho16
    have hS16 : SX w.heap.size w4.heap.size #[.slice va m.vars.length vp, .slice ca m.cons.length cp, .bool m.has, .slice ga m.goal.length gp] #[.int .i64 c.kind, .int .i64 c.op, .slice ta c.terms.length tc, .int .i64 c.k, .int .i64 c.v, .int .i64 c.x, .int .i64 c.y, .slice xa c.xs.length xc, .slice ba c.table.length bc, .slice ra c.rows.length rc] #[.slice va' m.vars.length vp', .slice a7 (m.cons.length + 1) c7, .bool m.has, .slice ga' m.goal.length gp'] w10 w16 := hS15.grown hg16 (fun k hk => (hH14.2.2.lt k hk).1) HLt.out
    have HI16 : Hid (IntsAt w16 (.slice a16 (m.vars.length + 1) c16) (vl ++ [0])) := ints_more ho16 HVl.out (by omega)
    clear ho16 hg16
    refine hK.out _ _ hS16 ?_
    clear hK K
    try simp only [Act.put, List.setIfInBounds_toArray, List.set_cons_zero, List.set_cons_succ]
    refine wpAnyT_late (i := 17) (o := ⟨some 58, .call { callee := .value (.func 18), args := #[.tmp 54, .tmp 57], argTypes := #[26, 27] }, _, _, _, _⟩) (by kernel_rfl) rfl (by kernel_rfl) (fun K hK => ?_)
    go_simp
    refine calls_at (HSl.out _ _ hS16.b HI16.out) (by with_reducible rfl) (by with_reducible rfl) ?_
    rintro e w17 ⟨rfl, hb17⟩
    go_wp2_with fail
    have hS17 : SX w.heap.size w4.heap.size #[.slice va m.vars.length vp, .slice ca m.cons.length cp, .bool m.has, .slice ga m.goal.length gp] #[.int .i64 c.kind, .int .i64 c.op, .slice ta c.terms.length tc, .int .i64 c.k, .int .i64 c.v, .int .i64 c.x, .int .i64 c.y, .slice xa c.xs.length xc, .slice ba c.table.length bc, .slice ra c.rows.length rc] #[.slice va' m.vars.length vp', .slice a7 (m.cons.length + 1) c7, .bool m.has, .slice ga' m.goal.length gp'] w10 w17 := hS16.next hb17
    clear hb17
    refine hK.out _ _ hS17 ?_
    clear hK K
    try simp only [Act.put, List.setIfInBounds_toArray, List.set_cons_zero, List.set_cons_succ]
    refine wpAnyT_late (i := 18) (o := ⟨some 59, .unOp .not 4 (.tmp 58), _, _, _, _⟩) (by kernel_rfl) rfl (by kernel_rfl) (fun K hK => ?_)
    go_simp
    refine hK.out _ _ ?shR10x18a ?restR10x18a
    case shR10x18a => exact hS17
    clear hK K
    try simp only [Act.put, List.setIfInBounds_toArray, List.set_cons_zero, List.set_cons_succ]
    refine wpAnyT_late (i := 19) (o := ⟨some 60, .pick (.tmp 53) (.tmp 59) ((.const (.bool false))), _, _, _, _⟩) (by kernel_rfl) rfl (by kernel_rfl) (fun K hK => ?_)
    go_simp
    refine hK.out _ _ ?shR10x19a ?restR10x19a
    case shR10x19a => exact hS17
    clear hK K
    try simp only [Act.put, List.setIfInBounds_toArray, List.set_cons_zero, List.set_cons_succ]
    refine wpAnyT_late (i := 20) (o := ⟨some 6, .assign (.tmp 60), _, _, _, _⟩) (by kernel_rfl) rfl (by kernel_rfl) (fun K hK => ?_)
    go_simp
    refine hK.out _ _ ?shR10x20a ?restR10x20a
    case shR10x20a => exact hS17
    clear hK K
    try simp only [Act.put, List.setIfInBounds_toArray, List.set_cons_zero, List.set_cons_succ]
    refine wpAnyT_done (by kernel_rfl) ?_ _

    go_wp2_with fail
    go_ret
    exact ⟨rfl, HBb.out hS17.b⟩
end Go.Proofs.Ytmhfabnpfkkbcaa
