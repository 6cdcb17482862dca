/-
  Put together: PfLns, PfSts.
-/
import Derived.Test.YtibbnijicdijnaaGreatDoorJ43
namespace Go.Proofs.YtibbnijicdijnaaGreatDoor
open Go.RowKit Go.Shelf Go.Lib
attribute [local go_sem] Oper.semAt_some

theorem own_off {S : Nat → Prop} {w w' : World} {B : Nat} {e : TypeId} {size : Nat} {v : Value} {n : Nat} {xs : List Value} (h : w.ownsRow B e size v n xs) (hS : ∀ g, v.ownBlock = some g → ¬ S g) (ho : Ofw S w w') : w'.ownsRow B e size v n xs := by
  refine ⟨h.1, ?_⟩
  rcases h.2 with h1 | ⟨g, cap, cur, hv, hg, hc, h2⟩
  · exact .inl h1
  · refine .inr ⟨g, cap, cur, hv, hg, ?_, h2⟩
    rw [ho.block g (Array.getElem?_eq_some_iff.1 hc).1 (hS g (by rw [hv]; rfl))]
    exact hc
theorem own_set {w : World} {P B e size : Nat} {v : Value} {n : Nat} {xs : List Value} (h : w.ownsRow B e size v n xs) (hP : P < B) (i : Nat) (u : Value) : (w.setCell ⟨P, i, none⟩ u).ownsRow B e size v n xs := own_off (S := fun k => k = P) h (fun g hg e => by have := (h.lt g hg).1; have e' : g = P := e; omega) (Ofw.set _ rfl)
theorem own_next {w w' : World} {B e size : Nat} {v : Value} {n : Nat} {xs : List Value} (h : w.ownsRow B e size v n xs) (hb : Below w.heap.size w w') : w'.ownsRow B e size v n xs := own_off (S := fun _ => False) h (fun _ _ f => f) (Ofw.of_below hb)
theorem src_one {w : World} {b : Nat} {u : Value} {t : TypeId} (h : w.heap[b]? = some (.cells #[u] t (0, 0))) (hu : u.oneCell' = true) : SrcAt w (.slice (some ⟨b, 0, none⟩) 1 1) 1 1 [u] :=
  ⟨_, _, rfl, rfl, (fun v hv => by rw [List.mem_singleton.1 hv]; exact hu), (fun e => by cases e), fun ad e j v hj => by
    injection e with e
    subst e
    exact World.news_of_block h j v hj⟩
theorem und43t : Tryz.prog.underlying 43 = some (.slice 9) := by kernel_rfl
theorem info9t : (Tryz.prog.info? 9).map (fun i => (i.zero, i.size, i.bytes)) = some (some (.string ⟨#[]⟩), 1, 16) := by kernel_rfl
def LnOut (s : ByteArray) (w : World) (e : Ending) (w' : World) : Prop := ∃ v, e = .returned v ∧ w'.ownsRow w.heap.size 9 1 v (lns s.data.toList []).length ((lns s.data.toList []).map fun l => .string (txtOf l)) ∧ Below w.heap.size w w'

/-- What a round leaves. -/
theorem body_end {w W V w5 : World} {n : Nat} {v u : Value} {xs ys : List Value} (hbl : Below w.heap.size w W.drew) (hM : w.heap.size + 8 ≤ W.heap.size) (hb : Below W.drew.heap.size W.drew V) (hg : V.grownBy w5 v.ownBlock) (hrow5 : w5.ownsRow (w.heap.size + 8) 9 1 u (n + 1) ys) (hrow : W.drew.ownsRow (w.heap.size + 8) 9 1 v n xs) (hx5 : w5.heap[w.heap.size]? = some (.cells #[v] 43)) :
    (∃ v, (w5.setCell ⟨w.heap.size, 0, none⟩ u).heap[w.heap.size]? = some (Obj.cells #[v] 43) ∧ (w5.setCell ⟨w.heap.size, 0, none⟩ u).ownsRow (w.heap.size + 8) 9 1 v (n + 1) ys ∧ Below w.heap.size w (w5.setCell ⟨w.heap.size, 0, none⟩ u)) ∧ W.heap.size ≤ w5.heap.size ∧
      ∀ (k : Nat), w.heap.size + 4 ≤ k ∧ k < w.heap.size + 8 ∨ k = w.heap.size + 2 ∨ k = w.heap.size + 2 + 1 → (w5.setCell ⟨w.heap.size, 0, none⟩ u).heap[k]? = W.heap[k]? := by
  have hlow : ∀ k, k < w.heap.size + 8 → w5.heap[k]? = W.heap[k]? := fun k hk => by
    have h1 : k < W.drew.heap.size := Nat.lt_of_lt_of_le hk hM
    refine (hg.block k (Nat.lt_of_lt_of_le h1 hb.size) (fun e => ?_)).trans (hb.block k h1)
    have := (hrow.lt k e.symm).1
    omega
  have hset : ∀ k, k ≠ w.heap.size → (w5.setCell ⟨w.heap.size, 0, none⟩ u).heap[k]? = w5.heap[k]? := fun k hne => Below.heap_setCell _ ⟨w.heap.size, 0, none⟩ _ k hne
  have hsz : W.heap.size ≤ w5.heap.size := Nat.le_trans hb.size hg.size
  refine ⟨⟨u, by simp [World.setCell, Array.getElem?_modify, hx5], own_set hrow5 (by omega) 0 u, hg.os.trans (hb.os.trans hbl.os), hg.tape.trans (hb.tape.trans hbl.tape), hg.output.trans (hb.output.trans hbl.output), ?_, fun k hk => ?_⟩, hsz, fun k hk => ?_⟩
  · show w.heap.size ≤ (w5.setCell ⟨w.heap.size, 0, none⟩ u).heap.size
    simp [World.setCell]
    omega
  · rw [hset k (by omega), hlow k (by omega)]
    exact hbl.block k hk
  · rw [hset k (by omega), hlow k (by omega)]
/-- A box below the row stays. -/
theorem box_kept {A V w5 : World} {B N n : Nat} {v u : Value} {xs : List Value} (hb : Below A.heap.size A V) (hg : V.grownBy w5 v.ownBlock) (hr : A.ownsRow B 9 1 v n xs) (hN : N < B) (hx : A.heap[N]? = some (.cells #[u] 43)) : w5.heap[N]? = some (.cells #[u] 43) := by
  have h1 := (Array.getElem?_eq_some_iff.1 hx).1
  refine (hg.block N (Nat.lt_of_lt_of_le h1 hb.size) (fun e => ?_)).trans ((hb.block N h1).trans hx)
  have := (hr.lt N e.symm).1
  omega

/-- An append in a drawn region within a fence. -/
theorem opIn_append_src {F : Fence} {nn : Nat} {P : Program} {ops : Array Oper} {o : Oper} {a : Act} {Q : Exit → Act → World → Prop} {K : Act → World → Prop} (w : World) (s x : Operand) (t e : TypeId) (z : Value) (size bytes : Nat)
    (ho : o.op = .call { callee := .builtin .append, args := #[s, x], argTypes := #[t, t] }) (ht : P.underlying t = some (.slice e)) (hinfo : (P.info? e).map (fun i => (i.zero, i.size, i.bytes)) = some (some z, size, bytes)) (hzs : z.cells.size = size) (hsz : 0 < size)
    (base : Nat) (v xv : Value) (n m : Nat) (xs news : List Value) (hs : a.eval s = v) (hx : a.eval x = xv) (hown : w.ownsRow base e size v n xs) (hsrc : SrcAt w xv m size news) (h63 : n + m ≤ maxLen) (hbytes : (n + m) * bytes ≤ 140737488355328) (hbase : base ≤ w.heap.size) (hm : 0 < m) (hw : Region.wanted o (yielded ops a.tmps) = true)
    (h : ∀ v' w', w'.ownsRow base e size v' (n + m) (xs ++ news) → w.grownBy w' v.ownBlock → K (a.put o.dst v') w') : if Region.wanted o (yielded ops a.tmps) = true then Oper.wpIn F nn P o a w K Q else (∀ f, o.about P w a.eval = some f → F.fn f) ∧ K (a.put o.dst undef) w := by
  rw [if_pos hw]
  obtain ⟨i0, hi, hz0, hz1, hz2⟩ := info_of hinfo
  obtain ⟨ad, c, rfl, hl, h1, hnil, hcells⟩ := hsrc
  cases ad with
  | none => exact absurd (hnil rfl) (by omega)
  | some ad =>
    obtain ⟨v', w', hr, h2, h3, h4⟩ := run_append_sR (P := P) w base t o.type e i0 z size bytes ht hi hz0 hz1 hz2 hzs hsz v n xs hown ad m c news hl (hcells ad rfl) h1 h63 hbytes hbase
    refine ⟨by simp [Oper.about, ho, resolve, Target.leads, Sem.run_pure], ?_⟩
    rw [Oper.semAt_plain F _ _ (by rw [ho]; intro c hc; cases hc)]
    unfold execOp
    simp only [ho, resolve, invoke, builtin, Sem.run_bind, Sem.run_pure, Result.andThen_ok, List.map_toArray, List.map_cons, List.map_nil, hs, hx, hr]
    exact h v' w' h2 h3

set_option maxRecDepth 100000 in
set_option maxHeartbeats 2000000 in
theorem progLines_any (s : ByteArray) (w : World) (hs : s.size ≤ 9000000) : Calls Tryz.prog 16 #[.string s] w (LnOut s w) := by
  refine (callsIn_wide (n := 5)).1 ?_
  obtain ⟨W1, hW1⟩ : ∃ W1, w.alloc (.cells #[.slice none 0 0] 43) = W1 := ⟨_, rfl⟩
  have hb1 : Below w.heap.size w W1 := hW1 ▸ (Below.refl _ _).alloc (Nat.le_refl _) _
  have hs1 : W1.heap.size = w.heap.size + 1 := by rw [← hW1]; simp
  have hX := linesOf_in 4 s W1
  refine callsIn_of_wp_marks Tryz.func16 rfl trivial ?_ rfl
  simp only [Tryz.ntmps16, List.size_toArray, List.length_cons, List.length_nil, Nat.reduceAdd, Nat.reduceSub, Array.replicate_succ, Array.replicate_zero, List.push_toArray, List.append_toArray, List.nil_append, List.cons_append]
  gi_wp2_with (refine ⟨trivial, ?_⟩; gi_at_call 42; refine hX.mono ?_; rintro e w' ⟨rfl, rfl⟩)
  obtain ⟨W2, hW2⟩ : ∃ W2, W1.alloc (.cells #[.string s] 9) = W2 := ⟨_, rfl⟩
  rw [hW2]
  have hb2 : Below W1.heap.size W1 W2 := hW2 ▸ (Below.refl _ _).alloc (Nat.le_refl _) _
  have hs2 : W2.heap.size = w.heap.size + 2 := by rw [← hW2]; simp [hs1]
  have hT2 : TBox W2 (w.heap.size + 1) s.data.toList := by
    rw [← hs1, ← hW2]
    exact World.alloc_heap_new W1 _
  have hy2 : W2.heap[w.heap.size]? = some (.cells #[.slice none 0 0] 43) := (hb2.block _ (by omega)).trans (hW1 ▸ World.alloc_heap_new w _)
  have hbw : Below w.heap.size w W2 := hb1.trans (hb2.mono hb1.size)
  clear hX hW1 hW2 hb1 hb2
  refine range_stop (α := List UInt8) rfl (by omega) (gf := 66) (lb := #[.pointer (some ⟨w.heap.size + 1, 0, none⟩)]) rfl trivial (enters_of Tryz.func66 (by kernel_rfl) rfl) (encs := lineEnc) (T := fun k => w.heap.size + 4 ≤ k ∧ k < w.heap.size + 8) (M := w.heap.size + 8) (xs := lns s.data.toList []) (fun k hk => by omega)
    (fun W hb hsz => by
      have := linesOf1_in 4 (by omega) (w.heap.size + 1) s.data.toList (by have h := hs; rw [Lib.size_eq] at h; exact h) W ((hb.block _ (by omega)).trans hT2)
      rw [hsz, hs2] at this
      exact this) (fun _ => rfl)
    (fun pre W => ∃ v, W.heap[w.heap.size]? = some (.cells #[v] 43) ∧ W.ownsRow (w.heap.size + 8) 9 1 v pre.length (pre.map fun l => .string (txtOf l)) ∧ Below w.heap.size w W)
    (fun _ _ => False)
    (fun pre A B hh ho => by
      obtain ⟨v, h1, h2, h3⟩ := hh
      refine ⟨v, (ho.block _ (Array.getElem?_eq_some_iff.1 h1).1 (by omega)).trans h1, own_off h2 (fun g hg => ?_) ho, ho.os.trans h3.os, ho.tape.trans h3.tape, ho.output.trans h3.output, Nat.le_trans h3.size ho.size, fun k hk => (ho.block k (Nat.lt_of_lt_of_le hk h3.size) (by omega)).trans (h3.block k hk)⟩
      have := (h2.lt g hg).1
      omega)
    (fun _ _ _ h _ => h)
    ⟨.slice none 0 0, hy2, own_z _ _ _ _, hbw⟩
    (fun x => { tmps := #[.string s, undef, .slice none 0 0, .pointer (some ⟨w.heap.size, 0, none⟩), .string (txtOf x), .string s, .func (.func 66) #[] #[.pointer (some ⟨w.heap.size + 1, 0, none⟩)], .string (txtOf x), undef, undef, undef, undef, undef, undef], defers := [] }) ?assign ?body ?done ?stop
  case assign =>
    intro l' x W K hK
    simp only [lineEnc]
    gi_wp2
    exact hK
  case body =>
    rintro l' pre x post W hx ⟨v, hbx, hrow, hbl⟩ hM hsz
    have hql : (lns s.data.toList []).length ≤ 9000001 := by
      have := lns_count s.data.toList []
      have h := hs
      rw [Lib.size_eq] at h
      omega
    have hpl : pre.length ≤ 9000001 := by
      rw [hx] at hql
      simp at hql
      omega
    have hxl : (txtOf x).size ≤ 9000000 := by
      have h := lns_len s.data.toList [] x (by rw [hx]; simp)
      have h' := hs
      rw [Lib.size_eq] at h'
      rw [txt_size]
      simp at h h'
      omega
    obtain ⟨va, vc, hv⟩ := own_form hrow
    subst hv
    have HC : Hid (Calls Tryz.prog 43 #[.string (txtOf x)] W.drew fun e w' => e = .returned (.string (txtOf x)) ∧ Below W.drew.heap.size W.drew w') := clone_any (txtOf x) W.drew (by omega)
    have hm : Tryz.prog.follows .mixedOrders = true := by kernel_rfl
    have hlt : w.heap.size < W.drew.heap.size := (Array.getElem?_eq_some_iff.1 hbx).1
    have hc : W.drew.cell? ⟨w.heap.size, 0, none⟩ = some (.slice va pre.length vc) := by show W.cell? _ = _; simp [World.cell?, hbx]
    have hbx' : W.drew.heap[w.heap.size]? = some (.cells #[.slice va pre.length vc] 43) := hbx
    have hrow' : W.drew.ownsRow (w.heap.size + 8) 9 1 (.slice va pre.length vc) pre.length (pre.map fun l => .string (txtOf l)) := hrow
    have hbl' : Below w.heap.size w W.drew := hbl.trans ((Below.refl _ W).drew)
    gi_wp2
    refine wpIn_region_any hm ?_
    change wpAnyIn _ _ _ _ _ _ _ _ _ (World.drew _)
    refine wpAnyIn_ready (rs := [0, 1]) (by kernel_rfl) (by simp) ?_
    refine AllReadyIn.cons rfl (fun K hK => ?_) (AllReadyIn.cons rfl (fun K hK => ?_) AllReadyIn.nil)
    · go_simp
      refine hK _ _ ?_
      clear hK K
      refine wpAnyIn_ready (rs := [1]) (by kernel_rfl) (by simp) ?_
      refine AllReadyIn.cons rfl (fun K hK => ?_) AllReadyIn.nil
      go_simp
      refine hK _ _ ?_
      clear hK K
      refine wpAnyIn_ready (rs := [2]) (by kernel_rfl) (by simp) ?_
      refine AllReadyIn.cons rfl (fun K hK => ?_) AllReadyIn.nil
      go_simp
      gi_wp2_with (refine ⟨trivial, ?_⟩; gi_at_call 43; refine (calls_any HC.out).mono ?_; rintro e W3 ⟨rfl, hb3⟩; have HW3 : Hid (Below W.drew.heap.size W.drew W3) := hb3; clear hb3)
      have hc3 : W3.cell? ⟨w.heap.size, 0, none⟩ = some (.slice va pre.length vc) := (HW3.out.cell (p := ⟨w.heap.size, 0, none⟩) hlt).trans hc
      try (refine hK _ _ ?_; clear hK K)
      refine wpAnyIn_ready (rs := [3]) (by kernel_rfl) (by simp) ?_
      refine AllReadyIn.cons rfl (fun K hK => ?_) AllReadyIn.nil
      obtain ⟨V1, hV1⟩ : ∃ V, W3.alloc (.cells #[.string (txtOf x)] 9) = V := ⟨_, rfl⟩
      have hc4 : V1.cell? ⟨w.heap.size, 0, none⟩ = some (.slice va pre.length vc) := by
        rw [← hV1]
        exact (((Below.refl _ W3).alloc (Nat.le_refl _) _).cell (p := ⟨w.heap.size, 0, none⟩) (Nat.lt_of_lt_of_le hlt HW3.out.size)).trans hc3
      go_simp
      try rw [hV1]
      refine hK _ _ ?_
      clear hK K
      refine wpAnyIn_ready (rs := [4]) (by kernel_rfl) (by simp) ?_
      refine AllReadyIn.cons rfl (fun K hK => ?_) AllReadyIn.nil
      have hbV : Below W3.heap.size W3 V1 := hV1 ▸ (Below.refl _ _).alloc (Nat.le_refl _) _
      have hsV : V1.heap.size = W3.heap.size + 1 := by rw [← hV1]; simp
      refine opIn_append_src V1 (.tmp 8) (.tmp 11) 43 9 (.string ⟨#[]⟩) 1 16 rfl und43t info9t rfl (by decide) (w.heap.size + 8) (.slice va pre.length vc) (.slice (some ⟨W3.heap.size, 0, none⟩) 1 1) pre.length 1 (pre.map fun l => .string (txtOf l)) [.string (txtOf x)] (by rfl) (by rfl) (own_next (own_next hrow' HW3.out) hbV) (src_one (t := 9) (hV1 ▸ World.alloc_heap_new W3 _) rfl) (by unfold maxLen; omega) (by omega) (by have := HW3.out.size; have h : w.heap.size + 8 ≤ W.drew.heap.size := hM; omega) (by omega) (by rfl) ?_
      intro v5 w5 g1 g2
      obtain ⟨x5, y5, hv5⟩ := own_form g1
      subst hv5
      have HE : Hid ((w5.ownsRow (w.heap.size + 8) 9 1 (.slice x5 (pre.length + 1) y5) (pre.length + 1) ((pre.map fun l => .string (txtOf l)) ++ [.string (txtOf x)])) ∧ V1.grownBy w5 (Value.slice va pre.length vc).ownBlock ∧ Below W.drew.heap.size W.drew V1) := ⟨g1, g2, HW3.out.trans (hbV.mono HW3.out.size)⟩
      have hx5 := box_kept HE.out.2.2 HE.out.2.1 hrow' (by omega) hbx'
      have hc5 : w5.cell? ⟨w.heap.size, 0, none⟩ = some (.slice va pre.length vc) := by simp [World.cell?, hx5]
      have hf5 : w5.frozen? ⟨w.heap.size, 0, none⟩ = false := by simp [World.frozen?, hx5]
      clear g1 g2
      refine hK _ _ ?_
      clear hK K
      refine wpAnyIn_ready (rs := [5]) (by kernel_rfl) (by simp) ?_
      refine AllReadyIn.cons rfl (fun K hK => ?_) AllReadyIn.nil
      go_simp
      refine hK _ _ ?_
      clear hK K
      refine wpAnyIn_done (by kernel_rfl) ?_ _
      gi_wp2
      exact body_end hbl' hM HE.out.2.2 HE.out.2.1 HE.out.1 hrow' hx5
    · go_simp
      refine hK _ _ ?_
      clear hK K
      refine wpAnyIn_ready (rs := [0, 2]) (by kernel_rfl) (by simp) ?_
      refine AllReadyIn.cons rfl (fun K hK => ?_) (AllReadyIn.cons rfl (fun K hK => ?_) AllReadyIn.nil)
      · go_simp
        refine hK _ _ ?_
        clear hK K
        refine wpAnyIn_ready (rs := [2]) (by kernel_rfl) (by simp) ?_
        refine AllReadyIn.cons rfl (fun K hK => ?_) AllReadyIn.nil
        go_simp
        gi_wp2_with (refine ⟨trivial, ?_⟩; gi_at_call 43; refine (calls_any HC.out).mono ?_; rintro e W3 ⟨rfl, hb3⟩; have HW3 : Hid (Below W.drew.heap.size W.drew W3) := hb3; clear hb3)
        have hc3 : W3.cell? ⟨w.heap.size, 0, none⟩ = some (.slice va pre.length vc) := (HW3.out.cell (p := ⟨w.heap.size, 0, none⟩) hlt).trans hc
        try (refine hK _ _ ?_; clear hK K)
        refine wpAnyIn_ready (rs := [3]) (by kernel_rfl) (by simp) ?_
        refine AllReadyIn.cons rfl (fun K hK => ?_) AllReadyIn.nil
        obtain ⟨V1, hV1⟩ : ∃ V, W3.alloc (.cells #[.string (txtOf x)] 9) = V := ⟨_, rfl⟩
        have hc4 : V1.cell? ⟨w.heap.size, 0, none⟩ = some (.slice va pre.length vc) := by
          rw [← hV1]
          exact (((Below.refl _ W3).alloc (Nat.le_refl _) _).cell (p := ⟨w.heap.size, 0, none⟩) (Nat.lt_of_lt_of_le hlt HW3.out.size)).trans hc3
        go_simp
        try rw [hV1]
        refine hK _ _ ?_
        clear hK K
        refine wpAnyIn_ready (rs := [4]) (by kernel_rfl) (by simp) ?_
        refine AllReadyIn.cons rfl (fun K hK => ?_) AllReadyIn.nil
        have hbV : Below W3.heap.size W3 V1 := hV1 ▸ (Below.refl _ _).alloc (Nat.le_refl _) _
        have hsV : V1.heap.size = W3.heap.size + 1 := by rw [← hV1]; simp
        refine opIn_append_src V1 (.tmp 8) (.tmp 11) 43 9 (.string ⟨#[]⟩) 1 16 rfl und43t info9t rfl (by decide) (w.heap.size + 8) (.slice va pre.length vc) (.slice (some ⟨W3.heap.size, 0, none⟩) 1 1) pre.length 1 (pre.map fun l => .string (txtOf l)) [.string (txtOf x)] (by rfl) (by rfl) (own_next (own_next hrow' HW3.out) hbV) (src_one (t := 9) (hV1 ▸ World.alloc_heap_new W3 _) rfl) (by unfold maxLen; omega) (by omega) (by have := HW3.out.size; have h : w.heap.size + 8 ≤ W.drew.heap.size := hM; omega) (by omega) (by rfl) ?_
        intro v5 w5 g1 g2
        obtain ⟨x5, y5, hv5⟩ := own_form g1
        subst hv5
        have HE : Hid ((w5.ownsRow (w.heap.size + 8) 9 1 (.slice x5 (pre.length + 1) y5) (pre.length + 1) ((pre.map fun l => .string (txtOf l)) ++ [.string (txtOf x)])) ∧ V1.grownBy w5 (Value.slice va pre.length vc).ownBlock ∧ Below W.drew.heap.size W.drew V1) := ⟨g1, g2, HW3.out.trans (hbV.mono HW3.out.size)⟩
        have hx5 := box_kept HE.out.2.2 HE.out.2.1 hrow' (by omega) hbx'
        have hc5 : w5.cell? ⟨w.heap.size, 0, none⟩ = some (.slice va pre.length vc) := by simp [World.cell?, hx5]
        have hf5 : w5.frozen? ⟨w.heap.size, 0, none⟩ = false := by simp [World.frozen?, hx5]
        clear g1 g2
        refine hK _ _ ?_
        clear hK K
        refine wpAnyIn_ready (rs := [5]) (by kernel_rfl) (by simp) ?_
        refine AllReadyIn.cons rfl (fun K hK => ?_) AllReadyIn.nil
        go_simp
        refine hK _ _ ?_
        clear hK K
        refine wpAnyIn_done (by kernel_rfl) ?_ _
        gi_wp2
        exact body_end hbl' hM HE.out.2.2 HE.out.2.1 HE.out.1 hrow' hx5
      · go_simp
        gi_wp2_with (refine ⟨trivial, ?_⟩; gi_at_call 43; refine (calls_any HC.out).mono ?_; rintro e W3 ⟨rfl, hb3⟩; have HW3 : Hid (Below W.drew.heap.size W.drew W3) := hb3; clear hb3)
        have hc3 : W3.cell? ⟨w.heap.size, 0, none⟩ = some (.slice va pre.length vc) := (HW3.out.cell (p := ⟨w.heap.size, 0, none⟩) hlt).trans hc
        try (refine hK _ _ ?_; clear hK K)
        refine wpAnyIn_ready (rs := [0, 3]) (by kernel_rfl) (by simp) ?_
        refine AllReadyIn.cons rfl (fun K hK => ?_) (AllReadyIn.cons rfl (fun K hK => ?_) AllReadyIn.nil)
        · go_simp
          refine hK _ _ ?_
          clear hK K
          refine wpAnyIn_ready (rs := [3]) (by kernel_rfl) (by simp) ?_
          refine AllReadyIn.cons rfl (fun K hK => ?_) AllReadyIn.nil
          obtain ⟨V1, hV1⟩ : ∃ V, W3.alloc (.cells #[.string (txtOf x)] 9) = V := ⟨_, rfl⟩
          have hc4 : V1.cell? ⟨w.heap.size, 0, none⟩ = some (.slice va pre.length vc) := by
            rw [← hV1]
            exact (((Below.refl _ W3).alloc (Nat.le_refl _) _).cell (p := ⟨w.heap.size, 0, none⟩) (Nat.lt_of_lt_of_le hlt HW3.out.size)).trans hc3
          go_simp
          try rw [hV1]
          refine hK _ _ ?_
          clear hK K
          refine wpAnyIn_ready (rs := [4]) (by kernel_rfl) (by simp) ?_
          refine AllReadyIn.cons rfl (fun K hK => ?_) AllReadyIn.nil
          have hbV : Below W3.heap.size W3 V1 := hV1 ▸ (Below.refl _ _).alloc (Nat.le_refl _) _
          have hsV : V1.heap.size = W3.heap.size + 1 := by rw [← hV1]; simp
          refine opIn_append_src V1 (.tmp 8) (.tmp 11) 43 9 (.string ⟨#[]⟩) 1 16 rfl und43t info9t rfl (by decide) (w.heap.size + 8) (.slice va pre.length vc) (.slice (some ⟨W3.heap.size, 0, none⟩) 1 1) pre.length 1 (pre.map fun l => .string (txtOf l)) [.string (txtOf x)] (by rfl) (by rfl) (own_next (own_next hrow' HW3.out) hbV) (src_one (t := 9) (hV1 ▸ World.alloc_heap_new W3 _) rfl) (by unfold maxLen; omega) (by omega) (by have := HW3.out.size; have h : w.heap.size + 8 ≤ W.drew.heap.size := hM; omega) (by omega) (by rfl) ?_
          intro v5 w5 g1 g2
          obtain ⟨x5, y5, hv5⟩ := own_form g1
          subst hv5
          have HE : Hid ((w5.ownsRow (w.heap.size + 8) 9 1 (.slice x5 (pre.length + 1) y5) (pre.length + 1) ((pre.map fun l => .string (txtOf l)) ++ [.string (txtOf x)])) ∧ V1.grownBy w5 (Value.slice va pre.length vc).ownBlock ∧ Below W.drew.heap.size W.drew V1) := ⟨g1, g2, HW3.out.trans (hbV.mono HW3.out.size)⟩
          have hx5 := box_kept HE.out.2.2 HE.out.2.1 hrow' (by omega) hbx'
          have hc5 : w5.cell? ⟨w.heap.size, 0, none⟩ = some (.slice va pre.length vc) := by simp [World.cell?, hx5]
          have hf5 : w5.frozen? ⟨w.heap.size, 0, none⟩ = false := by simp [World.frozen?, hx5]
          clear g1 g2
          refine hK _ _ ?_
          clear hK K
          refine wpAnyIn_ready (rs := [5]) (by kernel_rfl) (by simp) ?_
          refine AllReadyIn.cons rfl (fun K hK => ?_) AllReadyIn.nil
          go_simp
          refine hK _ _ ?_
          clear hK K
          refine wpAnyIn_done (by kernel_rfl) ?_ _
          gi_wp2
          exact body_end hbl' hM HE.out.2.2 HE.out.2.1 HE.out.1 hrow' hx5
        · obtain ⟨V1, hV1⟩ : ∃ V, W3.alloc (.cells #[.string (txtOf x)] 9) = V := ⟨_, rfl⟩
          have hc4 : V1.cell? ⟨w.heap.size, 0, none⟩ = some (.slice va pre.length vc) := by
            rw [← hV1]
            exact (((Below.refl _ W3).alloc (Nat.le_refl _) _).cell (p := ⟨w.heap.size, 0, none⟩) (Nat.lt_of_lt_of_le hlt HW3.out.size)).trans hc3
          go_simp
          try rw [hV1]
          refine hK _ _ ?_
          clear hK K
          refine wpAnyIn_ready (rs := [0]) (by kernel_rfl) (by simp) ?_
          refine AllReadyIn.cons rfl (fun K hK => ?_) AllReadyIn.nil
          go_simp
          refine hK _ _ ?_
          clear hK K
          refine wpAnyIn_ready (rs := [4]) (by kernel_rfl) (by simp) ?_
          refine AllReadyIn.cons rfl (fun K hK => ?_) AllReadyIn.nil
          have hbV : Below W3.heap.size W3 V1 := hV1 ▸ (Below.refl _ _).alloc (Nat.le_refl _) _
          have hsV : V1.heap.size = W3.heap.size + 1 := by rw [← hV1]; simp
          refine opIn_append_src V1 (.tmp 8) (.tmp 11) 43 9 (.string ⟨#[]⟩) 1 16 rfl und43t info9t rfl (by decide) (w.heap.size + 8) (.slice va pre.length vc) (.slice (some ⟨W3.heap.size, 0, none⟩) 1 1) pre.length 1 (pre.map fun l => .string (txtOf l)) [.string (txtOf x)] (by rfl) (by rfl) (own_next (own_next hrow' HW3.out) hbV) (src_one (t := 9) (hV1 ▸ World.alloc_heap_new W3 _) rfl) (by unfold maxLen; omega) (by omega) (by have := HW3.out.size; have h : w.heap.size + 8 ≤ W.drew.heap.size := hM; omega) (by omega) (by rfl) ?_
          intro v5 w5 g1 g2
          obtain ⟨x5, y5, hv5⟩ := own_form g1
          subst hv5
          have HE : Hid ((w5.ownsRow (w.heap.size + 8) 9 1 (.slice x5 (pre.length + 1) y5) (pre.length + 1) ((pre.map fun l => .string (txtOf l)) ++ [.string (txtOf x)])) ∧ V1.grownBy w5 (Value.slice va pre.length vc).ownBlock ∧ Below W.drew.heap.size W.drew V1) := ⟨g1, g2, HW3.out.trans (hbV.mono HW3.out.size)⟩
          have hx5 := box_kept HE.out.2.2 HE.out.2.1 hrow' (by omega) hbx'
          have hc5 : w5.cell? ⟨w.heap.size, 0, none⟩ = some (.slice va pre.length vc) := by simp [World.cell?, hx5]
          have hf5 : w5.frozen? ⟨w.heap.size, 0, none⟩ = false := by simp [World.frozen?, hx5]
          clear g1 g2
          refine hK _ _ ?_
          clear hK K
          refine wpAnyIn_ready (rs := [5]) (by kernel_rfl) (by simp) ?_
          refine AllReadyIn.cons rfl (fun K hK => ?_) AllReadyIn.nil
          go_simp
          refine hK _ _ ?_
          clear hK K
          refine wpAnyIn_done (by kernel_rfl) ?_ _
          gi_wp2
          exact body_end hbl' hM HE.out.2.2 HE.out.2.1 HE.out.1 hrow' hx5
  case done =>
    rintro W ⟨v, hbx, hrow, hbl⟩ hK
    have hc : W.cell? ⟨w.heap.size, 0, none⟩ = some v := by simp [World.cell?, hbx]
    gi_wp2
    refine ⟨by simp, .inl ⟨_, _, rfl, run_takeDeferred hK, ?_⟩⟩
    have hp := off_putObj (S := fun k => k = W2.heap.size) W W2.heap.size (.deferred none) rfl
    have hrow2 : (W.putObj W2.heap.size (.deferred none)).ownsRow (w.heap.size + 8) 9 1 v (lns s.data.toList []).length ((lns s.data.toList []).map fun l => .string (txtOf l)) := own_off hrow (fun g hg e => by have := (hrow.lt g hg).1; omega) hp
    exact ⟨_, results_tmp rfl _ _ _, v, rfl, own_less hrow2 (by omega), hp.os.trans hbl.os, hp.tape.trans hbl.tape, hp.output.trans hbl.output, Nat.le_trans hbl.size hp.size, fun k hk => (hp.block k (Nat.lt_of_lt_of_le hk hbl.size) (by omega)).trans (hbl.block k hk)⟩
  case stop => exact fun _ _ _ _ _ h _ => h.elim
end Go.Proofs.YtibbnijicdijnaaGreatDoor

namespace Go.Proofs.YtibbnijicdijnaaGreatDoor
open Go.RowKit

theorem fault_any (n m : Int) (w : World) : Calls Tryz.prog 36 #[.int .i64 n, .int .i64 m] w fun e w' => e = .returned (.iface 95 (.pointer (some ⟨w.heap.size, 0, none⟩))) ∧ w' = w.alloc (.cells #[.int .i64 2, .int .i64 n, .int .i64 m] 98) := by
  go_enter Tryz.func36, Tryz.ntmps36
  go_wp2_with fail
  go_ret
  exact ⟨rfl, rfl⟩

abbrev St4 := SL × Value × Value × Value × Value
def stC (p : St4) : List Value := (slC p.1 p.2.1 p.2.2.1 p.2.2.2.1 p.2.2.2.2).toList
def StOwn (B : Nat) (w : World) (p : St4) : Prop := SlOwn B w p.1 p.2.1 p.2.2.1 p.2.2.2.1 p.2.2.2.2
/-- A row of steps. -/
def StsAt (B : Nat) (w : World) (v : Value) (ds : List SL) : Prop := ∃ L : List St4, L.map (·.1) = ds ∧ w.ownsRow B 45 10 v ds.length (L.flatMap stC) ∧ ∀ p ∈ L, StOwn B w p
theorem stsAt_nil (B : Nat) (w : World) : StsAt B w (.slice none 0 0) [] := ⟨[], rfl, own_z _ _ _ _, fun _ h => absurd h List.not_mem_nil⟩
theorem StOwn.off {S : Nat → Prop} {B : Nat} {w w' : World} {p : St4} (h : StOwn B w p) (hS : ∀ k, S k → k < B) (ho : Ofw S w w') : StOwn B w' p :=
  ⟨own_off h.o (fun g hg e => by have := (h.o.lt g hg).1; have := hS g e; omega) ho, own_off h.p (fun g hg e => by have := (h.p.lt g hg).1; have := hS g e; omega) ho, own_off h.l (fun g hg e => by have := (h.l.lt g hg).1; have := hS g e; omega) ho, own_off h.i (fun g hg e => by have := (h.i.lt g hg).1; have := hS g e; omega) ho⟩
theorem StsAt.off {S : Nat → Prop} {B : Nat} {w w' : World} {v : Value} {ds : List SL} (h : StsAt B w v ds) (hS : ∀ k, S k → k < B) (ho : Ofw S w w') : StsAt B w' v ds := by
  obtain ⟨L, h1, h2, h3⟩ := h
  exact ⟨L, h1, own_off h2 (fun g hg e => by have := (h2.lt g hg).1; have := hS g e; omega) ho, fun p hp => (h3 p hp).off hS ho⟩
theorem StsAt.next {B : Nat} {w w' : World} {v : Value} {ds : List SL} (h : StsAt B w v ds) (hb : Below w.heap.size w w') : StsAt B w' v ds := h.off (S := fun _ => False) (fun _ f => f.elim) (Ofw.of_below hb)
theorem StOwn.next {B : Nat} {w w' : World} {p : St4} (h : StOwn B w p) (hb : Below w.heap.size w w') : StOwn B w' p := h.off (S := fun _ => False) (fun _ f => f.elim) (Ofw.of_below hb)
theorem own_apart {w : World} {B B' : Nat} {e e' : TypeId} {m m' : Nat} {v v' : Value} {n n' : Nat} {xs xs' : List Value} (h : w.ownsRow B e m v n xs) (h' : w.ownsRow B' e' m' v' n' xs') (he : e ≠ e') : ∀ g, v.ownBlock = some g → v'.ownBlock ≠ some g := by
  intro g hg hg'
  rcases h.2 with ⟨rfl, _⟩ | ⟨g1, cap, cur, rfl, _, hc, _⟩
  · simp [Value.ownBlock] at hg
  · rcases h'.2 with ⟨rfl, _⟩ | ⟨g2, cap2, cur2, rfl, _, hc2, _⟩
    · simp [Value.ownBlock] at hg'
    · simp [Value.ownBlock] at hg hg'
      subst hg hg'
      rw [hc] at hc2
      injection hc2 with hc2
      injection hc2 with _ q
      exact he q
theorem own_grown {w w' : World} {B B' : Nat} {e e' : TypeId} {m m' : Nat} {v v' : Value} {n n' : Nat} {xs xs' : List Value} (h : w.ownsRow B e m v n xs) (h' : w.ownsRow B' e' m' v' n' xs') (he : e ≠ e') (hg : w.grownBy w' v'.ownBlock) : w'.ownsRow B e m v n xs :=
  own_keep h fun g hgv => hg.block g (h.lt g hgv).2 (fun q => own_apart h h' he g hgv q.symm)
theorem StOwn.grown {w w' : World} {B B' : Nat} {p : St4} {v' : Value} {n' : Nat} {xs' : List Value} (h : StOwn B w p) (h' : w.ownsRow B' 45 10 v' n' xs') (hg : w.grownBy w' v'.ownBlock) : StOwn B w' p :=
  ⟨own_grown h.o h' (by decide) hg, own_grown h.p h' (by decide) hg, own_grown h.l h' (by decide) hg, own_grown h.i h' (by decide) hg⟩
theorem StsAt.push {B : Nat} {w w' : World} {v v' : Value} {ds : List SL} {L : List St4} (h1 : L.map (·.1) = ds) (h2 : w.ownsRow B 45 10 v ds.length (L.flatMap stC)) (h3 : ∀ p ∈ L, StOwn B w p) (p : St4) (hp : StOwn B w p) (hr : w'.ownsRow B 45 10 v' (ds.length + 1) (L.flatMap stC ++ stC p)) (hg : w.grownBy w' v.ownBlock) : StsAt B w' v' (ds ++ [p.1]) := by
  refine ⟨L ++ [p], by rw [List.map_append, h1]; rfl, ?_, fun q hq => ?_⟩
  · rw [List.flatMap_append, List.length_append]
    simpa using hr
  · rcases List.mem_append.1 hq with hq | hq
    · exact (h3 q hq).grown h2 hg
    · rw [List.mem_singleton.1 hq]; exact hp.grown h2 hg
theorem stC_len (p : St4) : (stC p).length = 10 := rfl
theorem stC_one (p : St4) (ho : ∃ a n c, p.2.1 = .slice a n c) (hp : ∃ a n c, p.2.2.1 = .slice a n c) (hl : ∃ a n c, p.2.2.2.1 = .slice a n c) (hi : ∃ a n c, p.2.2.2.2 = .slice a n c) : ∀ u ∈ stC p, u.oneCell' = true := by
  obtain ⟨d, vo, vp, vl, vi⟩ := p
  obtain ⟨_, _, _, rfl⟩ := ho
  obtain ⟨_, _, _, rfl⟩ := hp
  obtain ⟨_, _, _, rfl⟩ := hl
  obtain ⟨_, _, _, rfl⟩ := hi
  intro u hu
  simp only [stC, slC, List.mem_cons, List.not_mem_nil, or_false] at hu
  rcases hu with rfl | rfl | rfl | rfl | rfl | rfl | rfl | rfl | rfl | rfl <;> rfl
theorem und22 : Tryz.prog.underlying 22 = some (.slice 45) := by kernel_rfl
theorem info45s : (Tryz.prog.info? 45).map (fun i => (i.zero, i.size, i.bytes)) = some (some (.agg cs0), 10, 176) := by kernel_rfl

/-- An append of one element of several cells, within a fence. -/
theorem appendIn_els {F : Fence} {nn : Nat} {P : Program} {ops : Array Oper} {rest : List Oper} {o : Oper} {a : Act} {Q : Exit → Act → World → Prop} (wr : World) (us : List Value) (size : Nat) (hsz0 : us.length = size) (hsz1 : 0 < size) (hgd : o.guard = none) (s x : Operand) (t e : TypeId) (z : Value) (bytes : Nat)
    (ho : o.op = .call { callee := .builtin .append, args := #[s, x], argTypes := #[t, t] }) (ht : P.underlying t = some (.slice e)) (hinfo : (P.info? e).map (fun i => (i.zero, i.size, i.bytes)) = some (some z, size, bytes)) (hz1 : z.cells.size = size)
    (base : Nat) (v : Value) (n : Nat) (xs : List Value) (hs : a.eval s = v) (hown : wr.ownsRow base e size v n xs) (hu : ∀ u ∈ us, u.oneCell' = true)
    (bk : Nat) (hbk : wr.heap.size = bk) (hx : a.eval x = .slice (some ⟨bk, 0, none⟩) 1 1) (h63 : n + 1 ≤ maxLen) (hbytes : (n + 1) * bytes ≤ 140737488355328) (hbase : base ≤ wr.heap.size)
    (h : ∀ v' w', w'.ownsRow base e size v' (n + 1) (xs ++ us) → (wr.alloc (.cells us.toArray e)).grownBy w' v.ownBlock → wpListIn F nn P ops Q rest (a.put o.dst v') w') : wpListIn F nn P ops Q (o :: rest) a (wr.alloc (.cells us.toArray e)) := by
  subst hbk
  obtain ⟨i0, hi, hz0, hz1', hz2⟩ := info_of hinfo
  have hn := heap_alloc_new wr (.cells us.toArray e)
  refine wpListIn_append_own _ hgd s x t ho base e i0 z size bytes ht hi hz0 hz1' hz2 hz1 hsz1 v n xs hs (own_below hown ((Below.refl _ _).alloc (Nat.le_refl _) _)) ⟨wr.heap.size, 0, none⟩ 1 1 us hx (by omega) (fun j u hj => World.news_of_block hn j u (by simpa using hj)) hu h63 hbytes (by simp; omega) (fun v' w' g1 g2 _ => h v' w' g1 g2)
end Go.Proofs.YtibbnijicdijnaaGreatDoor
