/-
  Put together: TfLaw, TfKnM.
-/
import Derived.Test.YthohnmplbjhjaaaGreatDoorJ45
namespace Go.Proofs.YthohnmplbjhjaaaGreatDoor
open Go Go.RowKit Go.Shelf Go.Lib

/-- How the law's known ends. -/
def KnO (w : World) (e : Ending) (w' : World) : Prop := e = .returned (.bool true) ∧ Below w.heap.size w w'
theorem way_below {w w' : World} (h : Way w w) (hb : Below w.heap.size w w') : Way w' w' := way_here (h.below hb)
theorem mo_forms {w : World} {m : Md.Mo} {vv vc vg : Value} (h : MoAt w m vv vc vg) : (#[vv, vc, .bool m.has, vg] : Array Value).all (·.oneCell') = true := by
  obtain ⟨a1, c1, rfl, _⟩ := h.v.form
  obtain ⟨a2, c2, rfl, _⟩ := h.c.form
  obtain ⟨a3, c3, rfl, _⟩ := h.g.form
  kernel_rfl
/-- What Parse hands, whichever. -/
theorem po_get {r : Md.Mo × (Int × Int)} {w w' : World} {e : Ending} (h : PO r w e w') : ∃ cs it, e = .returned (.tuple #[.agg cs, it]) ∧ cs.size = 4 ∧ cs.all (·.oneCell') = true ∧ Below w.heap.size w w' ∧ ((r.2.2 = 0 ∧ it = .nilIface) ∨ (r.2.2 ≠ 0 ∧ ∃ F, it = .iface 91 (.pointer (some ⟨F, 0, none⟩)) ∧ w'.heap[F]? = some (.cells #[.int .i64 1, .int .i64 r.2.1, .int .i64 r.2.2] 44 (0, 0)))) := by
  obtain ⟨hb, ⟨h0, _, vv, vc, vg, rfl, hM⟩ | ⟨h0, F, rfl, hF, _⟩⟩ := h
  · exact ⟨_, _, rfl, rfl, mo_forms hM, hb, .inl ⟨h0, rfl⟩⟩
  · exact ⟨_, _, rfl, rfl, by kernel_rfl, hb, .inr ⟨h0, F, rfl, hF⟩⟩

theorem below_two {w w2 w3 : World} {o : Obj} (h : Below w.heap.size w w2) (hb : Below (w2.alloc o).heap.size (w2.alloc o) w3) (o' : Obj) : Below w.heap.size w (w3.alloc o') := by
  have ha : Below w.heap.size w (w2.alloc o) := h.alloc h.size o
  exact (ha.trans (hb.mono ha.size)).alloc (Nat.le_trans ha.size hb.size) _

theorem kept_box {W5 w6 w7 : World} {G : Nat} {c : Array Value} {t : TypeId} {o : Obj} (h : W5.heap[G]? = some (.cells c t (0, 0))) (h6 : Below W5.heap.size W5 w6) (h7 : Below (w6.alloc o).heap.size (w6.alloc o) w7) : Below W5.heap.size W5 w7 ∧ w7.heap[G]? = some (.cells c t (0, 0)) := by
  have ha : Below W5.heap.size W5 (w6.alloc o) := h6.alloc h6.size o
  have hb := ha.trans (h7.mono ha.size)
  exact ⟨hb, (hb.block G (Array.getElem?_eq_some_iff.1 h).1).trans h⟩

set_option maxRecDepth 100000 in
set_option maxHeartbeats 4000000 in
theorem first_any (s t : List UInt8) (w : World) (hw : Way w w) (hkn : ∀ w, Way w w → Calls Tryz.prog 11 #[] w (KnO w)) : Calls Tryz.prog 5 #[.string (txtOf s), .string (txtOf t)] w (KnO w) := by
  have hsz : (txtOf s).size = s.length := txt_size s
  have htz : (txtOf t).size = t.length := txt_size t
  by_cases hs : 70000 < s.length
  · have h1 : decide (70000 < ((txtOf s).size : Int)) = true := by rw [hsz]; exact decide_eq_true (by omega)
    obtain ⟨X, hX⟩ : ∃ X, txtOf s = X := ⟨_, rfl⟩
    rw [hX] at h1 ⊢
    clear hX hs hsz htz hkn hw
    go_enter Tryz.func5, Tryz.ntmps5
    go_wp2_with fail
    go_ret
    exact ⟨rfl, Below.refl _ _⟩
  · have h1 : decide (70000 < ((txtOf s).size : Int)) = false := by rw [hsz]; exact decide_eq_false (by omega)
    by_cases ht : 1000 < t.length
    · have h2 : decide (1000 < ((txtOf t).size : Int)) = true := by rw [htz]; exact decide_eq_true (by omega)
      obtain ⟨X, hX⟩ : ∃ X, txtOf s = X := ⟨_, rfl⟩
      obtain ⟨Y, hY⟩ : ∃ Y, txtOf t = Y := ⟨_, rfl⟩
      rw [hX] at h1 ⊢
      rw [hY] at h2 ⊢
      clear hX hY hs ht hsz htz hkn hw
      go_enter Tryz.func5, Tryz.ntmps5
      go_wp2_with fail
      go_ret
      exact ⟨rfl, Below.refl _ _⟩
    · have h2 : decide (1000 < ((txtOf t).size : Int)) = false := by rw [htz]; exact decide_eq_false (by omega)
      have HPs : Hid (∀ w', Way w' w' → Calls Tryz.prog 13 #[.string (txtOf s)] w' (PO (parseT s) w')) := fun w' h' => parse_any s w' h' (by omega)
      have HKn : Hid (Calls Tryz.prog 11 #[] w (KnO w)) := hkn w hw
      obtain ⟨r, hr⟩ : ∃ r, parseT s = r := ⟨_, rfl⟩
      rw [hr] at HPs
      have HW : Hid (Way w w) := hw
      obtain ⟨X, hX⟩ : ∃ X, txtOf s = X := ⟨_, rfl⟩
      obtain ⟨Y, hY⟩ : ∃ Y, txtOf t = Y := ⟨_, rfl⟩
      rw [hX] at h1 hsz HPs ⊢
      rw [hY] at h2 htz ⊢
      have HX : Hid (txtOf s = X ∧ txtOf t = Y ∧ s.length ≤ 70000 ∧ t.length ≤ 1000 ∧ parseT s = r ∧ Y.size = t.length) := ⟨hX, hY, by omega, by omega, hr, htz⟩
      clear hkn hw hX hY hs ht hr hsz htz
      by_cases h0 : r.2.2 = 0
      · go_enter Tryz.func5, Tryz.ntmps5
        go_wp2_with (first
          | (go_at_call 11; refine calls_at HKn.out (by with_reducible rfl) (by with_reducible rfl) ?_; rintro e w1 ⟨rfl, hb1⟩; (have HB1 : Hid (Below w.heap.size w w1) := hb1); clear hb1)
          | (go_at_call 13; refine calls_at (HPs.out _ (way_below HW.out HB1.out)) (by with_reducible rfl) (by with_reducible rfl) ?_; intro e w2 hp; obtain ⟨cs, it, rfl, hc4, hc1, hb2, hit⟩ := po_get hp; (have hit' : it = .nilIface := hit.elim (fun h => h.2) (fun h => absurd h0 h.1)); subst hit'; clear hit hp; (have H2 : Hid (cs.size = 4 ∧ cs.all (·.oneCell') = true ∧ Below w.heap.size w w2) := ⟨hc4, hc1, HB1.out.trans (hb2.mono HB1.out.size)⟩); clear hc4 hc1 hb2)
          | (refine wpList_store_row rfl 26 _ _ rfl w2.heap.size cs rfl rfl 26 _ (heap_alloc_new _ _) (by rw [H2.out.1]; kernel_rfl) (by rw [H2.out.1]; rfl) H2.out.2.1 ?_; rw [setRow_alloc])
          | (go_at_call 17; refine calls_at (law_none _) (by with_reducible rfl) (by with_reducible rfl) ?_; rintro e w3 ⟨rfl, hb3⟩))
        go_ret
        refine ⟨rfl, ?_⟩
        have ha : Below w.heap.size w (w2.alloc (.cells cs 26)) := H2.out.2.2.alloc H2.out.2.2.size _
        exact (ha.trans (hb3.mono ha.size)).alloc (Nat.le_trans ha.size hb3.size) _
      · obtain ⟨mm, n0, e0⟩ := r
        have H0 : Hid (e0 ≠ 0) := h0
        clear h0
        by_cases h50 : e0 = 50
        · have h50' : (e0 == 50) = true := by simp [h50]
          clear h50
          go_enter Tryz.func5, Tryz.ntmps5
          go_wp2_with (first
            | (go_at_call 11; refine calls_at HKn.out (by with_reducible rfl) (by with_reducible rfl) ?_; rintro e w1 ⟨rfl, hb1⟩; (have HB1 : Hid (Below w.heap.size w w1) := hb1); clear hb1)
            | (go_at_call 13; refine calls_at (HPs.out _ (way_below HW.out HB1.out)) (by with_reducible rfl) (by with_reducible rfl) ?_; intro e w2 hp; obtain ⟨cs, it, rfl, hc4, hc1, hb2, hit⟩ := po_get hp; obtain ⟨F, hit', hF⟩ := (hit.resolve_left (fun h => H0.out h.1)).2; subst hit'; clear hit hp; (have H2 : Hid (w2.heap[F]? = some (.cells #[.int .i64 1, .int .i64 n0, .int .i64 e0] 44 (0, 0)) ∧ cs.size = 4 ∧ cs.all (·.oneCell') = true ∧ Below w.heap.size w w2) := ⟨hF, hc4, hc1, HB1.out.trans (hb2.mono HB1.out.size)⟩); clear hF hc4 hc1 hb2)
            | (refine wpList_store_row rfl 26 _ _ rfl w2.heap.size cs rfl rfl 26 _ (heap_alloc_new _ _) (by rw [H2.out.2.1]; kernel_rfl) (by rw [H2.out.2.1]; rfl) H2.out.2.2.1 ?_; rw [setRow_alloc])
            | (go_at_call 17; refine calls_at (law_fault F n0 e0 (w2.alloc (.cells cs 26)) ((heap_alloc_old w2 _ (Array.getElem?_eq_some_iff.1 H2.out.1).1).trans H2.out.1) H0.out) (by with_reducible rfl) (by with_reducible rfl) ?_; rintro e w3 ⟨rfl, hb3⟩))
          go_ret
          exact ⟨rfl, below_two H2.out.2.2.2 hb3 _⟩
        · by_cases h59 : e0 = 59
          · have h50' : (e0 == 50) = false := by simp [h50]
            have h59' : (e0 == 59) = true := by simp [h59]
            clear h50 h59
            go_enter Tryz.func5, Tryz.ntmps5
            go_wp2_with (first
            | (go_at_call 11; refine calls_at HKn.out (by with_reducible rfl) (by with_reducible rfl) ?_; rintro e w1 ⟨rfl, hb1⟩; (have HB1 : Hid (Below w.heap.size w w1) := hb1); clear hb1)
            | (go_at_call 13; refine calls_at (HPs.out _ (way_below HW.out HB1.out)) (by with_reducible rfl) (by with_reducible rfl) ?_; intro e w2 hp; obtain ⟨cs, it, rfl, hc4, hc1, hb2, hit⟩ := po_get hp; obtain ⟨F, hit', hF⟩ := (hit.resolve_left (fun h => H0.out h.1)).2; subst hit'; clear hit hp; (have H2 : Hid (w2.heap[F]? = some (.cells #[.int .i64 1, .int .i64 n0, .int .i64 e0] 44 (0, 0)) ∧ cs.size = 4 ∧ cs.all (·.oneCell') = true ∧ Below w.heap.size w w2) := ⟨hF, hc4, hc1, HB1.out.trans (hb2.mono HB1.out.size)⟩); clear hF hc4 hc1 hb2)
            | (refine wpList_store_row rfl 26 _ _ rfl w2.heap.size cs rfl rfl 26 _ (heap_alloc_new _ _) (by rw [H2.out.2.1]; kernel_rfl) (by rw [H2.out.2.1]; rfl) H2.out.2.2.1 ?_; rw [setRow_alloc])
            | (go_at_call 17; refine calls_at (law_fault F n0 e0 (w2.alloc (.cells cs 26)) ((heap_alloc_old w2 _ (Array.getElem?_eq_some_iff.1 H2.out.1).1).trans H2.out.1) H0.out) (by with_reducible rfl) (by with_reducible rfl) ?_; rintro e w3 ⟨rfl, hb3⟩))
            go_ret
            exact ⟨rfl, below_two H2.out.2.2.2 hb3 _⟩
          · have h50' : (e0 == 50) = false := by simp [h50]
            have h59' : (e0 == 59) = false := by simp [h59]
            obtain ⟨n, m, hn, hsl, hpr, hgo⟩ := first_fault (s := s) (by rw [HX.out.2.2.2.2.1]; exact h50) (by rw [HX.out.2.2.2.2.1]; exact h59) (by rw [HX.out.2.2.2.2.1]; exact H0.out)
            rw [HX.out.2.2.2.2.1] at hpr hgo
            have hn0 : n0 = (n : Int) := congrArg (fun z => z.2.1) hpr
            have hnl : n ≤ 70000 := by
              have h1 := (goT_take _ 1 zm m n e0 hgo).2.1
              have h2 := List.length_take_le n (linesT s [])
              have h3 := List.length_take_le' n (linesT s [])
              have h4 := lines_count s []
              omega
            have hf := first_same (t := t) hgo hn hsl
            have HP2 : Hid (∀ w', Way w' w' → Calls Tryz.prog 13 #[.string (txtOf (cutT s n))] w' (PO (zm, (n0, e0)) w')) := fun w' h' => by
              have := parse_any (cutT s n) w' h' (by have := cut_len s n; omega)
              rw [hf.1, ← hn0] at this
              exact this
            have HCt : Hid (∀ w', Calls Tryz.prog 18 #[.string X, .int .i64 n0] w' fun e w'' => e = .returned (.string (txtOf (cutT s n))) ∧ w' = w'') := fun w' => by
              have := cut_any s n w' hn (by omega) (by omega)
              rw [HX.out.1, ← hn0] at this
              exact this.mono (fun e w'' h => ⟨h.1, h.2.symm⟩)
            have HP3 : Hid ((txtOf (cutT s n)).size + 1 + Y.size ≤ 65536 → ∀ w', Way w' w' → Calls Tryz.prog 13 #[.string (txtOf (cutT s n) ++ ⟨#[10]⟩ ++ Y)] w' (PO (zm, (n0, e0)) w')) := fun hl w' h' => by
              have hz : (txtOf (cutT s n)).size = (cutT s n).length := txt_size _
              have hl2 : (cutT s n ++ 10 :: t).length ≤ 65536 := by have := HX.out.2.2.2.2.2; simp; omega
              have := parse_any (cutT s n ++ 10 :: t) w' h' (by omega)
              rw [hf.2 hl2, ← hn0] at this
              have e1 : txtOf (cutT s n ++ 10 :: t) = txtOf (cutT s n) ++ ⟨#[10]⟩ ++ Y := by
                rw [← HX.out.2.1]
                apply ByteArray.ext
                simp [txtOf]
              rw [e1] at this
              exact this
            have hCs : (txtOf (cutT s n)).size ≤ 65536 := by rw [txt_size]; have := cut_len s n; omega
            have hYs : Y.size ≤ 1000 := by have := HX.out; omega
            obtain ⟨C, hC⟩ : ∃ C, txtOf (cutT s n) = C := ⟨_, rfl⟩
            rw [hC] at HP2 HCt HP3 hCs
            have hz1 : ¬ 9223372036854775807 < C.size + 1 := by omega
            have hz2 : ¬ 9223372036854775807 < C.size + 1 + Y.size := by omega
            by_cases hbig : 65536 < C.size + 1 + Y.size
            · have hbg : (65536 : Int) < (C.size : Int) + 1 + (Y.size : Int) := by omega
              clear hCs hYs hbig
              clear hC hf hnl hn0 hgo hpr hsl hn h50 h59
              go_enter Tryz.func5, Tryz.ntmps5
              go_wp2_with (first
              | (go_at_call 11; refine calls_at HKn.out (by with_reducible rfl) (by with_reducible rfl) ?_; rintro e w1 ⟨rfl, hb1⟩; (have HB1 : Hid (Below w.heap.size w w1) := hb1); clear hb1)
              | (go_at_call 13; refine calls_at (HPs.out _ (way_below HW.out HB1.out)) (by with_reducible rfl) (by with_reducible rfl) ?_; intro e w2 hp; obtain ⟨cs, it, rfl, hc4, hc1, hb2, hit⟩ := po_get hp; obtain ⟨F, hit', hF⟩ := (hit.resolve_left (fun h => H0.out h.1)).2; subst hit'; clear hit hp; (have H2 : Hid (w2.heap[F]? = some (.cells #[.int .i64 1, .int .i64 n0, .int .i64 e0] 44 (0, 0)) ∧ cs.size = 4 ∧ cs.all (·.oneCell') = true ∧ Below w.heap.size w w2) := ⟨hF, hc4, hc1, HB1.out.trans (hb2.mono HB1.out.size)⟩); clear hF hc4 hc1 hb2)
              | (refine wpList_store_row rfl 26 _ _ rfl w2.heap.size cs rfl rfl 26 _ (heap_alloc_new _ _) (by rw [H2.out.2.1]; kernel_rfl) (by rw [H2.out.2.1]; rfl) H2.out.2.2.1 ?_; rw [setRow_alloc])
              | (go_at_call 17; refine calls_at (law_fault F n0 e0 (w2.alloc (.cells cs 26)) ((heap_alloc_old w2 _ (Array.getElem?_eq_some_iff.1 H2.out.1).1).trans H2.out.1) H0.out) (by with_reducible rfl) (by with_reducible rfl) ?_; rintro e w3 ⟨rfl, hb3⟩)
              | (go_at_call 18; obtain ⟨W5, hW5⟩ : ∃ W5, w3.alloc (.cells #[.int .i64 1, .int .i64 n0, .int .i64 e0] 44) = W5 := ⟨_, rfl⟩; obtain ⟨G, hG⟩ : ∃ G, w3.heap.size = G := ⟨_, rfl⟩; rw [hW5, hG]; (have H5 : Hid (Below w.heap.size w W5 ∧ W5.heap[G]? = some (.cells #[.int .i64 1, .int .i64 n0, .int .i64 e0] 44 (0, 0))) := ⟨(by rw [← hW5]; exact below_two H2.out.2.2.2 hb3 _), (by rw [← hW5, ← hG]; exact heap_alloc_new w3 _)⟩); clear hW5 hG hb3; refine calls_at (HCt.out W5) (by with_reducible rfl) (by with_reducible rfl) ?_; rintro e w' ⟨rfl, rfl⟩)
              | (go_at_call 13; refine calls_at (HP2.out W5 (way_below HW.out H5.out.1)) (by with_reducible rfl) (by with_reducible rfl) ?_; intro e w6 hp; obtain ⟨cs2, it, rfl, hc4, hc1, hb2, hit⟩ := po_get hp; obtain ⟨F2, hit', hF⟩ := (hit.resolve_left (fun h => H0.out h.1)).2; subst hit'; clear hit hp; (have H6 : Hid (w6.heap[F2]? = some (.cells #[.int .i64 1, .int .i64 n0, .int .i64 e0] 44 (0, 0)) ∧ cs2.size = 4 ∧ cs2.all (·.oneCell') = true ∧ Below W5.heap.size W5 w6) := ⟨hF, hc4, hc1, hb2⟩); clear hF hc4 hc1 hb2)
              | (refine wpList_store_row rfl 26 _ _ rfl w6.heap.size cs2 rfl rfl 26 _ (heap_alloc_new _ _) (by rw [H6.out.2.1]; kernel_rfl) (by rw [H6.out.2.1]; rfl) H6.out.2.2.1 ?_; rw [setRow_alloc])
              | (go_at_call 17; refine calls_at (law_fault F2 n0 e0 (w6.alloc (.cells cs2 26)) ((heap_alloc_old w6 _ (Array.getElem?_eq_some_iff.1 H6.out.1).1).trans H6.out.1) H0.out) (by with_reducible rfl) (by with_reducible rfl) ?_; rintro e w7 ⟨rfl, hb7⟩; (have H7 : Hid (Below W5.heap.size W5 w7 ∧ w7.heap[G]? = some (.cells #[.int .i64 1, .int .i64 n0, .int .i64 e0] 44 (0, 0))) := kept_box H5.out.2 H6.out.2.2.2 hb7); have g0 := cell_of H7.out.2 0; have g1 := cell_of H7.out.2 1; have g2 := cell_of H7.out.2 2; have hG7 := (Array.getElem?_eq_some_iff.1 H7.out.2).1; clear hb7))
              go_ret
              exact ⟨rfl, (H5.out.1.trans (H7.out.1.mono H5.out.1.size)).alloc (Nat.le_trans H5.out.1.size H7.out.1.size) _⟩
            · have hbg : ¬ (65536 : Int) < (C.size : Int) + 1 + (Y.size : Int) := by omega
              clear hCs hYs
              clear hC hf hnl hn0 hgo hpr hsl hn h50 h59
              go_enter Tryz.func5, Tryz.ntmps5
              go_wp2_with (first
              | (go_at_call 11; refine calls_at HKn.out (by with_reducible rfl) (by with_reducible rfl) ?_; rintro e w1 ⟨rfl, hb1⟩; (have HB1 : Hid (Below w.heap.size w w1) := hb1); clear hb1)
              | (go_at_call 13; refine calls_at (HPs.out _ (way_below HW.out HB1.out)) (by with_reducible rfl) (by with_reducible rfl) ?_; intro e w2 hp; obtain ⟨cs, it, rfl, hc4, hc1, hb2, hit⟩ := po_get hp; obtain ⟨F, hit', hF⟩ := (hit.resolve_left (fun h => H0.out h.1)).2; subst hit'; clear hit hp; (have H2 : Hid (w2.heap[F]? = some (.cells #[.int .i64 1, .int .i64 n0, .int .i64 e0] 44 (0, 0)) ∧ cs.size = 4 ∧ cs.all (·.oneCell') = true ∧ Below w.heap.size w w2) := ⟨hF, hc4, hc1, HB1.out.trans (hb2.mono HB1.out.size)⟩); clear hF hc4 hc1 hb2)
              | (refine wpList_store_row rfl 26 _ _ rfl w2.heap.size cs rfl rfl 26 _ (heap_alloc_new _ _) (by rw [H2.out.2.1]; kernel_rfl) (by rw [H2.out.2.1]; rfl) H2.out.2.2.1 ?_; rw [setRow_alloc])
              | (go_at_call 17; refine calls_at (law_fault F n0 e0 (w2.alloc (.cells cs 26)) ((heap_alloc_old w2 _ (Array.getElem?_eq_some_iff.1 H2.out.1).1).trans H2.out.1) H0.out) (by with_reducible rfl) (by with_reducible rfl) ?_; rintro e w3 ⟨rfl, hb3⟩)
              | (go_at_call 18; obtain ⟨W5, hW5⟩ : ∃ W5, w3.alloc (.cells #[.int .i64 1, .int .i64 n0, .int .i64 e0] 44) = W5 := ⟨_, rfl⟩; obtain ⟨G, hG⟩ : ∃ G, w3.heap.size = G := ⟨_, rfl⟩; rw [hW5, hG]; (have H5 : Hid (Below w.heap.size w W5 ∧ W5.heap[G]? = some (.cells #[.int .i64 1, .int .i64 n0, .int .i64 e0] 44 (0, 0))) := ⟨(by rw [← hW5]; exact below_two H2.out.2.2.2 hb3 _), (by rw [← hW5, ← hG]; exact heap_alloc_new w3 _)⟩); clear hW5 hG hb3; refine calls_at (HCt.out W5) (by with_reducible rfl) (by with_reducible rfl) ?_; rintro e w' ⟨rfl, rfl⟩)
              | (go_at_call 13; refine calls_at (HP2.out W5 (way_below HW.out H5.out.1)) (by with_reducible rfl) (by with_reducible rfl) ?_; intro e w6 hp; obtain ⟨cs2, it, rfl, hc4, hc1, hb2, hit⟩ := po_get hp; obtain ⟨F2, hit', hF⟩ := (hit.resolve_left (fun h => H0.out h.1)).2; subst hit'; clear hit hp; (have H6 : Hid (w6.heap[F2]? = some (.cells #[.int .i64 1, .int .i64 n0, .int .i64 e0] 44 (0, 0)) ∧ cs2.size = 4 ∧ cs2.all (·.oneCell') = true ∧ Below W5.heap.size W5 w6) := ⟨hF, hc4, hc1, hb2⟩); clear hF hc4 hc1 hb2)
              | (refine wpList_store_row rfl 26 _ _ rfl w6.heap.size cs2 rfl rfl 26 _ (heap_alloc_new _ _) (by rw [H6.out.2.1]; kernel_rfl) (by rw [H6.out.2.1]; rfl) H6.out.2.2.1 ?_; rw [setRow_alloc])
              | (go_at_call 17; refine calls_at (law_fault F2 n0 e0 (w6.alloc (.cells cs2 26)) ((heap_alloc_old w6 _ (Array.getElem?_eq_some_iff.1 H6.out.1).1).trans H6.out.1) H0.out) (by with_reducible rfl) (by with_reducible rfl) ?_; rintro e w7 ⟨rfl, hb7⟩; (have H7 : Hid (Below W5.heap.size W5 w7 ∧ w7.heap[G]? = some (.cells #[.int .i64 1, .int .i64 n0, .int .i64 e0] 44 (0, 0))) := kept_box H5.out.2 H6.out.2.2.2 hb7); have g0 := cell_of H7.out.2 0; have g1 := cell_of H7.out.2 1; have g2 := cell_of H7.out.2 2; have hG7 := (Array.getElem?_eq_some_iff.1 H7.out.2).1; clear hb7)
              | (go_at_call 13; obtain ⟨W8, hW8⟩ : ∃ W8, w7.alloc (.cells #[.int .i64 1, .int .i64 n0, .int .i64 e0] 44) = W8 := ⟨_, rfl⟩; obtain ⟨K, hK⟩ : ∃ K, w7.heap.size = K := ⟨_, rfl⟩; rw [hW8]; try rw [hK]; (have H8 : Hid (Below W5.heap.size W5 W8 ∧ W8.heap[G]? = some (.cells #[.int .i64 1, .int .i64 n0, .int .i64 e0] 44 (0, 0)) ∧ W8.heap[K]? = some (.cells #[.int .i64 1, .int .i64 n0, .int .i64 e0] 44 (0, 0))) := ⟨(by rw [← hW8]; exact H7.out.1.alloc H7.out.1.size _), (by rw [← hW8]; exact (heap_alloc_old w7 _ hG7).trans H7.out.2), (by rw [← hW8, ← hK]; exact heap_alloc_new w7 _)⟩); clear hW8 hK g0 g1 g2 hG7; refine calls_at (HP3.out (Nat.le_of_not_lt hbig) W8 (way_below (way_below HW.out H5.out.1) H8.out.1)) (by with_reducible rfl) (by with_reducible rfl) ?_; intro e w9 hp; obtain ⟨cs3, it, rfl, hc4, hc1, hb2, hit⟩ := po_get hp; obtain ⟨F3, hit', hF⟩ := (hit.resolve_left (fun h => H0.out h.1)).2; subst hit'; clear hit hp; (have H9 : Hid (w9.heap[F3]? = some (.cells #[.int .i64 1, .int .i64 n0, .int .i64 e0] 44 (0, 0)) ∧ cs3.size = 4 ∧ cs3.all (·.oneCell') = true ∧ Below W8.heap.size W8 w9) := ⟨hF, hc4, hc1, hb2⟩); clear hF hc4 hc1 hb2)
              | (refine wpList_store_row rfl 26 _ _ rfl w9.heap.size cs3 rfl rfl 26 _ (heap_alloc_new _ _) (by rw [H9.out.2.1]; kernel_rfl) (by rw [H9.out.2.1]; rfl) H9.out.2.2.1 ?_; rw [setRow_alloc])
              | (go_at_call 17; refine calls_at (law_fault F3 n0 e0 (w9.alloc (.cells cs3 26)) ((heap_alloc_old w9 _ (Array.getElem?_eq_some_iff.1 H9.out.1).1).trans H9.out.1) H0.out) (by with_reducible rfl) (by with_reducible rfl) ?_; rintro e w10 ⟨rfl, hb10⟩; (have H10 : Hid (Below W8.heap.size W8 w10 ∧ w10.heap[G]? = some (.cells #[.int .i64 1, .int .i64 n0, .int .i64 e0] 44 (0, 0)) ∧ w10.heap[K]? = some (.cells #[.int .i64 1, .int .i64 n0, .int .i64 e0] 44 (0, 0))) := ⟨(kept_box H8.out.2.1 H9.out.2.2.2 hb10).1, (kept_box H8.out.2.1 H9.out.2.2.2 hb10).2, (kept_box H8.out.2.2 H9.out.2.2.2 hb10).2⟩); have g0 := cell_of H10.out.2.1 0; have g1 := cell_of H10.out.2.1 1; have g2 := cell_of H10.out.2.1 2; have k0 := cell_of H10.out.2.2 0; have k1 := cell_of H10.out.2.2 1; have k2 := cell_of H10.out.2.2 2; clear hb10)
              | (refine wpList_store_row rfl 44 _ _ rfl K #[.int .i64 1, .int .i64 n0, .int .i64 e0] rfl rfl 44 _ H10.out.2.2 (ft_size _ _ _) (by rfl) (by kernel_rfl) ?_; rw [setRow_self _ _ _ _ _ H10.out.2.2]))
              go_ret
              exact ⟨rfl, (H5.out.1.trans (H8.out.1.mono H5.out.1.size)).trans (H10.out.1.mono (Nat.le_trans H5.out.1.size H8.out.1.size))⟩
end Go.Proofs.YthohnmplbjhjaaaGreatDoor

namespace Go.Proofs.YthohnmplbjhjaaaGreatDoor
open Go Go.RowKit Go.Shelf Go.Lib

def kn1 : List UInt8 := [118, 97, 114, 32, 120, 32, 48, 32, 51, 10, 118, 97, 114, 32, 121, 32, 45, 49, 32, 50, 10, 35, 32, 98, 111, 116, 104, 10, 108, 105, 110, 32, 60, 61, 32, 52, 32, 50, 32, 120, 32, 45, 49, 32, 121, 10, 110, 101, 32, 120, 32, 121, 32, 49, 10, 101, 108, 101, 109, 101, 110, 116, 32, 120, 32, 121, 32, 50, 32, 48, 10, 109, 97, 120, 32, 120, 32, 121, 32, 121, 10, 114, 101, 105, 102, 32, 120, 32, 60, 61, 32, 49, 32, 49, 32, 120, 32, 49, 32, 121, 10, 109, 105, 110, 105, 109, 105, 122, 101, 32, 51, 32, 120, 32, 45, 50, 32, 121]
def kn2 : List UInt8 := [118, 97, 114, 32, 120, 32, 48, 32, 51, 10, 118, 97, 114, 32, 121, 32, 45, 49, 32, 50, 10, 116, 97, 98, 108, 101, 32, 120, 32, 121, 32, 58, 32, 48, 32, 49, 32, 58, 32, 51, 32, 45, 49, 10, 99, 111, 117, 110, 116, 32, 61, 32, 50, 32, 45, 49, 32, 120, 32, 121, 32, 121, 10]
def knM1 : Md.Mo := ⟨[⟨⟨#[120]⟩, 0, 3⟩, ⟨⟨#[121]⟩, -1, 2⟩], [⟨1, 1, [(2, 0), (-1, 1)], 4, 0, 0, 0, [], [], []⟩, ⟨2, 0, [], 1, 0, 0, 1, [], [], []⟩, ⟨4, 0, [], 0, 0, 0, 1, [], [2, 0], []⟩, ⟨5, 0, [], 0, 0, 0, 0, [1, 1], [], []⟩, ⟨7, 0, [(1, 0), (1, 1)], 1, 0, 0, 0, [], [], []⟩], true, [(3, 0), (-2, 1)]⟩
def knM2 : Md.Mo := ⟨[⟨⟨#[120]⟩, 0, 3⟩, ⟨⟨#[121]⟩, -1, 2⟩], [⟨8, 0, [], 0, 0, 0, 0, [0, 1], [], [[0, 1], [3, -1]]⟩, ⟨9, 2, [], 2, -1, 0, 0, [0, 1, 1], [], []⟩], false, []⟩
def knHead : List UInt8 := [118, 97, 114, 32, 120, 32, 48, 32, 51, 10]
def knBad : List (List UInt8 × Int) := [([108, 105, 110, 32, 60, 32, 52, 32, 49, 32, 120], 51), ([108, 105, 110, 32, 60, 61, 32, 48, 52, 32, 49, 32, 120], 53), ([108, 105, 110, 32, 60, 61, 32, 52, 32, 49], 52), ([108, 105, 110, 32, 60, 61, 32, 52, 32, 48, 32, 120], 45), ([108, 105, 110, 32, 60, 61, 32, 52, 32, 49, 32, 122], 56), ([110, 101, 32, 120, 32, 120, 32, 48, 32, 48], 57), ([116, 97, 98, 108, 101, 32, 120, 32, 58, 32, 49, 32, 50], 51), ([116, 97, 98, 108, 101, 32, 120, 32, 120, 32, 58, 32, 49], 52), ([116, 97, 98, 108, 101, 32, 120], 52), ([99, 111, 117, 110, 116, 32, 61, 32, 49, 32, 50], 52), ([118, 97, 114, 32, 120, 32, 49, 32, 50], 55), ([118, 97, 114, 32, 121, 32, 51, 32, 50], 42)]
theorem kn_1 : parseT kn1 = (knM1, (0, 0)) := by kernel_rfl
theorem kn_2 : parseT kn2 = (knM2, (0, 0)) := by kernel_rfl
theorem kn_b0 : parseT (knHead ++ [108, 105, 110, 32, 60, 32, 52, 32, 49, 32, 120]) = (zm, (2, 51)) := by kernel_rfl
theorem kn_b1 : parseT (knHead ++ [108, 105, 110, 32, 60, 61, 32, 48, 52, 32, 49, 32, 120]) = (zm, (2, 53)) := by kernel_rfl
theorem kn_b2 : parseT (knHead ++ [108, 105, 110, 32, 60, 61, 32, 52, 32, 49]) = (zm, (2, 52)) := by kernel_rfl
theorem kn_b3 : parseT (knHead ++ [108, 105, 110, 32, 60, 61, 32, 52, 32, 48, 32, 120]) = (zm, (2, 45)) := by kernel_rfl
theorem kn_b4 : parseT (knHead ++ [108, 105, 110, 32, 60, 61, 32, 52, 32, 49, 32, 122]) = (zm, (2, 56)) := by kernel_rfl
theorem kn_b5 : parseT (knHead ++ [110, 101, 32, 120, 32, 120, 32, 48, 32, 48]) = (zm, (2, 57)) := by kernel_rfl
theorem kn_b6 : parseT (knHead ++ [116, 97, 98, 108, 101, 32, 120, 32, 58, 32, 49, 32, 50]) = (zm, (2, 51)) := by kernel_rfl
theorem kn_b7 : parseT (knHead ++ [116, 97, 98, 108, 101, 32, 120, 32, 120, 32, 58, 32, 49]) = (zm, (2, 52)) := by kernel_rfl
theorem kn_b8 : parseT (knHead ++ [116, 97, 98, 108, 101, 32, 120]) = (zm, (2, 52)) := by kernel_rfl
theorem kn_b9 : parseT (knHead ++ [99, 111, 117, 110, 116, 32, 61, 32, 49, 32, 50]) = (zm, (2, 52)) := by kernel_rfl
theorem kn_b10 : parseT (knHead ++ [118, 97, 114, 32, 120, 32, 49, 32, 50]) = (zm, (2, 55)) := by kernel_rfl
theorem kn_b11 : parseT (knHead ++ [118, 97, 114, 32, 121, 32, 51, 32, 50]) = (zm, (2, 42)) := by kernel_rfl
theorem kn_bad : ∀ i, i < 12 → parseT (knHead ++ (knBad.getD i ([], 0)).1) = (zm, (2, (knBad.getD i ([], 0)).2)) := by
  intro i h'
  rcases (by omega : i = 0 ∨ i = 1 ∨ i = 2 ∨ i = 3 ∨ i = 4 ∨ i = 5 ∨ i = 6 ∨ i = 7 ∨ i = 8 ∨ i = 9 ∨ i = 10 ∨ i = 11) with rfl | rfl | rfl | rfl | rfl | rfl | rfl | rfl | rfl | rfl | rfl | rfl
  · exact kn_b0
  · exact kn_b1
  · exact kn_b2
  · exact kn_b3
  · exact kn_b4
  · exact kn_b5
  · exact kn_b6
  · exact kn_b7
  · exact kn_b8
  · exact kn_b9
  · exact kn_b10
  · exact kn_b11
theorem kn_print : (Md.print knM1).2 = 0 ∧ 60 < (Md.print knM1).1.length ∧ (Md.print knM1).1.take 10 = knHead := ⟨by kernel_rfl, of_decide_eq_true (by kernel_rfl), by kernel_rfl⟩
end Go.Proofs.YthohnmplbjhjaaaGreatDoor
