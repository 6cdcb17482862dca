/-
  BranchScripts's walk.
-/
import Derived.Test.YtdfbmfikhccajaaDoorBrSw
namespace Go.Proofs.YtdfbmfikhccajaaDoor
open Go.RowKit

theorem nines (w : World) : SrcAt (w.alloc (.cells #[.int .i64 9, .int .i64 9] 3)) (.slice (some ⟨w.heap.size, 0, none⟩) 2 2) 2 1 [.int .i64 9, .int .i64 9] := (lit_ints (L := [9, 9]) (heap_alloc_new w (.cells #[.int .i64 9, .int .i64 9] 3)) rfl (by decide)).src
theorem lent_row {w : World} {B : Nat} {v : Value} {H : List Int} (h : w.ownsRow B 3 1 v (H.length + 2) (H.map (.int .i64) ++ [.int .i64 9, .int .i64 9])) : ∃ g lc cur, v = .slice (some ⟨g, 0, none⟩) (H.length + 2) lc ∧ B ≤ g ∧ w.heap[g]? = some (.cells cur 3 (0, 0)) ∧ H.length + 2 ≤ lc ∧ H.length + 2 ≤ cur.size ∧ w.cell? ⟨g, H.length, none⟩ = some (.int .i64 9) ∧ IntsAt w (.slice (some ⟨g, 0, none⟩) H.length lc) H := by
  obtain ⟨_, h2⟩ := h
  rcases h2 with ⟨_, h0⟩ | ⟨g, cap, cur, rfl, e2, e3, e4, e5, e6, e7⟩
  · omega
  · rw [Nat.mul_one] at e6 e7
    have hg := (Array.getElem?_eq_some_iff.1 e3).1
    have key : ∀ i, i < H.length + 2 → w.cell? ⟨g, i, none⟩ = (H.map (Value.int .i64) ++ [.int .i64 9, .int .i64 9])[i]? := fun i hi => by
      rw [cell_of e3]
      have : (cur.toList.take (H.length + 2))[i]? = (H.map (Value.int .i64) ++ [.int .i64 9, .int .i64 9])[i]? := by rw [e7]
      rw [List.getElem?_take, if_pos hi] at this
      simpa using this
    refine ⟨g, cap, cur, rfl, e2, e3, e4, by omega, ?_, ⟨_, _, rfl, by omega, fun _ => ⟨g, 0, rfl, hg, fun j hj => ?_⟩⟩⟩
    · rw [key _ (by omega), List.getElem?_append_right (by simp)]
      simp
    · rw [Nat.zero_add, key _ (by omega), List.getElem?_append_left (by simpa using hj)]
      simp [hj]
theorem lent_below {w w1 w2 w3 : World} {v : Value} {n : Nat} {xs : List Value} {o : Obj} (hb1 : Below w.heap.size w w1) (hb2 : Below w1.heap.size w1 w2) (hg : (w2.alloc o).grownBy w3 v.ownBlock) (ho : w2.ownsRow w1.heap.size 3 1 v n xs) : Below w.heap.size w w3 := by
  have h1 : Below w1.heap.size w1 (w2.alloc o) := hb2.trans ((Below.refl w2.heap.size w2).alloc (Nat.le_refl _) o |>.mono hb2.size)
  exact hb1.trans ((h1.grown hg h1.size (fun g hg => (ho.lt g hg).1)).mono hb1.size)
/-- The four, as they are made. -/
theorem four_of {w3 w4 w5 wr w8 w9 : World} {Oa Ob : Nat → Prop} {pa pb pr ps : Nat} {H G : List Int} (h1 : ScAt w3.heap.size Oa wr pa H) (h2 : ScAt w5.heap.size Ob wr pb G) (l4 : w3.heap.size ≤ w4.heap.size) (l5 : w4.heap.size ≤ w5.heap.size) (ha : ∀ k, Oa k → k < w4.heap.size) (h3 : RcAt wr.heap.size (fun k => wr.heap.size ≤ k ∧ k < w8.heap.size) w8 pr H 0) (b3 : Below wr.heap.size wr w8) (h4 : RcAt w8.heap.size (fun k => w8.heap.size ≤ k ∧ k < w9.heap.size) w9 ps G 0) (b4 : Below w8.heap.size w8 w9) : Fo w3.heap.size w9 pa pb pr ps H G H G 0 0 := by
  have a1 := h1.lt pa h1.op
  have a2 := h2.lt pb h2.op
  have a3 := ha pa h1.op
  have a4 := h2.lo pb h2.op
  have a5 := h3.op
  have a6 := h4.op
  have b1 := b3.size
  have b2 := b4.size
  refine ⟨Oa, Ob, _, _, (h1.below b3).below b4, { (h2.below b3).below b4 with lo := fun k hk => by have := h2.lo k hk; omega }, { h3.below b4 with lo := fun k hk => by have := h3.lo k hk; omega }, { h4 with lo := fun k hk => by have := h4.lo k hk; omega }, ⟨fun e => ?_, fun e => ?_, fun e => ?_⟩, ⟨fun e => ?_, fun e => ?_, fun e => ?_⟩, ⟨fun e => ?_, fun e => ?_, fun e => ?_⟩, ⟨fun e => ?_, fun e => ?_, fun e => ?_⟩⟩
  · have := h2.lo pa e; omega
  · omega
  · omega
  · have := ha pb e; omega
  · omega
  · omega
  · have := h1.lt pr e; omega
  · have := h2.lt pr e; omega
  · omega
  · have := h1.lt ps e; omega
  · have := h2.lt ps e; omega
  · omega
set_option maxRecDepth 10000 in
set_option maxHeartbeats 4000000 in
theorem branchScripts_walk (ha ga : Option Addr) (hc gc : Nat) (H G : List Int) (asks : Int) (w : World) (hH : IntsAt w (.slice ha H.length hc) H) (hG : IntsAt w (.slice ga G.length gc) G) (hT : Tz w) (hs : 0 < w.heap.size) : Calls Tryd.prog 3 #[.slice ha H.length hc, .slice ga G.length gc, .int .i64 asks] w fun e w' => e = .returned (.bool true) ∧ Below w.heap.size w w' := by
  have HK : Hid (Calls Tryd.prog 4 #[] w fun e w' => e = .returned (.bool true) ∧ Below w.heap.size w w') := known_any w hT hs
  have HIH : Hid (∀ w', Below w.heap.size w w' → IntsAt w' (.slice ha H.length hc) H) := fun w' hb => hH.below hb
  have HIG : Hid (∀ w', Below w.heap.size w w' → IntsAt w' (.slice ga G.length gc) G) := fun w' hb => hG.below hb
  clear hH hG hT
  by_cases h1 : H.length ≤ 65536
  · by_cases h2 : G.length ≤ 65536
    · by_cases h3 : 0 ≤ asks ∧ asks ≤ 300
      · have i1 : (H.length : Int) ≤ 65536 := by omega
        have i2 : (G.length : Int) ≤ 65536 := by omega
        obtain ⟨i3, i4⟩ := h3
        go_enter Tryd.func3, Tryd.ntmps3
        go_wp2_with fail
        refine calls_at HK.out (by with_reducible rfl) (by with_reducible rfl) ?_
        rintro e w1 ⟨rfl, hb1⟩
        have HB1 : Hid (Below w.heap.size w w1) := hb1
        have HS1 : Hid (SrcAt w1 (.slice ha H.length hc) H.length 1 (H.map (.int .i64))) := (HIH.out w1 hb1).src
        clear hb1
        go_wp2_with (first
          | (at_builtin; refine append_src w1 rfl (.const (.slice none 0 0)) (.tmp 34) 22 3 (.int .i64 0) 1 8 rfl un38s info3s rfl (by decide) w1.heap.size _ _ 0 H.length [] _ (by rfl) (by rfl) (World.ownsRow_nil _ _ _ _) HS1.out (by unfold maxLen; omega) (by omega) (Nat.le_refl _) ?_; intro v2 w2 ho2 hg2 hn2; rw [Nat.zero_add, List.nil_append] at ho2; obtain ⟨ua, uc, rfl⟩ := own_form ho2; have HO2 : Hid (w2.ownsRow w1.heap.size 3 1 (.slice ua H.length uc) H.length (H.map (.int .i64))) := ho2; have HB2 : Hid (Below w1.heap.size w1 w2) := (Below.refl _ _).grown hg2 (Nat.le_refl _) (fun g hg => by simp [Value.ownBlock] at hg); clear ho2 hg2 hn2)
          | (at_builtin; refine append_src (w2.alloc (.cells #[.int .i64 9, .int .i64 9] 3)) rfl (.tmp 35) (.tmp 36) 22 3 (.int .i64 0) 1 8 rfl un38s info3s rfl (by decide) w1.heap.size _ _ H.length 2 (H.map (.int .i64)) [.int .i64 9, .int .i64 9] (by rfl) (by rfl) (own_below HO2.out ((Below.refl _ _).alloc (Nat.le_refl _) _)) (nines w2) (by unfold maxLen; omega) (by omega) (Nat.le_trans HB2.out.size (by simp)) ?_; intro v3 w3 ho3 hg3 hn3; obtain ⟨g, lc, cur, rfl, k1, k2, k3, k4, k5, k6⟩ := lent_row ho3; have HL3 : Hid (w1.heap.size ≤ g ∧ w3.heap[g]? = some (.cells cur 3 (0, 0)) ∧ H.length + 2 ≤ cur.size ∧ w3.cell? ⟨g, H.length, none⟩ = some (.int .i64 9) ∧ IntsAt w3 (.slice (some ⟨g, 0, none⟩) H.length lc) H) := ⟨k1, k2, k4, k5, k6⟩; (have hlcI : (H.length : Int) ≤ (lc : Int) := by omega); have HB3 : Hid (Below w.heap.size w w3) := lent_below HB1.out HB2.out hg3 HO2.out; clear k1 k2 k4 k5 k6 ho3 hg3 hn3 HO2))
        have HA4 : Hid (Calls Tryd.prog 5 #[.slice (some ⟨g, 0, none⟩) H.length lc] w3 (ScOut H w3)) := scNew_any _ H w3 HL3.out.2.2.2.2 (by omega)
        refine calls_at HA4.out (by with_reducible rfl) (by with_reducible rfl) ?_
        rintro e w4 ⟨pa, Oa, rfl, hS4, hb4⟩
        have HS4 : Hid (ScAt w3.heap.size Oa w4 pa H) := hS4
        have HL4 : Hid (Below w3.heap.size w3 w4) := hb4
        have HSG : Hid (SrcAt w4 (.slice ga G.length gc) G.length 1 (G.map (.int .i64))) := (HIG.out w4 (HB3.out.trans (hb4.mono HB3.out.size))).src
        clear hS4 hb4
        go_wp2_with (first
          | (at_builtin; refine append_src w4 rfl (.const (.slice none 0 0)) (.tmp 43) 22 3 (.int .i64 0) 1 8 rfl un38s info3s rfl (by decide) w4.heap.size _ _ 0 G.length [] _ (by rfl) (by rfl) (World.ownsRow_nil _ _ _ _) HSG.out (by unfold maxLen; omega) (by omega) (Nat.le_refl _) ?_; intro v5 w5 ho5 hg5 hn5; rw [Nat.zero_add, List.nil_append] at ho5; obtain ⟨ub, ubc, rfl⟩ := own_form ho5; have HO5 : Hid (w5.ownsRow w4.heap.size 3 1 (.slice ub G.length ubc) G.length (G.map (.int .i64))) := ho5; have HB5 : Hid (Below w4.heap.size w4 w5) := (Below.refl _ _).grown hg5 (Nat.le_refl _) (fun g hg => by simp [Value.ownBlock] at hg); clear ho5 hg5 hn5))
        have HA6 : Hid (Calls Tryd.prog 5 #[.slice ub G.length ubc] w5 (ScOut G w5)) := scNew_any _ G w5 (own_ints HO5.out (by unfold maxLen; omega)) (by omega)
        refine calls_at HA6.out (by with_reducible rfl) (by with_reducible rfl) ?_
        rintro e w6 ⟨pb, Ob, rfl, hS6, hb6⟩
        have HS6 : Hid (ScAt w5.heap.size Ob w6 pb G) := hS6
        have HL6 : Hid (Below w3.heap.size w3 w6) := bl_next (bl_next HL4.out HB5.out) hb6
        have HSa : Hid (ScAt w3.heap.size Oa w6 pa H) := (HS4.out.below HB5.out).below hb6
        have HB6 : Hid (Below w.heap.size w w6) := HB3.out.trans (HL6.out.mono HB3.out.size)
        have hg3 : g < w3.heap.size := (Array.getElem?_eq_some_iff.1 HL3.out.2.1).1
        have HG6 : Hid (w6.heap[g]? = some (.cells cur 3 (0, 0))) := (HL6.out.block g hg3).trans HL3.out.2.1
        have c6 : w6.cell? ⟨g, H.length, none⟩ = some (.int .i64 9) := (HL6.out.cell (p := ⟨g, H.length, none⟩) hg3).trans HL3.out.2.2.2.1
        have hli : (H.length : Int) < ((H.length + 2 : Nat) : Int) := by omega
        clear hS6 hb6
        go_wp2_with fail
        go_loopw [10] (fun iv wr => ∃ q : Nat, iv = .int .i64 (q : Int) ∧ q ≤ H.length + 2 ∧ Hid (∃ cu, wr.heap[g]? = some (.cells cu 3 (0, 0)) ∧ H.length + 2 ≤ cu.size) ∧ Hid (Off (fun k => k = g) w6 wr ∧ Below w1.heap.size w6 wr)) (fun iv _ => H.length + 2 - (intOf iv).toNat)
        case atStart => exact ⟨0, rfl, Nat.zero_le _, ⟨cur, HG6.out, HL3.out.2.2.1⟩, Off.refl _ _, Below.refl _ _⟩
        case round =>
          obtain ⟨q, rfl, hq, HCr, HFr⟩ := hrel
          by_cases hqn : q < H.length + 2
          · have hqI : (q : Int) < ((H.length + 2 : Nat) : Int) := by omega
            obtain ⟨cu, hcu, hcz⟩ := HCr.out
            have x0 : wr.cell? ⟨g, q, none⟩ = some (cu[q]'(by omega)) := by rw [cell_of hcu]; simp
            have z0 : ∀ i, wr.frozen? ⟨g, i, none⟩ = false := frozen_of hcu
            have HN : Hid (∃ cu', (wr.setCell ⟨g, q, none⟩ (.int .i64 77)).heap[g]? = some (.cells cu' 3 (0, 0)) ∧ H.length + 2 ≤ cu'.size) := ⟨_, heap_setCell_same wr g q _ 3 _ hcu, by simpa using hcz⟩
            have HF : Hid (Off (fun k => k = g) w6 (wr.setCell ⟨g, q, none⟩ (.int .i64 77)) ∧ Below w1.heap.size w6 (wr.setCell ⟨g, q, none⟩ (.int .i64 77))) := ⟨HFr.out.1.trans (Off.set _ rfl), HFr.out.2.setCell HL3.out.1 _⟩
            obtain ⟨cq, hcq⟩ : ∃ z, cu[q]'(by omega) = z := ⟨_, rfl⟩
            rw [hcq] at x0
            clear hcu hcz hcq
            go_wp2_with fail
            go_roundw
            case rel => exact ⟨q + 1, by go_num, hqn, HN, HF⟩
            case measure => simp [intOf]; omega
          · have hqI : ¬ (q : Int) < ((H.length + 2 : Nat) : Int) := by omega
            have HB7 : Hid (Below w.heap.size w wr) := HB6.out.trans (HFr.out.2.mono HB1.out.size)
            have HSa7 : Hid (ScAt w3.heap.size Oa wr pa H) := HSa.out.keep HFr.out.1.size fun j hj => HFr.out.1.block j (HSa.out.lt j hj) fun e => by have := HSa.out.lo j hj; omega
            have HSb7 : Hid (ScAt w5.heap.size Ob wr pb G) := HS6.out.keep HFr.out.1.size fun j hj => HFr.out.1.block j (HS6.out.lt j hj) fun e => by
              have h1 := HS6.out.lo j hj
              have h2 := HL4.out.size
              have h3 := HB5.out.size
              omega
            have HR7 : Hid (Calls Tryd.prog 6 #[.slice ha H.length hc] wr (RcOut H wr)) := rcNew_any _ H wr (HIH.out wr HB7.out) (by omega)
            clear HCr
            go_wp2_with fail
            refine calls_at HR7.out (by with_reducible rfl) (by with_reducible rfl) ?_
            rintro e w8 ⟨pr, rfl, hR8, hb8⟩
            have HR8 : Hid (RcAt wr.heap.size (fun k => wr.heap.size ≤ k ∧ k < w8.heap.size) w8 pr H 0 ∧ Below wr.heap.size wr w8) := ⟨hR8, hb8⟩
            have HB8 : Hid (Below w.heap.size w w8) := bl_next HB7.out hb8
            have HR9 : Hid (Calls Tryd.prog 6 #[.slice ga G.length gc] w8 (RcOut G w8)) := rcNew_any _ G w8 (HIG.out w8 HB8.out) (by omega)
            clear hR8 hb8
            go_wp2_with fail
            refine calls_at HR9.out (by with_reducible rfl) (by with_reducible rfl) ?_
            rintro e w9 ⟨ps, rfl, hR9, hb9⟩
            have HB9 : Hid (Below w.heap.size w w9) := bl_next HB8.out hb9
            have HF9 : Hid (Fo w3.heap.size w9 pa pb pr ps H G H G 0 0) := four_of HSa7.out HSb7.out HL4.out.size HB5.out.size HS4.out.lt HR8.out.1 HR8.out.2 hR9 hb9
            clear hR9 hb9
            go_wp2_with fail
            go_loopw [13] (fun iv wq => ∃ i k l : Nat, iv = .int .i64 (i : Int) ∧ (i : Int) ≤ asks ∧ Hid (Fo w3.heap.size wq pa pb pr ps (H.drop k) (G.drop l) H G k l) ∧ k ≤ H.length ∧ l ≤ G.length ∧ Hid (Below w.heap.size w wq)) (fun iv _ => asks.toNat - (intOf iv).toNat)
            case atStart => exact ⟨0, 0, 0, rfl, i3, HF9, Nat.zero_le _, Nat.zero_le _, HB9⟩
            case round =>
              obtain ⟨i, k, l, rfl, hi, HFq, hk, hl, HBq⟩ := hrel
              by_cases hin : (i : Int) < asks
              · have HN10 : Hid (Calls Tryd.prog 7 #[.pointer (some ⟨pa, 0, none⟩)] wr fun e w' => e = .returned (.int .i64 (H.getD k 0)) ∧ Fo w3.heap.size w' pa pb pr ps (H.drop (nxt H k)) (G.drop l) H G k l ∧ Below w3.heap.size wr w') := by
                  have := HFq.out.nextA
                  rw [(drop_nxt H k hk).1, (drop_nxt H k hk).2] at this
                  exact this
                obtain ⟨v0, hv0⟩ : ∃ v, H.getD k 0 = v := ⟨_, rfl⟩
                rw [hv0] at HN10
                have hk1 := nxt_le hk
                have hk2 := nxt_le hk
                have hl1 := hl
                have hl2 := nxt_le hl
                go_wp2_with fail
                refine calls_at HN10.out (by with_reducible rfl) (by with_reducible rfl) ?_
                rintro e w10 ⟨rfl, hF10, hb10⟩
                have HN11 : Hid (Calls Tryd.prog 8 #[.pointer (some ⟨pr, 0, none⟩)] w10 fun e w' => e = .returned (.int .i64 v0) ∧ Fo w3.heap.size w' pa pb pr ps (H.drop (nxt H k)) (G.drop l) H G (nxt H k) l ∧ Below w3.heap.size w10 w') := by
                  have := hF10.nextR
                  rw [hv0] at this
                  exact this
                have HBx10 : Hid (Below w.heap.size w w10) := HBq.out.trans (hb10.mono HB3.out.size)
                clear hF10 hb10 hv0
                go_wp2_with fail
                refine calls_at HN11.out (by with_reducible rfl) (by with_reducible rfl) ?_
                rintro e w11 ⟨rfl, hF11, hb11⟩
                have HF11 : Hid (Fo w3.heap.size w11 pa pb pr ps (H.drop (nxt H k)) (G.drop l) H G (nxt H k) l) := hF11
                have HBx11 : Hid (Below w.heap.size w w11) := HBx10.out.trans (hb11.mono HB3.out.size)
                clear hF11 hb11
                by_cases h2 : (i : Int) % 2 = 0
                · have h2b : ((i : Int) % 2 == 0) = true := by simpa using h2
                  have HN12 : Hid (Calls Tryd.prog 7 #[.pointer (some ⟨pb, 0, none⟩)] w11 fun e w' => e = .returned (.int .i64 (G.getD l 0)) ∧ Fo w3.heap.size w' pa pb pr ps (H.drop (nxt H k)) (G.drop (nxt G l)) H G (nxt H k) l ∧ Below w3.heap.size w11 w') := by
                    have := HF11.out.nextB
                    rw [(drop_nxt G l hl).1, (drop_nxt G l hl).2] at this
                    exact this
                  obtain ⟨u0, hu0⟩ : ∃ v, G.getD l 0 = v := ⟨_, rfl⟩
                  rw [hu0] at HN12
                  go_wp2_with fail
                  refine calls_at HN12.out (by with_reducible rfl) (by with_reducible rfl) ?_
                  rintro e w12 ⟨rfl, hF12, hb12⟩
                  have HN13 : Hid (Calls Tryd.prog 8 #[.pointer (some ⟨ps, 0, none⟩)] w12 fun e w' => e = .returned (.int .i64 u0) ∧ Fo w3.heap.size w' pa pb pr ps (H.drop (nxt H k)) (G.drop (nxt G l)) H G (nxt H k) (nxt G l) ∧ Below w3.heap.size w12 w') := by
                    have := hF12.nextS
                    rw [hu0] at this
                    exact this
                  have HBx12 : Hid (Below w.heap.size w w12) := HBx11.out.trans (hb12.mono HB3.out.size)
                  clear hF12 hb12 hu0
                  go_wp2_with fail
                  refine calls_at HN13.out (by with_reducible rfl) (by with_reducible rfl) ?_
                  rintro e w13 ⟨rfl, hF13, hb13⟩
                  have HF13 : Hid (Fo w3.heap.size w13 pa pb pr ps (H.drop (nxt H k)) (G.drop (nxt G l)) H G (nxt H k) (nxt G l)) := hF13
                  have HBx13 : Hid (Below w.heap.size w w13) := HBx12.out.trans (hb13.mono HB3.out.size)
                  clear hF13 hb13
                  by_cases h5 : (i : Int) % 5 = 3
                  · have h5b : ((i : Int) % 5 == 3) = true := by simpa using h5
                    have HCp : Hid (Calls Tryd.prog 9 #[.pointer (some ⟨pa, 0, none⟩)] w13 (ScOut (H.drop (nxt H k)) w13)) := HF13.out.copyA
                    go_wp2_with fail
                    refine calls_at HCp.out (by with_reducible rfl) (by with_reducible rfl) ?_
                    rintro e w20 ⟨pc, Oc, rfl, hc20, hb20⟩
                    have HL20 : Hid (Below w13.heap.size w13 w20) := hb20
                    have HCr : Hid (Calls Tryd.prog 10 #[.pointer (some ⟨pr, 0, none⟩)] w20 fun e w2 => ∃ pd, e = .returned (.pointer (some ⟨pd, 0, none⟩)) ∧ Cd w13.heap.size w2 pc pd (H.drop (nxt H k)) H (nxt H k) ∧ Below w20.heap.size w20 w2) := HF13.out.copyR hc20 hb20
                    clear hc20 hb20
                    go_wp2_with fail
                    refine calls_at HCr.out (by with_reducible rfl) (by with_reducible rfl) ?_
                    rintro e w21 ⟨pd, rfl, hc21, hb21⟩
                    have HL21 : Hid (Below w13.heap.size w13 w21) := bl_next HL20.out hb21
                    have HC21 : Hid (Cd w13.heap.size w21 pc pd (H.drop (nxt H k)) H (nxt H k)) := hc21
                    have HN21 : Hid (Calls Tryd.prog 7 #[.pointer (some ⟨pc, 0, none⟩)] w21 fun e w' => e = .returned (.int .i64 (H.getD (nxt H k) 0)) ∧ Cd w13.heap.size w' pc pd (H.drop (nxt H (nxt H k))) H (nxt H k) ∧ Below w13.heap.size w21 w') := by
                      have := hc21.nextC
                      rw [(drop_nxt H (nxt H k) hk2).1, (drop_nxt H (nxt H k) hk2).2] at this
                      exact this
                    obtain ⟨v1, hv1⟩ : ∃ v, H.getD (nxt H k) 0 = v := ⟨_, rfl⟩
                    rw [hv1] at HN21
                    clear hc21 hb21
                    go_wp2_with fail
                    refine calls_at HN21.out (by with_reducible rfl) (by with_reducible rfl) ?_
                    rintro e w22 ⟨rfl, hc22, hb22⟩
                    have HL22 : Hid (Below w13.heap.size w13 w22) := HL21.out.trans hb22
                    have HN22 : Hid (Calls Tryd.prog 8 #[.pointer (some ⟨pd, 0, none⟩)] w22 fun e w' => e = .returned (.int .i64 v1) ∧ Cd w13.heap.size w' pc pd (H.drop (nxt H (nxt H k))) H (nxt H (nxt H k)) ∧ Below w13.heap.size w22 w') := by
                      have := hc22.nextD
                      rw [hv1] at this
                      exact this
                    clear hc22 hb22 hv1
                    go_wp2_with fail
                    refine calls_at HN22.out (by with_reducible rfl) (by with_reducible rfl) ?_
                    rintro e w23 ⟨rfl, hc23, hb23⟩
                    have HL23 : Hid (Below w13.heap.size w13 w23) := HL22.out.trans hb23
                    have HN23 : Hid (Calls Tryd.prog 7 #[.pointer (some ⟨pc, 0, none⟩)] w23 fun e w' => e = .returned (.int .i64 (H.getD (nxt H (nxt H k)) 0)) ∧ Cd w13.heap.size w' pc pd (H.drop (nxt H (nxt H k))).tail H (nxt H (nxt H k)) ∧ Below w13.heap.size w23 w') := by
                      have := hc23.nextC
                      rw [(drop_nxt H (nxt H (nxt H k)) (nxt_le hk2)).2] at this
                      exact this
                    obtain ⟨v2, hv2⟩ : ∃ v, H.getD (nxt H (nxt H k)) 0 = v := ⟨_, rfl⟩
                    rw [hv2] at HN23
                    clear hc23 hb23
                    go_wp2_with fail
                    refine calls_at HN23.out (by with_reducible rfl) (by with_reducible rfl) ?_
                    rintro e w24 ⟨rfl, hc24, hb24⟩
                    have HL24 : Hid (Below w13.heap.size w13 w24) := HL23.out.trans hb24
                    have HN24 : Hid (Calls Tryd.prog 8 #[.pointer (some ⟨pd, 0, none⟩)] w24 fun e w' => e = .returned (.int .i64 v2) ∧ Below w13.heap.size w24 w') := hc24.nextD.mono fun e w' hq => by
                      rw [hv2] at hq
                      exact ⟨hq.1, hq.2.2⟩
                    clear hc24 hb24 hv2
                    go_wp2_with fail
                    refine calls_at HN24.out (by with_reducible rfl) (by with_reducible rfl) ?_
                    rintro e w25 ⟨rfl, hb25⟩
                    have HL25 : Hid (Below w13.heap.size w13 w25) := HL24.out.trans hb25
                    clear hb25
                    go_wp2_with fail
                    go_roundw
                    case rel => exact ⟨i + 1, nxt H k, nxt G l, by go_num, by omega, HF13.out.below HL25.out, hk2, hl2, bl_next HBx13.out HL25.out⟩
                    case measure => simp [intOf]; omega
                  · have h5b : ((i : Int) % 5 == 3) = false := by simpa using h5
                    go_wp2_with fail
                    go_roundw
                    case rel => exact ⟨i + 1, nxt H k, nxt G l, by go_num, by omega, HF13.out, hk2, hl2, HBx13.out⟩
                    case measure => simp [intOf]; omega
                · have h2b : ((i : Int) % 2 == 0) = false := by simpa using h2
                  by_cases h5 : (i : Int) % 5 = 3
                  · have h5b : ((i : Int) % 5 == 3) = true := by simpa using h5
                    have HCp : Hid (Calls Tryd.prog 9 #[.pointer (some ⟨pa, 0, none⟩)] w11 (ScOut (H.drop (nxt H k)) w11)) := HF11.out.copyA
                    go_wp2_with fail
                    refine calls_at HCp.out (by with_reducible rfl) (by with_reducible rfl) ?_
                    rintro e w20 ⟨pc, Oc, rfl, hc20, hb20⟩
                    have HL20 : Hid (Below w11.heap.size w11 w20) := hb20
                    have HCr : Hid (Calls Tryd.prog 10 #[.pointer (some ⟨pr, 0, none⟩)] w20 fun e w2 => ∃ pd, e = .returned (.pointer (some ⟨pd, 0, none⟩)) ∧ Cd w11.heap.size w2 pc pd (H.drop (nxt H k)) H (nxt H k) ∧ Below w20.heap.size w20 w2) := HF11.out.copyR hc20 hb20
                    clear hc20 hb20
                    go_wp2_with fail
                    refine calls_at HCr.out (by with_reducible rfl) (by with_reducible rfl) ?_
                    rintro e w21 ⟨pd, rfl, hc21, hb21⟩
                    have HL21 : Hid (Below w11.heap.size w11 w21) := bl_next HL20.out hb21
                    have HC21 : Hid (Cd w11.heap.size w21 pc pd (H.drop (nxt H k)) H (nxt H k)) := hc21
                    have HN21 : Hid (Calls Tryd.prog 7 #[.pointer (some ⟨pc, 0, none⟩)] w21 fun e w' => e = .returned (.int .i64 (H.getD (nxt H k) 0)) ∧ Cd w11.heap.size w' pc pd (H.drop (nxt H (nxt H k))) H (nxt H k) ∧ Below w11.heap.size w21 w') := by
                      have := hc21.nextC
                      rw [(drop_nxt H (nxt H k) hk1).1, (drop_nxt H (nxt H k) hk1).2] at this
                      exact this
                    obtain ⟨v1, hv1⟩ : ∃ v, H.getD (nxt H k) 0 = v := ⟨_, rfl⟩
                    rw [hv1] at HN21
                    clear hc21 hb21
                    go_wp2_with fail
                    refine calls_at HN21.out (by with_reducible rfl) (by with_reducible rfl) ?_
                    rintro e w22 ⟨rfl, hc22, hb22⟩
                    have HL22 : Hid (Below w11.heap.size w11 w22) := HL21.out.trans hb22
                    have HN22 : Hid (Calls Tryd.prog 8 #[.pointer (some ⟨pd, 0, none⟩)] w22 fun e w' => e = .returned (.int .i64 v1) ∧ Cd w11.heap.size w' pc pd (H.drop (nxt H (nxt H k))) H (nxt H (nxt H k)) ∧ Below w11.heap.size w22 w') := by
                      have := hc22.nextD
                      rw [hv1] at this
                      exact this
                    clear hc22 hb22 hv1
                    go_wp2_with fail
                    refine calls_at HN22.out (by with_reducible rfl) (by with_reducible rfl) ?_
                    rintro e w23 ⟨rfl, hc23, hb23⟩
                    have HL23 : Hid (Below w11.heap.size w11 w23) := HL22.out.trans hb23
                    have HN23 : Hid (Calls Tryd.prog 7 #[.pointer (some ⟨pc, 0, none⟩)] w23 fun e w' => e = .returned (.int .i64 (H.getD (nxt H (nxt H k)) 0)) ∧ Cd w11.heap.size w' pc pd (H.drop (nxt H (nxt H k))).tail H (nxt H (nxt H k)) ∧ Below w11.heap.size w23 w') := by
                      have := hc23.nextC
                      rw [(drop_nxt H (nxt H (nxt H k)) (nxt_le hk1)).2] at this
                      exact this
                    obtain ⟨v2, hv2⟩ : ∃ v, H.getD (nxt H (nxt H k)) 0 = v := ⟨_, rfl⟩
                    rw [hv2] at HN23
                    clear hc23 hb23
                    go_wp2_with fail
                    refine calls_at HN23.out (by with_reducible rfl) (by with_reducible rfl) ?_
                    rintro e w24 ⟨rfl, hc24, hb24⟩
                    have HL24 : Hid (Below w11.heap.size w11 w24) := HL23.out.trans hb24
                    have HN24 : Hid (Calls Tryd.prog 8 #[.pointer (some ⟨pd, 0, none⟩)] w24 fun e w' => e = .returned (.int .i64 v2) ∧ Below w11.heap.size w24 w') := hc24.nextD.mono fun e w' hq => by
                      rw [hv2] at hq
                      exact ⟨hq.1, hq.2.2⟩
                    clear hc24 hb24 hv2
                    go_wp2_with fail
                    refine calls_at HN24.out (by with_reducible rfl) (by with_reducible rfl) ?_
                    rintro e w25 ⟨rfl, hb25⟩
                    have HL25 : Hid (Below w11.heap.size w11 w25) := HL24.out.trans hb25
                    clear hb25
                    go_wp2_with fail
                    go_roundw
                    case rel => exact ⟨i + 1, nxt H k, l, by go_num, by omega, HF11.out.below HL25.out, hk1, hl1, bl_next HBx11.out HL25.out⟩
                    case measure => simp [intOf]; omega
                  · have h5b : ((i : Int) % 5 == 3) = false := by simpa using h5
                    go_wp2_with fail
                    go_roundw
                    case rel => exact ⟨i + 1, nxt H k, l, by go_num, by omega, HF11.out, hk1, hl1, HBx11.out⟩
                    case measure => simp [intOf]; omega
              · have hin2 : ¬ (i : Int) < asks := hin
                go_wp2_with fail
                go_ret
                exact ⟨rfl, HBq.out⟩
      · have i1 : (H.length : Int) ≤ 65536 := by omega
        have i2 : (G.length : Int) ≤ 65536 := by omega
        have h4 : asks < 0 ∨ (0 ≤ asks ∧ 300 < asks) := by omega
        clear h3
        rcases h4 with i3 | ⟨i3, i4⟩
        · clear h1 h2
          go_enter Tryd.func3, Tryd.ntmps3
          go_wp2_with fail
          refine calls_at HK.out (by with_reducible rfl) (by with_reducible rfl) ?_
          rintro e w1 ⟨rfl, hb1⟩
          have HB1 : Hid (Below w.heap.size w w1) := hb1
          clear hb1
          go_wp2_with fail
          all_goals
            go_ret
            exact ⟨rfl, HB1.out⟩
        · clear h1 h2
          go_enter Tryd.func3, Tryd.ntmps3
          go_wp2_with fail
          refine calls_at HK.out (by with_reducible rfl) (by with_reducible rfl) ?_
          rintro e w1 ⟨rfl, hb1⟩
          have HB1 : Hid (Below w.heap.size w w1) := hb1
          clear hb1
          go_wp2_with fail
          all_goals
            go_ret
            exact ⟨rfl, HB1.out⟩
    · have i1 : (H.length : Int) ≤ 65536 := by omega
      have i2 : 65536 < (G.length : Int) := by omega
      go_enter Tryd.func3, Tryd.ntmps3
      go_wp2_with fail
      refine calls_at HK.out (by with_reducible rfl) (by with_reducible rfl) ?_
      rintro e w1 ⟨rfl, hb1⟩
      have HB1 : Hid (Below w.heap.size w w1) := hb1
      clear hb1
      go_wp2_with fail
      all_goals
        go_ret
        exact ⟨rfl, HB1.out⟩
  · have i1 : 65536 < (H.length : Int) := by omega
    go_enter Tryd.func3, Tryd.ntmps3
    go_wp2_with fail
    refine calls_at HK.out (by with_reducible rfl) (by with_reducible rfl) ?_
    rintro e w1 ⟨rfl, hb1⟩
    have HB1 : Hid (Below w.heap.size w w1) := hb1
    clear hb1
    go_wp2_with fail
    all_goals
      go_ret
      exact ⟨rfl, HB1.out⟩
end Go.Proofs.YtdfbmfikhccajaaDoor
