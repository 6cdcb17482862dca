/-
  Package proof: ProofBack's walk.
-/
import Derived.Test.YtibbnijicdijnaaGreatDoorJ48
import Derived.Test.YtibbnijicdijnaaGreatDoorJ46
import Derived.Test.YtibbnijicdijnaaGreatDoorJ47
namespace Go.Proofs.YtibbnijicdijnaaGreatDoor
open Go.RowKit

theorem wt_count (ds : List SL) : ds.length ≤ wtS ds := by
  induction ds with
  | nil => simp
  | cons d ds ih =>
    have h3 : 4 ≤ stW d := by unfold stW; omega
    have e : wtS (d :: ds) = stW d + wtS ds := by simp [wtS]
    rw [e, List.length_cons]
    omega
theorem ok_right {d : SL} (h : parseP (lnT d) = (d, 0)) : ∃ L, Rgt L d := by
  have h1 : er (lnT d) = 0 := by show (parseP (lnT d)).2 = 0; rw [h]
  have h2 : gd (lnT d) = d := by show (parseP (lnT d)).1 = d; rw [h]
  obtain ⟨L, hL, _⟩ := er_right h1
  rw [h2] at hL
  exact ⟨L, hL⟩

set_option maxRecDepth 20000 in
set_option maxHeartbeats 4000000 in
theorem back_any (ds : List SL) (v : Value) (w : World) (hS : StsR w v ds) (hI : ∀ d ∈ ds, SlI d) (hM : ∀ d ∈ ds, SlM d) (hg : Gl w) (h12 : 12 ≤ w.heap.size) : Calls Tryz.prog 3 #[v] w fun e w' => e = .returned (.bool true) ∧ Below w.heap.size w w' := by
  obtain ⟨a, c, rfl, hn, _⟩ := id hS
  have HS : Hid (StsR w (.slice a ds.length c) ds) := hS
  have HI : Hid (∀ d ∈ ds, SlI d) := hI
  have HKn : Hid (Calls Tryz.prog 7 #[] w fun e w' => e = .returned (.bool true) ∧ Below w.heap.size w w') := known_any w hg h12
  have HG : Hid (∀ w', Below w.heap.size w w' → Gl w' ∧ 12 ≤ w'.heap.size) := fun w' hb => ⟨hg.to hb h12, Nat.le_trans h12 hb.size⟩
  have HNum : Hid (∀ n w', Calls Tryz.prog 14 #[.int .i64 n] w' fun e w2 => e = .returned (.int .i64 n) ∧ w2 = w') := num_any
  have HCt : Hid (∀ w0, Below w.heap.size w w0 → Calls Tryz.prog 9 #[.pointer (some ⟨w0.heap.size, 0, none⟩), .slice a ds.length c] (w0.alloc (.cells #[.int .i64 200000] 86)) fun e w' => e = .returned (.tuple #[]) ∧ CtO w0.heap.size w0.heap.size 200000 (wtS ds) (w0.alloc (.cells #[.int .i64 200000] 86)) w') := fun w0 hb => csteps_any w0 ds _ (hS.below hb) hM 200000 _ ⟨heap_alloc_new w0 _, by omega, by omega⟩ (Nat.le_refl _) ((Below.refl _ _).alloc (Nat.le_refl _) _)
  clear hS hI hM hg h12
  go_enter Tryz.func3, Tryz.ntmps3
  go_wp2_with fail
  refine calls_at HKn.out (by with_reducible rfl) (by with_reducible rfl) ?_
  rintro e w0 ⟨rfl, hb0⟩
  have HB0 : Hid (Below w.heap.size w w0) := hb0
  clear hb0 HKn
  go_wp2_with fail
  refine calls_at (many_any w0) (by with_reducible rfl) (by with_reducible rfl) ?_
  rintro e w1 ⟨rfl, hw1⟩
  have HCs : Hid (Calls Tryz.prog 9 #[.pointer (some ⟨w0.heap.size, 0, none⟩), .slice a ds.length c] w1 fun e w' => e = .returned (.tuple #[]) ∧ CtO w0.heap.size w0.heap.size 200000 (wtS ds) w1 w') := by rw [hw1]; exact HCt.out w0 HB0.out
  have HB1 : Hid (Below w0.heap.size w0 w1) := by rw [hw1]; exact (Below.refl _ _).alloc (Nat.le_refl _) _
  clear hw1 HCt
  go_wp2_with fail
  refine calls_at HCs.out (by with_reducible rfl) (by with_reducible rfl) ?_
  rintro e w2 ⟨rfl, L, hL1, hL2, hL3⟩
  have HB2 : Hid (Below w.heap.size w w2) := HB0.out.trans ((HB1.out.trans hL3.below).mono HB0.out.size)
  have HOk : Hid (Calls Tryz.prog 10 #[.pointer (some ⟨w0.heap.size, 0, none⟩)] w2 fun e w3 => e = .returned (.bool (decide (0 ≤ L))) ∧ w3 = w2) := cok_any _ L w2 hL1
  have HLt : Hid (0 ≤ L → L + (wtS ds : Int) ≤ 200000) := hL2
  clear hL1 hL2 hL3 HCs HB1
  go_wp2_with fail
  refine calls_at HOk.out (by with_reducible rfl) (by with_reducible rfl) ?_
  rintro e w3 ⟨rfl, hw3⟩
  rw [hw3]
  clear hw3 HOk
  by_cases hL : 0 ≤ L
  case neg =>
    rw [decide_eq_false hL]
    clear HLt
    go_wp2_with fail
    go_ret
    exact ⟨rfl, HB2.out⟩
  rw [decide_eq_true hL]
  have hwt : wtS ds ≤ 200000 := by have := HLt.out hL; omega
  have htt : tot (ds.map lnT) ≤ 9000000 := Nat.le_trans (txt_wt ds HI.out) (by omega)
  have HTT : Hid (tot (ds.map lnT) ≤ 9000000) := htt
  have hdl : ds.length ≤ 200000 := Nat.le_trans (wt_count ds) hwt
  have HPr : Hid (∀ d ∈ ds, ∀ (w' : World) (vo vp vl vi : Value), Below w.heap.size w w' → SlR w' d vo vp vl vi → Calls Tryz.prog 13 #[.agg (slC d vo vp vl vi)] w' (PrO d w')) := fun d hd w' vo vp vl vi hb hs => print_any d vo vp vl vi w' hs (HI.out d hd) (by have := lnW_len d (HI.out d hd); have := wt_mem hd; omega) (HG.out w' hb).1 (HG.out w' hb).2
  have HWl : Hid (Calls Tryz.prog 11 #[.slice a ds.length c] w2 (WlO ds w2)) := wlog_any ds _ w2 (HS.out.below HB2.out) (by omega) (by omega) fun d hd w' vo vp vl vi hb hs => HPr.out d hd w' vo vp vl vi (HB2.out.trans (hb.mono HB2.out.size)) hs
  clear hwt htt HLt hL
  go_wp2_with fail
  refine calls_at HWl.out (by with_reducible rfl) (by with_reducible rfl) ?_
  rintro e w4 ⟨hb4, hq⟩
  have HB4 : Hid (Below w.heap.size w w4) := bl_next HB2.out hb4
  clear hb4 HWl
  rcases hq with ⟨rfl, hok⟩ | ⟨pre, d, post, f, hsp, hpre, hno, rfl, hf⟩
  · have hrt : ∀ d ∈ ds, ∃ L, Rgt L d := fun d hd => ok_right (hok d hd)
    have HRt : Hid (∀ d ∈ ds, ∃ L, Rgt L d) := hrt
    have HOk : Hid (∀ d ∈ ds, parseP (lnT d) = (d, 0)) := hok
    have HRd : Hid (∀ w', Below w.heap.size w w' → Calls Tryz.prog 15 #[.string (txtOf (txt (ds.map lnT)))] w' fun e w2 => ∃ a c, e = .returned (.tuple #[.slice a ds.length c, .nilIface]) ∧ StsR w2 (.slice a ds.length c) ds ∧ Below w'.heap.size w' w2) := fun w' hb => read_right_log hrt HTT.out w' (HG.out w' hb).1 (HG.out w' hb).2
    have HLn : Hid (∀ w', Calls Tryz.prog 16 #[.string (txtOf (txt (ds.map lnT)))] w' fun e w2 => ∃ a c, e = .returned (.slice a ds.length c) ∧ RdAt w2 (.slice a ds.length c) ds.length ((ds.map lnT).map fun l => .string (txtOf l)) ∧ Below w'.heap.size w' w2) := fun w' => by
      refine (progLines_any (txtOf (txt (ds.map lnT))) w' (by rw [txt_size, txt_len]; exact HTT.out)).mono fun e w2 hq => ?_
      obtain ⟨v, q1, q2, q3⟩ := hq
      rw [txt_list, right_lns hrt] at q2
      have q2' : w2.ownsRow w'.heap.size 9 1 v ds.length ((ds.map lnT).map fun l => .string (txtOf l)) := by simpa using q2
      obtain ⟨a, c, rfl⟩ := own_slice q2'
      exact ⟨a, c, q1, rd_of_own q2' (own_few q2'), q3⟩
    obtain ⟨y, hy⟩ : ∃ y, txtOf (txt (ds.map lnT)) = y := ⟨_, rfl⟩
    rw [hy] at HRd HLn
    rw [hy]
    clear hok hrt hy
    have HT : Hid (Calls Tryz.prog 12 #[.nilIface] w4 fun e w' => e = .returned (.tuple #[.agg #[.int .i64 0, .int .i64 0], .bool true]) ∧ Below w4.heap.size w4 w') := told_nil w4
    go_wp2_with fail
    refine calls_at HT.out (by with_reducible rfl) (by with_reducible rfl) ?_
    rintro e w5 ⟨rfl, hb5⟩
    have HB5 : Hid (Below w.heap.size w w5) := bl_next HB4.out hb5
    clear hb5 HT
    go_wp2_with fail
    obtain ⟨V, hV⟩ : ∃ V, w5.alloc (.cells #[.int .i64 0, .int .i64 0] 32) = V := ⟨_, rfl⟩
    rw [hV]
    have hbV : Below w5.heap.size w5 V := by rw [← hV]; exact (Below.refl _ _).alloc (Nat.le_refl _) _
    have HBV : Hid (Below w.heap.size w V) := bl_next HB5.out hbV
    have HR2 : Hid (Calls Tryz.prog 15 #[.string y] V fun e w3 => ∃ a c, e = .returned (.tuple #[.slice a ds.length c, .nilIface]) ∧ StsR w3 (.slice a ds.length c) ds ∧ Below V.heap.size V w3) := HRd.out V HBV.out
    clear hbV hV
    refine calls_at HR2.out (by with_reducible rfl) (by with_reducible rfl) ?_
    rintro e w6 ⟨a6, c6, rfl, hr6, hb6⟩
    have HR6 : Hid (StsR w6 (.slice a6 ds.length c6) ds) := hr6
    have HB6 : Hid (Below w.heap.size w w6) := bl_next HBV.out hb6
    clear hr6 hb6 HR2
    have HL6 : Hid (Calls Tryz.prog 16 #[.string y] w6 fun e w2 => ∃ a c, e = .returned (.slice a ds.length c) ∧ RdAt w2 (.slice a ds.length c) ds.length ((ds.map lnT).map fun l => .string (txtOf l)) ∧ Below w6.heap.size w6 w2) := HLn.out w6
    go_wp2_with fail
    refine calls_at HL6.out (by with_reducible rfl) (by with_reducible rfl) ?_
    rintro e w7 ⟨a7, c7, rfl, hr7, hb7⟩
    have HR7 : Hid (RdAt w7 (.slice a7 ds.length c7) ds.length ((ds.map lnT).map fun l => .string (txtOf l))) := hr7
    have HB7 : Hid (Below w.heap.size w w7) := bl_next HB6.out hb7
    have HS7 : Hid (Calls Tryz.prog 17 #[.slice a6 ds.length c6, .slice a ds.length c] w7 fun e w' => e = .returned (.bool true) ∧ Below w7.heap.size w7 w') := ssts_eq ds _ _ w7 (HR6.out.below hb7) (HS.out.below HB7.out)
    clear hr7 hb7 HL6
    go_wp2_with fail
    refine calls_at HS7.out (by with_reducible rfl) (by with_reducible rfl) ?_
    rintro e w8 ⟨rfl, hb8⟩
    have HB8 : Hid (Below w7.heap.size w7 w8) := hb8
    clear hb8 HS7
    go_wp2_with fail
    go_loopw [13] (fun iv wr => ∃ i : Nat, iv = .int .i64 (i : Int) ∧ i ≤ ds.length ∧ Hid (Below w7.heap.size w7 wr)) (fun iv _ => ds.length - (intOf iv).toNat)
    case atStart => exact ⟨0, rfl, Nat.zero_le _, HB8.out⟩
    case round =>
      obtain ⟨i, rfl, hi, HBr⟩ := hrel
      by_cases hin : i < ds.length
      · have hiI : (i : Int) < (ds.length : Int) := by omega
        have hbr : Below w.heap.size w wr := bl_next HB7.out HBr.out
        obtain ⟨a', c', z1, _, z3⟩ := HS.out.below hbr
        obtain ⟨rfl, _, rfl⟩ : a = a' ∧ ds.length = ds.length ∧ c = c' := by simpa using z1
        obtain ⟨g, off, vo, vp, vl, vi, rfl, hgl, hsl, hce⟩ := z3 i hin
        have HPc0 := HPr.out ds[i] (List.getElem_mem hin) wr vo vp vl vi hbr hsl
        have hok := HOk.out ds[i] (List.getElem_mem hin)
        obtain ⟨lg, loff, rfl, lcell⟩ := (HR7.out.below HBr.out).at i hin
        have x0 : wr.cell? ⟨lg, loff + i, none⟩ = some (.string (txtOf (lnT ds[i]))) := lcell i _ (by simp [hin])
        have hlgl : lg < wr.heap.size := World.block_lt_of_cell? wr _ x0
        obtain ⟨d, hd⟩ : ∃ d, ds[i] = d := ⟨_, rfl⟩
        rw [hd] at hsl hce HPc0 hok x0
        unfold PrO at HPc0
        rw [prT_yes hok] at HPc0
        obtain ⟨oa, oc, rfl, _, _⟩ := id hsl.o
        obtain ⟨pa, pc, rfl, _, _⟩ := id hsl.p
        obtain ⟨la, lc, rfl, _, _⟩ := id hsl.l
        obtain ⟨ia, ic, rfl, _, _⟩ := id hsl.i
        have q0 : wr.cell? ⟨g, off + i * 10, none⟩ = some (.int .i64 d.k) := hce 0 (by omega)
        have q1 : wr.cell? ⟨g, off + i * 10 + 1, none⟩ = some (.string (txtOf d.n)) := hce 1 (by omega)
        have q2 : wr.cell? ⟨g, off + i * 10 + 2, none⟩ = some (.slice oa d.ops.length oc) := hce 2 (by omega)
        have q3 : wr.cell? ⟨g, off + i * 10 + 3, none⟩ = some (.slice pa d.pcs.length pc) := hce 3 (by omega)
        have q4 : wr.cell? ⟨g, off + i * 10 + 4, none⟩ = some (.string (txtOf d.deg)) := hce 4 (by omega)
        have q5 : wr.cell? ⟨g, off + i * 10 + 5, none⟩ = some (.slice la d.lits.length lc) := hce 5 (by omega)
        have q6 : wr.cell? ⟨g, off + i * 10 + 6, none⟩ = some (.slice ia d.ids.length ic) := hce 6 (by omega)
        have q7 : wr.cell? ⟨g, off + i * 10 + 7, none⟩ = some (.int .i64 d.ends) := hce 7 (by omega)
        have q8 : wr.cell? ⟨g, off + i * 10 + 8, none⟩ = some (.string (txtOf d.low)) := hce 8 (by omega)
        have q9 : wr.cell? ⟨g, off + i * 10 + 9, none⟩ = some (.string (txtOf d.high)) := hce 9 (by omega)
        have hq := txt_beq (lnT d) (lnT d)
        rw [decide_eq_true rfl] at hq
        obtain ⟨T, hT⟩ : ∃ T, txtOf (lnT d) = T := ⟨_, rfl⟩
        have HPc : Hid (Calls Tryz.prog 13 #[.agg #[.int .i64 d.k, .string (txtOf d.n), .slice oa d.ops.length oc, .slice pa d.pcs.length pc, .string (txtOf d.deg), .slice la d.lits.length lc, .slice ia d.ids.length ic, .int .i64 d.ends, .string (txtOf d.low), .string (txtOf d.high)]] wr fun e w' => e = .returned (.tuple #[.string T, .int .i64 0]) ∧ Below wr.heap.size wr w') := by rw [← hT]; exact HPc0
        rw [hT] at x0 hq
        clear hce hsl hgl hd hok HPc0 z3 z1 lcell hT hbr
        go_wp2_with fail
        refine calls_at HPc.out (by with_reducible rfl) (by with_reducible rfl) ?_
        rintro e w9 ⟨rfl, hb9⟩
        have x9 : w9.cell? ⟨lg, loff + i, none⟩ = some (.string T) := (hb9.cell (p := ⟨lg, loff + i, none⟩) hlgl).trans x0
        have HB9 : Hid (Below w7.heap.size w7 w9) := bl_next HBr.out hb9
        clear hb9 HPc q0 q1 q2 q3 q4 q5 q6 q7 q8 q9 x0
        go_wp2_with fail
        refine calls_at (HNum.out _ _) (by with_reducible rfl) (by with_reducible rfl) ?_
        rintro e w10 ⟨rfl, h10⟩
        rw [h10]
        clear h10
        go_wp2_with fail
        go_roundw
        case rel => exact ⟨i + 1, by go_num, hin, HB9⟩
        case measure => simp [intOf]; omega
      · have hiI : ¬ (i : Int) < (ds.length : Int) := by omega
        have HE : Hid (Below w.heap.size w wr) := bl_next HB7.out HBr.out
        go_wp2_with fail
        go_ret
        exact ⟨rfl, HE.out⟩
  · have hpl : pre.length < ds.length := by rw [hsp]; simp
    have hgi : ds[pre.length] = d := by simp [hsp]
    have HT : Hid (Calls Tryz.prog 12 #[.iface 95 (.pointer (some ⟨f, 0, none⟩))] w4 fun e w' => e = .returned (.tuple #[.agg #[.int .i64 ((pre.length : Int) + 1), .int .i64 83], .bool true]) ∧ Below w4.heap.size w4 w') := told_hit _ 83 f w4 hf (by omega) (by omega)
    have hdm : d ∈ ds := by rw [hsp]; simp
    have HHd : Hid (d ∈ ds ∧ parseP (lnT d) ≠ (d, 0)) := ⟨hdm, hno⟩
    have Hgi : Hid (ds[pre.length] = d) := hgi
    clear hpre hno hf hsp hgi hdm
    obtain ⟨k, hk⟩ : ∃ k, pre.length = k := ⟨_, rfl⟩
    rw [hk] at HT
    have Hgk : Hid (∃ h : k < ds.length, ds[k] = d) := by subst hk; exact ⟨hpl, Hgi.out⟩
    rw [hk] at hpl
    clear Hgi hk
    go_wp2_with fail
    refine calls_at HT.out (by with_reducible rfl) (by with_reducible rfl) ?_
    rintro e w5 ⟨rfl, hb5⟩
    have HB5 : Hid (Below w.heap.size w w5) := bl_next HB4.out hb5
    clear hb5 HT
    obtain ⟨V, hV⟩ : ∃ V, w5.alloc (.cells #[.int .i64 ((k : Int) + 1), .int .i64 83] 32) = V := ⟨_, rfl⟩
    have hbV : Below w5.heap.size w5 V := by rw [← hV]; exact (Below.refl _ _).alloc (Nat.le_refl _) _
    have gV : V.heap[w5.heap.size]? = some (.cells #[.int .i64 ((k : Int) + 1), .int .i64 83] 32 (0, 0)) := by rw [← hV]; exact heap_alloc_new w5 _
    have HBV : Hid (Below w.heap.size w V) := bl_next HB5.out hbV
    have f0 := cell_of gV 0
    have f1 := cell_of gV 1
    dsimp at f0 f1
    have hk1 : ¬ ((k : Int) + 1 < 1) := by omega
    have hk2 : ¬ ((ds.length : Int) < (k : Int) + 1) := by omega
    have hkw : wrap64 ((k : Int) + 1 - 1) = (k : Int) := by unfold wrap64; omega
    obtain ⟨a', c', z1, _, z3⟩ := HS.out.below HBV.out
    obtain ⟨rfl, _, rfl⟩ : a = a' ∧ ds.length = ds.length ∧ c = c' := by simpa using z1
    obtain ⟨g, off, vo, vp, vl, vi, rfl, hgl, hsl, hce⟩ := z3 k hpl
    have HPc0 := HPr.out ds[k] (List.getElem_mem hpl) V vo vp vl vi HBV.out hsl
    have hkd : ds[k] = d := by obtain ⟨_, h⟩ := Hgk.out; exact h
    rw [hkd] at hsl hce HPc0
    unfold PrO at HPc0
    rw [prT_no HHd.out.2] at HPc0
    obtain ⟨oa, oc, rfl, _, _⟩ := id hsl.o
    obtain ⟨pa, pc, rfl, _, _⟩ := id hsl.p
    obtain ⟨la, lc, rfl, _, _⟩ := id hsl.l
    obtain ⟨ia, ic, rfl, _, _⟩ := id hsl.i
    have q0 : V.cell? ⟨g, off + k * 10, none⟩ = some (.int .i64 d.k) := hce 0 (by omega)
    have q1 : V.cell? ⟨g, off + k * 10 + 1, none⟩ = some (.string (txtOf d.n)) := hce 1 (by omega)
    have q2 : V.cell? ⟨g, off + k * 10 + 2, none⟩ = some (.slice oa d.ops.length oc) := hce 2 (by omega)
    have q3 : V.cell? ⟨g, off + k * 10 + 3, none⟩ = some (.slice pa d.pcs.length pc) := hce 3 (by omega)
    have q4 : V.cell? ⟨g, off + k * 10 + 4, none⟩ = some (.string (txtOf d.deg)) := hce 4 (by omega)
    have q5 : V.cell? ⟨g, off + k * 10 + 5, none⟩ = some (.slice la d.lits.length lc) := hce 5 (by omega)
    have q6 : V.cell? ⟨g, off + k * 10 + 6, none⟩ = some (.slice ia d.ids.length ic) := hce 6 (by omega)
    have q7 : V.cell? ⟨g, off + k * 10 + 7, none⟩ = some (.int .i64 d.ends) := hce 7 (by omega)
    have q8 : V.cell? ⟨g, off + k * 10 + 8, none⟩ = some (.string (txtOf d.low)) := hce 8 (by omega)
    have q9 : V.cell? ⟨g, off + k * 10 + 9, none⟩ = some (.string (txtOf d.high)) := hce 9 (by omega)
    have HPc : Hid (Calls Tryz.prog 13 #[.agg #[.int .i64 d.k, .string (txtOf d.n), .slice oa d.ops.length oc, .slice pa d.pcs.length pc, .string (txtOf d.deg), .slice la d.lits.length lc, .slice ia d.ids.length ic, .int .i64 d.ends, .string (txtOf d.low), .string (txtOf d.high)]] V fun e w' => e = .returned (.tuple #[.string (txtOf []), .int .i64 83]) ∧ Below V.heap.size V w') := HPc0
    clear hce hsl hgl hkd HPc0 z3 z1 hbV gV Hgk HHd
    go_wp2_with fail
    refine calls_at HPc.out (by with_reducible rfl) (by with_reducible rfl) ?_
    rintro e w9 ⟨rfl, hb9⟩
    have HB9 : Hid (Below w.heap.size w w9) := bl_next HBV.out hb9
    clear hb9 HPc
    go_wp2_with fail
    refine calls_at (HNum.out _ _) (by with_reducible rfl) (by with_reducible rfl) ?_
    rintro e w10 ⟨rfl, h10⟩
    rw [h10]
    clear h10
    go_wp2_with fail
    go_ret
    exact ⟨rfl, HB9.out⟩
end Go.Proofs.YtibbnijicdijnaaGreatDoor
