/-
  Package big: Text of a number that is no int.
-/
import Derived.Test.YtjffbndiecjkjaaGreatDoorText
import Derived.Deep.RegionHeld3
import Derived.Deep.RegionWith
import Derived.Deep.CutRange
import Derived.Deep.DrawnRows
namespace Go.Proofs.YtjffbndiecjkjaaGreatDoor
open Go.RowKit Go.Shelf
open Bn (limbs)
open Go.Lib (byteCells OthersKept)
attribute [local go_sem] Oper.semAt_some
attribute [local go_sem ↓] Go.wp_at_zero Go.wp_at_succ

/-- In w the variable in block tb is a text with the bytes bs, its row among the call's own. -/
def TextAt (w : World) (base tb : Nat) (bs : List UInt8) : Prop :=
  ∃ v, w.heap[tb]? = some (.cells #[v] 101) ∧ w.ownsRow base 5 1 v bs.length (byteCells bs) ∧ base ≤ tb

theorem TextAt.ne {w : World} {base tb : Nat} {v : Value} {n : Nat} {xs : List Value} {c : Array Value} (h : w.heap[tb]? = some (.cells c 101)) (ho : w.ownsRow base 5 1 v n xs) : v.ownBlock ≠ some tb := by
  obtain ⟨_, h1 | ⟨g, cap, cur, hv, _, hh, _⟩⟩ := ho
  · rw [h1.1]; simp [Value.ownBlock]
  · rw [hv]; simp only [Value.ownBlock]; intro e; injection e with e; subst e
    rw [h] at hh; simp at hh

theorem text_keep {W w' : World} {base tb b o : Nat} {v1 u : Value} (hv1 : W.heap[tb]? = some (.cells #[v1] 101)) (cl : W.cell? ⟨b, o, none⟩ = some u) (hbb : b < base) (hB : Below base W.drew w') (hk : OthersKept 5 none W.drew w') :
    w'.cell? ⟨tb, 0, none⟩ = some v1 ∧ w'.frozen? ⟨tb, 0, none⟩ = false ∧ w'.cell? ⟨b, o, none⟩ = some u := by
  have h1 : w'.heap[tb]? = some (.cells #[v1] 101) := hk tb _ hv1 (fun e => by cases e) (fun c fz e => by injection e with _ e _; cases e)
  exact ⟨by simp [World.cell?, h1], by simp [World.frozen?, h1], (hB.cell (p := ⟨b, o, none⟩) hbb).trans cl⟩

theorem heap_setCell_box {w : World} {tb : Nat} {v1 v2 : Value} (h : w.heap[tb]? = some (.cells #[v1] 101)) : (w.setCell ⟨tb, 0, none⟩ v2).heap[tb]? = some (.cells #[v2] 101) := by
  simp [World.setCell, Array.getElem?_modify, h]
theorem text_new {W w' : World} {base tb : Nat} {v1 v2 : Value} {bs ds : List UInt8} (hv1 : W.heap[tb]? = some (.cells #[v1] 101)) (ho : w'.ownsRow base 5 1 v2 (bs.length + ds.length) (byteCells bs ++ byteCells ds)) (hB : Below base W.drew w') (hk : OthersKept 5 none W.drew w') (hbt : base ≤ tb) :
    TextAt (w'.setCell ⟨tb, 0, none⟩ v2) base tb (bs ++ ds) ∧ Below base W (w'.setCell ⟨tb, 0, none⟩ v2) := by
  have h1 : w'.heap[tb]? = some (.cells #[v1] 101) := hk tb _ hv1 (fun e => by cases e) (fun c fz e => by injection e with _ e _; cases e)
  have hB' : Below base W w' := ((Below.refl base W).drew).trans hB
  refine ⟨⟨v2, heap_setCell_box h1, ?_, hbt⟩, hB'.setCell (p := ⟨tb, 0, none⟩) hbt _⟩
  have e : byteCells (bs ++ ds) = byteCells bs ++ byteCells ds := by simp [byteCells]
  rw [e, List.length_append]
  exact ownsRow_setCell_other ho (TextAt.ne h1 ho) _

theorem TextAt.alloc {w : World} {base tb : Nat} {bs : List UInt8} (h : TextAt w base tb bs) (o : Obj) : TextAt (w.alloc o) base tb bs := by
  obtain ⟨v, hv, ho, hbt⟩ := h
  exact ⟨v, (Below.heap_alloc w o tb (Array.getElem?_eq_some_iff.1 hv).1).trans hv, ho.alloc o, hbt⟩
theorem TextAt.kept {A B : World} {base tb : Nat} {bs : List UInt8} {row : Option Nat} (h : TextAt A base tb bs) (hg : A.grownBy B row) (hr : ∀ r, row = some r → ∃ o : Obj, A.heap[r]? = some o ∧ o.isCells = false) : TextAt B base tb bs := by
  obtain ⟨v, hv, ho, hbt⟩ := h
  have h1 : some tb ≠ row := fun e => by
    obtain ⟨o, h2, h3⟩ := hr tb e.symm
    rw [hv] at h2; injection h2 with h2; subst h2; simp [Obj.isCells] at h3
  refine ⟨v, (hg.block tb (Array.getElem?_eq_some_iff.1 hv).1 h1).trans hv, ?_, hbt⟩
  refine ho.kept hg ?_
  obtain ⟨_, h2 | ⟨g, cap, cur, hvv, _, hh, _⟩⟩ := ho
  · exact .inl (by rw [h2.1]; rfl)
  · refine .inr (fun e => ?_)
    rw [hvv] at e
    obtain ⟨o, h2, h3⟩ := hr g e.symm
    rw [hh] at h2; injection h2 with h2; subst h2; simp [Obj.isCells] at h3
theorem limb_keep {W W' : World} {tb : Nat} {v : Value} (hv : W.heap[tb]? = some (.cells #[v] 101)) (hk : OthersKept 5 none W W') : W'.heap[tb]? = some (.cells #[v] 101) ∧ W'.cell? ⟨tb, 0, none⟩ = some v ∧ W'.frozen? ⟨tb, 0, none⟩ = false := by
  have h1 : W'.heap[tb]? = some (.cells #[v] 101) := hk tb _ hv (fun e => by cases e) (fun c fz e => by injection e with _ e _; cases e)
  exact ⟨h1, by simp [World.cell?, h1], by simp [World.frozen?, h1]⟩
theorem limb_others {W W' : World} {base tb : Nat} (hk : OthersKept 5 none W W') (hb : Below base W W') (u : Value) : KeepsOthers W (W'.setCell ⟨tb, 0, none⟩ u) :=
  (KeepsOthers.trans ⟨hb.size, fun k o h ho => hk k o h (fun e => by cases e) (fun c fz e => by subst e; simp [Obj.isCells] at ho)⟩ (KeepsOthers.setCell W' _ u))

theorem cells_kept {A B : World} {k : Nat} {c : Array Value} {t : TypeId} {row : Option Nat} (h : A.heap[k]? = some (.cells c t)) (hg : A.grownBy B row) (hr : ∀ r, row = some r → ∃ o : Obj, A.heap[r]? = some o ∧ o.isCells = false) : B.heap[k]? = some (.cells c t) := by
  have h1 : some k ≠ row := fun e => by
    obtain ⟨o, h2, h3⟩ := hr k e.symm
    rw [h] at h2; injection h2 with h2; subst h2; simp [Obj.isCells] at h3
  exact (hg.block k (Array.getElem?_eq_some_iff.1 h).1 h1).trans h
theorem box_kept {W W' : World} {k tb : Nat} {c : Array Value} (h : W.heap[k]? = some (.cells c 76)) (hk : OthersKept 5 none W W') (hne : k ≠ tb) (u : Value) : (W'.setCell ⟨tb, 0, none⟩ u).heap[k]? = some (.cells c 76) :=
  (Below.heap_setCell W' ⟨tb, 0, none⟩ u k hne).trans (hk k _ h (fun e => by cases e) (fun c fz e => by injection e with _ e _; cases e))

theorem minus_kept {w0 w1 : World} {N c : Nat} {v : Value} {o : Obj} (hlt : N + 1 < w0.heap.size) (hg : ((w0.alloc (.cells #[v] 101)).alloc o).grownBy w1 (Value.slice (some ⟨N + 1, 0, none⟩) 0 c).ownBlock) :
    w1.heap[w0.heap.size]? = some (.cells #[v] 101) ∧ w1.cell? ⟨w0.heap.size, 0, none⟩ = some v ∧ w1.frozen? ⟨w0.heap.size, 0, none⟩ = false := by
  have h1 : w1.heap[w0.heap.size]? = some (.cells #[v] 101) := by
    rw [hg.block w0.heap.size (by simp; omega) (fun e => by simp only [Value.ownBlock, Option.some.injEq] at e; omega), Below.heap_alloc _ _ _ (by simp)]
    exact World.alloc_heap_new w0 _
  exact ⟨h1, by simp [World.cell?, h1], by simp [World.frozen?, h1]⟩

set_option maxHeartbeats 1000000 in
set_option maxRecDepth 100000 in
theorem text_wide (z : Int) (v : Value) (w : World) (h : BigAt w v z) (hf : ¬ Fits z) (hlen : (limbs z.natAbs).length ≤ 1000000) (ht : Tab w) :
    Calls Tryz.prog 41 #[v] w fun e w' => e = .returned (.string ⟨(Lib.itoa z).toArray⟩) ∧ Below w.heap.size w w' := by
  rcases h with ⟨h, _⟩ | ⟨_, p, s, rfl, hp, hp0, hp1, hU⟩
  · exact absurd h hf
  have hz0 : 0 < z.natAbs := by
    rcases Nat.eq_zero_or_pos z.natAbs with e | e
    · exact absurd (by unfold Fits; omega) hf
    · exact e
  have hpos : 0 < (limbs z.natAbs).length := by
    rcases Nat.eq_zero_or_pos (limbs z.natAbs).length with e | e
    · have := Bn.limbs_eq_nil.1 (List.eq_nil_of_length_eq_zero e); omega
    · exact e
  obtain ⟨b, off, cap, rfl, hb, hlc, hcm, hc⟩ := hU.pos hpos
  obtain ⟨L, hL⟩ : ∃ L, (limbs z.natAbs).length = L := ⟨_, rfl⟩
  have HC : Hid (∀ j (h : j < (limbs z.natAbs).length), w.cell? ⟨b, off + j, none⟩ = some (.int .u32 (((limbs z.natAbs)[j] : Nat) : Int))) := hc
  have HU0 : Hid (U32At w (.slice (some ⟨b, off, none⟩) (limbs z.natAbs).length cap) (limbs z.natAbs)) := hU
  have HL : Hid ((limbs z.natAbs).length = L) := hL
  rw [hL] at hlc hpos hlen hp1
  obtain ⟨n, rfl⟩ : ∃ n, L = n + 1 := ⟨L - 1, by omega⟩
  clear hc hL hU
  obtain ⟨i0, hi, hz0', hz1, hz2⟩ := info_parts Tryz.info5
  have hro : Fence.wide.round = none := rfl
  have h15 : 1 ≤ 5 := by omega
  have hb00 : Below w.heap.size w (w.alloc (.cells #[.int .i64 0, .pointer (some ⟨p, 0, none⟩)] 33)) := (Below.refl _ _).alloc (Nat.le_refl _) _
  obtain ⟨w0, hrun, hown0, hg0⟩ := run_make_own (P := Tryz.prog) (w.alloc (.cells #[.int .i64 0, .pointer (some ⟨p, 0, none⟩)] 33)) (w.heap.size + 1) 101 5 i0 (.int .u8 0) 1 Tryz.underlying101 hi hz0' hz1 .i64 .i64 (9 * (n + 1) + 1) (by rw [hz2]; omega) (by unfold maxLen; omega) (by simp)
  have hNs : (w.alloc (.cells #[.int .i64 0, .pointer (some ⟨p, 0, none⟩)] 33)).heap.size = w.heap.size + 1 := by simp
  rw [hNs] at hrun hown0
  rw [show ((9 * (n + 1) + 1 : Nat) : Int) = 1 + 9 * ((n : Int) + 1) from by omega] at hrun
  have hB0 : Below (w.heap.size + 1) (w.alloc (.cells #[.int .i64 0, .pointer (some ⟨p, 0, none⟩)] 33)) w0 := (Below.refl _ _).grown hg0 (by simp) (fun k hk => by cases hk)
  have hlt0 : w.heap.size + 1 < w0.heap.size := (hown0.lt (w.heap.size + 1) rfl).2
  have hN1 : ∀ o, (w0.alloc o).cell? ⟨w.heap.size, 1, none⟩ = some (.pointer (some ⟨p, 0, none⟩)) := fun o => (World.cell?_alloc_past _ _ _ (by omega)).trans ((hB0.cell (p := ⟨w.heap.size, 1, none⟩) (by simp)).trans (by simp))
  have hP0 : ∀ o, (w0.alloc o).cell? ⟨p, 0, none⟩ = some (.bool (decide (z < 0))) := fun o => (World.cell?_alloc_past _ _ _ (by omega)).trans ((hB0.cell (p := ⟨p, 0, none⟩) (Nat.lt_succ_of_lt hp)).trans ((World.cell?_alloc_past _ _ _ hp).trans hp0))
  have hbw : Below w.heap.size w w0 := hb00.trans (hB0.mono (Nat.le_succ _))
  have HBW : Hid (Below w.heap.size w w0) := hbw
  have HG : Hid (∀ q, decide (z < 0) = q → (Bn.sgn z = if q then [45] else [])) := by
    intro q hq; unfold Bn.sgn; subst hq; by_cases h : z < 0 <;> simp [h]
  generalize hd : decide (z < 0) = d at *
  have HI : Hid (Lib.itoa z = Bn.sgn z ++ Lib.decDigits z.natAbs) := by
    show _ = _; rw [Bn.itoa_eq z (by omega), Bn.dig0_pos hz0]
  have hTab : Tab w0 := ht.below hbw ht.2
  have HT : Hid (Tab w0) := hTab
  clear hd hg0 hNs hbw hb00 hf ht hTab
  cases d
  · have HS : Hid (Bn.sgn z = []) := HG.out false rfl
    clear HG
    refine (callsIn_wide (n := 5)).1 ?_
    refine callsIn_of_wp_marks Tryz.func41 rfl trivial ?_ hro
    refine wpIn_wide.2 ?_
    simp only [Tryz.ntmps41, List.size_toArray, List.length_cons, List.length_nil, Nat.reduceAdd, Nat.reduceSub, Array.replicate_succ, Array.replicate_zero, List.push_toArray, List.append_toArray, List.nil_append, List.cons_append]
    go_wp2_with fail
    have hX0 : True := trivial
    have hX : TextAt (w0.alloc (.cells #[.slice (some ⟨w.heap.size + 1, 0, none⟩) 0 (9 * (n + 1) + 1)] 101)) (w.heap.size + 1) w0.heap.size (Bn.sgn z) := by
      rw [HS.out]
      exact ⟨_, World.alloc_heap_new w0 _, hown0.alloc _, by omega⟩
    have hbX : Below (w.heap.size + 1) w0 (w0.alloc (.cells #[.slice (some ⟨w.heap.size + 1, 0, none⟩) 0 (9 * (n + 1) + 1)] 101)) := (Below.refl _ _).alloc (by omega) _
    generalize w0.alloc (.cells #[.slice (some ⟨w.heap.size + 1, 0, none⟩) 0 (9 * (n + 1) + 1)] 101) = W1 at *
    generalize w0.heap.size = tb at *
    obtain ⟨v1, hv1, ho1, hbt⟩ := hX
    have ct : W1.cell? ⟨tb, 0, none⟩ = some v1 := by simp [World.cell?, hv1]
    have cf : W1.frozen? ⟨tb, 0, none⟩ = false := by simp [World.frozen?, hv1]
    obtain ⟨top, htop⟩ : ∃ top, top = (limbs z.natAbs)[n]'(by rw [HL.out]; omega) := ⟨_, rfl⟩
    have HTOP : Hid (top = (limbs z.natAbs)[n]'(by rw [HL.out]; omega)) := htop
    have htl : top < 1000000000 := by rw [htop]; exact Bn.limbs_get_lt _
    have cl : W1.cell? ⟨b, off + n, none⟩ = some (.int .u32 (top : Int)) := by
      rw [htop]
      exact (hbX.cell (p := ⟨b, off + n, none⟩) (Nat.lt_succ_of_lt hb)).trans ((hB0.cell (p := ⟨b, off + n, none⟩) (Nat.lt_succ_of_lt hb)).trans ((World.cell?_alloc_past _ _ _ hb).trans (HC.out n (by rw [HL.out]; omega))))
    have hnI : (n : Int) < (n : Int) + 1 := by omega
    have hn0 : (0 : Int) ≤ (n : Int) := by omega
    have hwrap : IntKind.u64.wrap (top : Int) = (top : Int) := by rw [IntKind.wrap_u64]; omega
    have hsl : (Bn.sgn z).length ≤ 1 := by rw [sofar_length_sgn]; split <;> omega
    have hTab : Tab W1 := HT.out.below hbX (by omega)
    have HTab : Hid (Tab W1.drew) := hTab.below ((Below.refl W1.heap.size W1).drew) hTab.2
    have hbX' : Below (w.heap.size + 1) w0 W1 := hbX
    have hW1s : w.heap.size + 1 ≤ W1.heap.size := by have := (Array.getElem?_eq_some_iff.1 hv1).1; omega
    have ho1' : W1.drew.ownsRow (w.heap.size + 1) 5 1 v1 (Bn.sgn z).length (byteCells (Bn.sgn z)) := ho1
    clear htop hTab hrun hown0 hN1 hP0 hX0
    go_cut [] from 24 to 41 (fun wx => TextAt wx (w.heap.size + 1) tb (Bn.sgn z ++ Lib.decDigits top) ∧ Below (w.heap.size + 1) W1 wx)
    case first =>
      refine wp_region_noPanic ?_
      go_region_with (go_at_call 72; refine (appendUint_any (w.heap.size + 1) (Bn.sgn z).length top (by omega) v1 (byteCells (Bn.sgn z)) W1.drew ho1' hW1s (by omega) HTab.out).mono ?_; rintro e w' ⟨v2, rfl, ho2, hb2, hk2⟩; obtain ⟨a2, c2, hv2⟩ := own_form ho2; subst hv2; obtain ⟨k0, k1, k2⟩ := text_keep hv1 cl (Nat.lt_succ_of_lt hb) hb2 hk2)
      all_goals
        refine NoPanic.normal ?_
        go_wp2_with fail
        go_meet
        exact text_new hv1 ho2 hb2 hk2 hbt
    case rest =>
      obtain ⟨hT2, hbc⟩ := hcut
      have HT2 : Hid _ := hT2
      clear hv1 ho1 ct cf cl hwrap ho1' HTab hT2
      go_wp2_with fail
      refine (callsIn_wide.1 (backward_in Fence.wide 0 trivial rfl _ _ _ _)).mono ?_
      rintro e w' ⟨rfl, rfl⟩
      go_wp2
      obtain ⟨zs, hzs⟩ : ∃ zs, zs = (limbs z.natAbs).take n := ⟨_, rfl⟩
      have hzl : zs.length = n := by rw [hzs, List.length_take, HL.out]; omega
      have hzlt : ∀ d ∈ zs, d < 1000000000 := fun d hd => by rw [hzs] at hd; exact Bn.limbs_lt' (List.mem_of_mem_take hd)
      have hUz : U32At w (.slice (some ⟨b, off, none⟩) n cap) zs := by
        refine .inr ⟨b, off, cap, by rw [hzl], hb, by omega, hcm, fun j hj => ?_⟩
        rw [HC.out j (by rw [HL.out]; omega)]
        congr 3
        subst hzs
        rw [List.getElem_take]
      have htop0 : 0 < top := by
        rw [HTOP.out]
        rcases Nat.eq_zero_or_pos ((limbs z.natAbs)[n]'(by rw [HL.out]; omega)) with e | e
        · have h1 := Bn.get_limbs (m := z.natAbs) (i := n) (by rw [HL.out]; omega)
          have h2 : ¬ z.natAbs < 1000000000 ^ n := fun h => by have := (Bn.limbs_length_le z.natAbs n).2 h; rw [HL.out] at this; omega
          have h3 := (Bn.limbs_length_le z.natAbs (n + 1)).1 (by rw [HL.out]; omega)
          rw [Nat.pow_succ] at h3
          have h4 : z.natAbs / 1000000000 ^ n < 1000000000 := Nat.div_lt_of_lt_mul h3
          have h5 : 0 < z.natAbs / 1000000000 ^ n := Nat.div_pos (by omega) (Nat.pow_pos (by omega))
          omega
        · exact e
      have HALL : Hid (Bn.sgn z ++ Lib.decDigits top ++ padAll zs (backF zs.length) = Lib.itoa z) := by
        show _ = _
        rw [HI.out, List.append_assoc, ← padAll_all zs top htop0 hzlt]
        congr 2
        have h6 : zs ++ [top] = limbs z.natAbs := by
          rw [hzs, HTOP.out, ← List.take_succ_eq_append_getElem]
          exact List.take_of_length_le (by rw [HL.out]; omega)
        rw [h6, Bn.val_limbs']
      have hbwc : Below w.heap.size w wc := (HBW.out.trans (hbX'.mono (Nat.le_succ _))).trans (hbc.mono (Nat.le_succ _))
      have hbwa : Below w.heap.size w (wc.alloc (.cells #[.slice (some ⟨b, off, none⟩) n cap] 76)) := hbwc.alloc hbwc.size _
      have htbc : tb < wc.heap.size := by obtain ⟨v, hv, _⟩ := HT2.out; exact (Array.getElem?_eq_some_iff.1 hv).1
      have hwcs : w.heap.size < wc.heap.size := by omega
      clear hzs hnI hn0
      refine (wpIn_wide (n := 5)).1 ?_
      refine wpIn_rangeFunc_ownF (n := 5) hro h15 (gf := 100) (lb := #[.pointer (some ⟨wc.heap.size, 0, none⟩)]) rfl trivial (enters_of Tryz.func100 (by kernel_rfl) rfl)
        (backward_stops Fence.wide 4 trivial hro (by omega) wc.heap.size (.slice (some ⟨b, off, none⟩) n cap) zs (by omega) w _ (by simp) hbwa (by simp) hUz) KpB.trans (KpB.putObj (by simp; omega) (by simp)) (Below.refl _ _) (fun _ => rfl)
        (fun pre W => (TextAt W (w.heap.size + 1) tb (Bn.sgn z ++ Lib.decDigits top ++ padAll zs pre) ∧ W.heap[wc.heap.size]? = some (.cells #[.slice (some ⟨b, off, none⟩) n cap] 76)) ∧ Below w.heap.size w W)
        (fun _ _ _ => False)
        (OwnFrom.and (Own.from (fun s A B row hs hg hr => ⟨hs.1.kept hg hr, cells_kept hs.2 hg hr⟩) _) (ownFrom_below (Nat.le_refl _) (by simp; omega)))
        (fun _ _ _ _ _ hs _ _ => hs)
        ⟨⟨by simpa [padAll] using TextAt.alloc HT2.out _, World.alloc_heap_new wc _⟩, hbwa⟩
        (fun y => { tmps := #[.agg #[.int .i64 0, .pointer (some ⟨p, 0, none⟩)], .pointer (some ⟨w.heap.size, 0, none⟩), .string ⟨#[]⟩, .slice (some ⟨b, off, none⟩) (n + 1) cap, .pointer (some ⟨tb, 0, none⟩), .int .i64 (n : Int), undef, .int .u32 ((zs[y] : Nat) : Int), .pointer (some ⟨w.heap.size, 1, none⟩), .pointer (some ⟨p, 0, none⟩), .bool false, undef, undef, undef, .pointer (some ⟨w.heap.size, 1, none⟩), .pointer (some ⟨p, 0, none⟩), .pointer (some ⟨p, 0, none⟩), .pointer (some ⟨p, 1, none⟩), .slice (some ⟨b, off, none⟩) (n + 1) cap, .slice (some ⟨b, off, none⟩) (n + 1) cap, .int .i64 ((n : Int) + 1), .int .i64 (9 * ((n : Int) + 1)), .int .i64 (1 + 9 * ((n : Int) + 1)), .slice (some ⟨w.heap.size + 1, 0, none⟩) 0 (9 * (n + 1) + 1), u24, u25, u26, u27, u28, u29, u30, u31, u32, u33, u34, u35, u36, u37, u38, u39, u40, u41, .slice (some ⟨b, off, none⟩) (n + 1) cap, .int .i64 (n : Int), .slice (some ⟨b, off, none⟩) n cap, .func (.func 100) #[] #[.pointer (some ⟨wc.heap.size, 0, none⟩)], .int .i64 (y.val : Int), .int .u32 ((zs[y] : Nat) : Int), undef, undef, undef, undef, undef], defers := [] }) ?assign ?body ?done ?stop
      case assign =>
        intro l y W K hK
        simp only [limbEnc]
        gi_wp2
        exact hK
      case body =>
        rintro l pre y W ⟨⟨hT, hS⟩, hB⟩ hpl
        obtain ⟨v, hv, ho, _⟩ := hT
        have hy : zs[y] < 1000000000 := hzlt _ (List.getElem_mem y.isLt)
        have c0 : W.cell? ⟨tb, 0, none⟩ = some v := by simp [World.cell?, hv]
        have hWs : w.heap.size + 1 ≤ W.heap.size := by have := (Array.getElem?_eq_some_iff.1 hv).1; omega
        have hbl : (Bn.sgn z ++ Lib.decDigits top ++ padAll zs pre).length ≤ 100000000 := by
          have hdl : (Lib.decDigits top).length ≤ 10 := by rw [← Bn.dig0_pos htop0]; exact Bn.dig0_length top 10 (by omega)
          rw [List.length_append, List.length_append, padAll_length]; omega
        have HE : Hid (Bn.sgn z ++ Lib.decDigits top ++ padAll zs (pre ++ [y]) = Bn.sgn z ++ Lib.decDigits top ++ padAll zs pre ++ padK 9 zs[y]) := by show _ = _; rw [padAll_snoc, ← List.append_assoc]
        obtain ⟨a0, cp0, hvf⟩ := own_form ho
        subst hvf
        generalize Bn.sgn z ++ Lib.decDigits top ++ padAll zs pre = bs at *
        gi_wp2_with fail
        refine ⟨trivial, ?_⟩
        refine (CallsIn.inRound l (callsIn_wide.2 (appendLimb_any (w.heap.size + 1) zs[y] bs _ W ho hWs hbl hy))).mono ?_
        rintro e W' ⟨v', rfl, ho', hb', hk'⟩
        obtain ⟨h1, k0, k1⟩ := limb_keep hv hk'
        rw [List.length_append] at ho'
        obtain ⟨a1, cp1, hv1'⟩ := own_form ho'
        subst hv1'
        gi_wp2
        refine ⟨limb_others hk' hb' _, ⟨(hb'.mono (Nat.le_succ _)).setCell (p := ⟨tb, 0, none⟩) (show w.heap.size ≤ tb by omega) _, ?_⟩, ⟨?_, ?_⟩, (hB.trans (hb'.mono (Nat.le_succ _))).setCell (p := ⟨tb, 0, none⟩) (show w.heap.size ≤ tb by omega) _⟩
        · exact World.cell?_of_block (w := W) (a := ⟨wc.heap.size, 0, none⟩) ((box_kept hS hk' (by omega) _).trans hS.symm)
        · rw [HE.out]
          refine ⟨_, heap_setCell_box h1, ?_, hbt⟩
          rw [List.length_append]
          exact ownsRow_setCell_other ho' (TextAt.ne h1 ho') _
        · exact box_kept hS hk' (by omega) _
      case done =>
        rintro D ys W hD rfl ⟨⟨hT, _⟩, hB⟩ hK
        rw [HALL.out] at hT
        obtain ⟨v, hv, ho, _⟩ := hT
        have c0 : W.cell? ⟨tb, 0, none⟩ = some v := by simp [World.cell?, hv]
        have hne : Lib.itoa z ≠ [] := by
          rw [HI.out]
          have := Bn.dig0_length_pos hz0
          rw [Bn.dig0_pos hz0] at this
          intro e; rw [List.append_eq_nil_iff] at e; rw [e.2] at this; simp at this
        obtain ⟨g, cpg, rfl, hcell⟩ := owns_bytes ho hne
        have hconv := run_convert_bytes_back (P := Tryz.prog) W 101 9 5 ⟨g, 0, none⟩ cpg (Lib.itoa z) Tryz.underlying101 Tryz.underlying5 Tryz.underlying9 hcell
        clear hcell hne ho
        go_wp2
        refine ⟨by simp, .inl ⟨_, _, rfl, run_takeDeferred hK, ?_⟩⟩
        refine ⟨.string ⟨(Lib.itoa z).toArray⟩, ?_, rfl, hB.trans (belowK_b (w := w) (Nat.le_refl _) W D _ _ (by simp at hD; omega) hK rfl rfl)⟩
        simp [results, Tryz.results41, go_sem]
      case stop =>
        rintro D c pre W _ _ h _
        exact h.elim

  · have HS : Hid (Bn.sgn z = [45]) := HG.out true rfl
    clear HG
    have hX0 : True := trivial
    refine (callsIn_wide (n := 5)).1 ?_
    refine callsIn_of_wp_marks Tryz.func41 rfl trivial ?_ hro
    refine wpIn_wide.2 ?_
    simp only [Tryz.ntmps41, List.size_toArray, List.length_cons, List.length_nil, Nat.reduceAdd, Nat.reduceSub, Array.replicate_succ, Array.replicate_zero, List.push_toArray, List.append_toArray, List.nil_append, List.cons_append]
    go_wp2_with (at_builtin; refine append_one (w0.alloc (.cells #[.slice (some ⟨w.heap.size + 1, 0, none⟩) 0 (9 * (n + 1) + 1)] 101)) rfl _ _ 101 rfl (w.heap.size + 1) 5 i0 .u8 1 Tryz.underlying101 hi hz0' hz1 hz2 (.slice (some ⟨w.heap.size + 1, 0, none⟩) 0 (9 * (n + 1) + 1)) 0 [] (by rfl) (hown0.alloc _) 45 (w0.heap.size + 1) (by simp) (by rfl) (by omega) (by decide) (by simp; omega) ?_; intro v' w1 hown1 hgrow; obtain ⟨q0, q1, q2⟩ := minus_kept hlt0 hgrow; obtain ⟨a9, c9, hv9⟩ := own_form hown1; subst hv9)
    have hX : TextAt (w1.setCell ⟨w0.heap.size, 0, none⟩ (.slice a9 (0 + 1) c9)) (w.heap.size + 1) w0.heap.size (Bn.sgn z) := by
      rw [HS.out]
      exact ⟨_, heap_setCell_box q0, ownsRow_setCell_other hown1 (TextAt.ne q0 hown1) _, by omega⟩
    have hbX : Below (w.heap.size + 1) w0 (w1.setCell ⟨w0.heap.size, 0, none⟩ (.slice a9 (0 + 1) c9)) :=
      ((((Below.refl (w.heap.size + 1) w0).alloc (by omega) _).alloc (by simp; omega) _).grown hgrow (by simp; omega) (fun k hk => by simp only [Value.ownBlock, Option.some.injEq] at hk; omega)).setCell (p := ⟨w0.heap.size, 0, none⟩) (show w.heap.size + 1 ≤ w0.heap.size by omega) _
    clear hown1 hgrow q0 q1 q2
    generalize w1.setCell ⟨w0.heap.size, 0, none⟩ (.slice a9 (0 + 1) c9) = W1 at *
    generalize w0.heap.size = tb at *
    obtain ⟨v1, hv1, ho1, hbt⟩ := hX
    have ct : W1.cell? ⟨tb, 0, none⟩ = some v1 := by simp [World.cell?, hv1]
    have cf : W1.frozen? ⟨tb, 0, none⟩ = false := by simp [World.frozen?, hv1]
    obtain ⟨top, htop⟩ : ∃ top, top = (limbs z.natAbs)[n]'(by rw [HL.out]; omega) := ⟨_, rfl⟩
    have HTOP : Hid (top = (limbs z.natAbs)[n]'(by rw [HL.out]; omega)) := htop
    have htl : top < 1000000000 := by rw [htop]; exact Bn.limbs_get_lt _
    have cl : W1.cell? ⟨b, off + n, none⟩ = some (.int .u32 (top : Int)) := by
      rw [htop]
      exact (hbX.cell (p := ⟨b, off + n, none⟩) (Nat.lt_succ_of_lt hb)).trans ((hB0.cell (p := ⟨b, off + n, none⟩) (Nat.lt_succ_of_lt hb)).trans ((World.cell?_alloc_past _ _ _ hb).trans (HC.out n (by rw [HL.out]; omega))))
    have hnI : (n : Int) < (n : Int) + 1 := by omega
    have hn0 : (0 : Int) ≤ (n : Int) := by omega
    have hwrap : IntKind.u64.wrap (top : Int) = (top : Int) := by rw [IntKind.wrap_u64]; omega
    have hsl : (Bn.sgn z).length ≤ 1 := by rw [sofar_length_sgn]; split <;> omega
    have hTab : Tab W1 := HT.out.below hbX (by omega)
    have HTab : Hid (Tab W1.drew) := hTab.below ((Below.refl W1.heap.size W1).drew) hTab.2
    have hbX' : Below (w.heap.size + 1) w0 W1 := hbX
    have hW1s : w.heap.size + 1 ≤ W1.heap.size := by have := (Array.getElem?_eq_some_iff.1 hv1).1; omega
    have ho1' : W1.drew.ownsRow (w.heap.size + 1) 5 1 v1 (Bn.sgn z).length (byteCells (Bn.sgn z)) := ho1
    clear htop hTab hrun hown0 hN1 hP0 hX0
    go_cut [] from 24 to 41 (fun wx => TextAt wx (w.heap.size + 1) tb (Bn.sgn z ++ Lib.decDigits top) ∧ Below (w.heap.size + 1) W1 wx)
    case first =>
      refine wp_region_noPanic ?_
      go_region_with (go_at_call 72; refine (appendUint_any (w.heap.size + 1) (Bn.sgn z).length top (by omega) v1 (byteCells (Bn.sgn z)) W1.drew ho1' hW1s (by omega) HTab.out).mono ?_; rintro e w' ⟨v2, rfl, ho2, hb2, hk2⟩; obtain ⟨a2, c2, hv2⟩ := own_form ho2; subst hv2; obtain ⟨k0, k1, k2⟩ := text_keep hv1 cl (Nat.lt_succ_of_lt hb) hb2 hk2)
      all_goals
        refine NoPanic.normal ?_
        go_wp2_with fail
        go_meet
        exact text_new hv1 ho2 hb2 hk2 hbt
    case rest =>
      obtain ⟨hT2, hbc⟩ := hcut
      have HT2 : Hid _ := hT2
      clear hv1 ho1 ct cf cl hwrap ho1' HTab hT2
      go_wp2_with fail
      refine (callsIn_wide.1 (backward_in Fence.wide 0 trivial rfl _ _ _ _)).mono ?_
      rintro e w' ⟨rfl, rfl⟩
      go_wp2
      obtain ⟨zs, hzs⟩ : ∃ zs, zs = (limbs z.natAbs).take n := ⟨_, rfl⟩
      have hzl : zs.length = n := by rw [hzs, List.length_take, HL.out]; omega
      have hzlt : ∀ d ∈ zs, d < 1000000000 := fun d hd => by rw [hzs] at hd; exact Bn.limbs_lt' (List.mem_of_mem_take hd)
      have hUz : U32At w (.slice (some ⟨b, off, none⟩) n cap) zs := by
        refine .inr ⟨b, off, cap, by rw [hzl], hb, by omega, hcm, fun j hj => ?_⟩
        rw [HC.out j (by rw [HL.out]; omega)]
        congr 3
        subst hzs
        rw [List.getElem_take]
      have htop0 : 0 < top := by
        rw [HTOP.out]
        rcases Nat.eq_zero_or_pos ((limbs z.natAbs)[n]'(by rw [HL.out]; omega)) with e | e
        · have h1 := Bn.get_limbs (m := z.natAbs) (i := n) (by rw [HL.out]; omega)
          have h2 : ¬ z.natAbs < 1000000000 ^ n := fun h => by have := (Bn.limbs_length_le z.natAbs n).2 h; rw [HL.out] at this; omega
          have h3 := (Bn.limbs_length_le z.natAbs (n + 1)).1 (by rw [HL.out]; omega)
          rw [Nat.pow_succ] at h3
          have h4 : z.natAbs / 1000000000 ^ n < 1000000000 := Nat.div_lt_of_lt_mul h3
          have h5 : 0 < z.natAbs / 1000000000 ^ n := Nat.div_pos (by omega) (Nat.pow_pos (by omega))
          omega
        · exact e
      have HALL : Hid (Bn.sgn z ++ Lib.decDigits top ++ padAll zs (backF zs.length) = Lib.itoa z) := by
        show _ = _
        rw [HI.out, List.append_assoc, ← padAll_all zs top htop0 hzlt]
        congr 2
        have h6 : zs ++ [top] = limbs z.natAbs := by
          rw [hzs, HTOP.out, ← List.take_succ_eq_append_getElem]
          exact List.take_of_length_le (by rw [HL.out]; omega)
        rw [h6, Bn.val_limbs']
      have hbwc : Below w.heap.size w wc := (HBW.out.trans (hbX'.mono (Nat.le_succ _))).trans (hbc.mono (Nat.le_succ _))
      have hbwa : Below w.heap.size w (wc.alloc (.cells #[.slice (some ⟨b, off, none⟩) n cap] 76)) := hbwc.alloc hbwc.size _
      have htbc : tb < wc.heap.size := by obtain ⟨v, hv, _⟩ := HT2.out; exact (Array.getElem?_eq_some_iff.1 hv).1
      have hwcs : w.heap.size < wc.heap.size := by omega
      clear hzs hnI hn0
      refine (wpIn_wide (n := 5)).1 ?_
      refine wpIn_rangeFunc_ownF (n := 5) hro h15 (gf := 100) (lb := #[.pointer (some ⟨wc.heap.size, 0, none⟩)]) rfl trivial (enters_of Tryz.func100 (by kernel_rfl) rfl)
        (backward_stops Fence.wide 4 trivial hro (by omega) wc.heap.size (.slice (some ⟨b, off, none⟩) n cap) zs (by omega) w _ (by simp) hbwa (by simp) hUz) KpB.trans (KpB.putObj (by simp; omega) (by simp)) (Below.refl _ _) (fun _ => rfl)
        (fun pre W => (TextAt W (w.heap.size + 1) tb (Bn.sgn z ++ Lib.decDigits top ++ padAll zs pre) ∧ W.heap[wc.heap.size]? = some (.cells #[.slice (some ⟨b, off, none⟩) n cap] 76)) ∧ Below w.heap.size w W)
        (fun _ _ _ => False)
        (OwnFrom.and (Own.from (fun s A B row hs hg hr => ⟨hs.1.kept hg hr, cells_kept hs.2 hg hr⟩) _) (ownFrom_below (Nat.le_refl _) (by simp; omega)))
        (fun _ _ _ _ _ hs _ _ => hs)
        ⟨⟨by simpa [padAll] using TextAt.alloc HT2.out _, World.alloc_heap_new wc _⟩, hbwa⟩
        (fun y => { tmps := #[.agg #[.int .i64 0, .pointer (some ⟨p, 0, none⟩)], .pointer (some ⟨w.heap.size, 0, none⟩), .string ⟨#[]⟩, .slice (some ⟨b, off, none⟩) (n + 1) cap, .pointer (some ⟨tb, 0, none⟩), .int .i64 (n : Int), undef, .int .u32 ((zs[y] : Nat) : Int), .pointer (some ⟨w.heap.size, 1, none⟩), .pointer (some ⟨p, 0, none⟩), .bool false, undef, undef, undef, .pointer (some ⟨w.heap.size, 1, none⟩), .pointer (some ⟨p, 0, none⟩), .pointer (some ⟨p, 0, none⟩), .pointer (some ⟨p, 1, none⟩), .slice (some ⟨b, off, none⟩) (n + 1) cap, .slice (some ⟨b, off, none⟩) (n + 1) cap, .int .i64 ((n : Int) + 1), .int .i64 (9 * ((n : Int) + 1)), .int .i64 (1 + 9 * ((n : Int) + 1)), .slice (some ⟨w.heap.size + 1, 0, none⟩) 0 (9 * (n + 1) + 1), u24, u25, u26, u27, u28, u29, u30, u31, u32, u33, u34, u35, u36, u37, u38, u39, u40, u41, .slice (some ⟨b, off, none⟩) (n + 1) cap, .int .i64 (n : Int), .slice (some ⟨b, off, none⟩) n cap, .func (.func 100) #[] #[.pointer (some ⟨wc.heap.size, 0, none⟩)], .int .i64 (y.val : Int), .int .u32 ((zs[y] : Nat) : Int), undef, undef, undef, undef, undef], defers := [] }) ?assign ?body ?done ?stop
      case assign =>
        intro l y W K hK
        simp only [limbEnc]
        gi_wp2
        exact hK
      case body =>
        rintro l pre y W ⟨⟨hT, hS⟩, hB⟩ hpl
        obtain ⟨v, hv, ho, _⟩ := hT
        have hy : zs[y] < 1000000000 := hzlt _ (List.getElem_mem y.isLt)
        have c0 : W.cell? ⟨tb, 0, none⟩ = some v := by simp [World.cell?, hv]
        have hWs : w.heap.size + 1 ≤ W.heap.size := by have := (Array.getElem?_eq_some_iff.1 hv).1; omega
        have hbl : (Bn.sgn z ++ Lib.decDigits top ++ padAll zs pre).length ≤ 100000000 := by
          have hdl : (Lib.decDigits top).length ≤ 10 := by rw [← Bn.dig0_pos htop0]; exact Bn.dig0_length top 10 (by omega)
          rw [List.length_append, List.length_append, padAll_length]; omega
        have HE : Hid (Bn.sgn z ++ Lib.decDigits top ++ padAll zs (pre ++ [y]) = Bn.sgn z ++ Lib.decDigits top ++ padAll zs pre ++ padK 9 zs[y]) := by show _ = _; rw [padAll_snoc, ← List.append_assoc]
        obtain ⟨a0, cp0, hvf⟩ := own_form ho
        subst hvf
        generalize Bn.sgn z ++ Lib.decDigits top ++ padAll zs pre = bs at *
        gi_wp2_with fail
        refine ⟨trivial, ?_⟩
        refine (CallsIn.inRound l (callsIn_wide.2 (appendLimb_any (w.heap.size + 1) zs[y] bs _ W ho hWs hbl hy))).mono ?_
        rintro e W' ⟨v', rfl, ho', hb', hk'⟩
        obtain ⟨h1, k0, k1⟩ := limb_keep hv hk'
        rw [List.length_append] at ho'
        obtain ⟨a1, cp1, hv1'⟩ := own_form ho'
        subst hv1'
        gi_wp2
        refine ⟨limb_others hk' hb' _, ⟨(hb'.mono (Nat.le_succ _)).setCell (p := ⟨tb, 0, none⟩) (show w.heap.size ≤ tb by omega) _, ?_⟩, ⟨?_, ?_⟩, (hB.trans (hb'.mono (Nat.le_succ _))).setCell (p := ⟨tb, 0, none⟩) (show w.heap.size ≤ tb by omega) _⟩
        · exact World.cell?_of_block (w := W) (a := ⟨wc.heap.size, 0, none⟩) ((box_kept hS hk' (by omega) _).trans hS.symm)
        · rw [HE.out]
          refine ⟨_, heap_setCell_box h1, ?_, hbt⟩
          rw [List.length_append]
          exact ownsRow_setCell_other ho' (TextAt.ne h1 ho') _
        · exact box_kept hS hk' (by omega) _
      case done =>
        rintro D ys W hD rfl ⟨⟨hT, _⟩, hB⟩ hK
        rw [HALL.out] at hT
        obtain ⟨v, hv, ho, _⟩ := hT
        have c0 : W.cell? ⟨tb, 0, none⟩ = some v := by simp [World.cell?, hv]
        have hne : Lib.itoa z ≠ [] := by
          rw [HI.out]
          have := Bn.dig0_length_pos hz0
          rw [Bn.dig0_pos hz0] at this
          intro e; rw [List.append_eq_nil_iff] at e; rw [e.2] at this; simp at this
        obtain ⟨g, cpg, rfl, hcell⟩ := owns_bytes ho hne
        have hconv := run_convert_bytes_back (P := Tryz.prog) W 101 9 5 ⟨g, 0, none⟩ cpg (Lib.itoa z) Tryz.underlying101 Tryz.underlying5 Tryz.underlying9 hcell
        clear hcell hne ho
        go_wp2
        refine ⟨by simp, .inl ⟨_, _, rfl, run_takeDeferred hK, ?_⟩⟩
        refine ⟨.string ⟨(Lib.itoa z).toArray⟩, ?_, rfl, hB.trans (belowK_b (w := w) (Nat.le_refl _) W D _ _ (by simp at hD; omega) hK rfl rfl)⟩
        simp [results, Tryz.results41, go_sem]
      case stop =>
        rintro D c pre W _ _ h _
        exact h.elim


end Go.Proofs.YtjffbndiecjkjaaGreatDoor
