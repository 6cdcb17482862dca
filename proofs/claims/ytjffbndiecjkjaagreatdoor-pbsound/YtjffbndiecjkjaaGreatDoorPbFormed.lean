/-
  Package pb: formed.
-/
import Derived.Test.YtjffbndiecjkjaaGreatDoorPbRows
import Derived.Deep.CutRange
import Derived.Deep.CutBlock
import Derived.Deep.RegionHeld3
import Derived.BigQuiet
namespace Go.Proofs.YtjffbndiecjkjaaGreatDoor
open Go.Shelf Go.RowKit Go.Lib Go.Sort
open Bn (limbs)


/-- What stays besides the pieces that are kept: the degree's box, the result's, the sum's. -/
structure FormAt (w : World) (dn : Int) (dq : Option Addr) (S : Int) (kv : Value) (LK : List PcV) (K : List (Int × Int)) (wr : World) : Prop where
  deg : wr.heap[w.heap.size]? = some (.cells #[.int .i64 dn, .pointer dq] 33)
  res : wr.heap[w.heap.size + 1]? = some (.cells #[.slice none 0 0, .int .i64 0, .pointer none] 35)
  sum : ∃ n q, wr.heap[w.heap.size + 1 + 1 + 1]? = some (.cells #[.int .i64 n, .pointer q] 33) ∧ BigAt wr (.agg #[.int .i64 n, .pointer q]) S
  kept : KeptAt wr (w.heap.size + 1 + 1) kv LK K
  notSum : kv.ownBlock ≠ some (w.heap.size + 1 + 1 + 1)
  rest : RowKit.Below w.heap.size w wr
theorem FormAt.below {w : World} {dn : Int} {dq : Option Addr} {S : Int} {kv : Value} {LK : List PcV} {K : List (Int × Int)} {wr w' : World} (h : FormAt w dn dq S kv LK K wr) (hb : RowKit.Below wr.heap.size wr w') : FormAt w dn dq S kv LK K w' := by
  obtain ⟨n, q, h1, h2⟩ := h.sum
  exact ⟨(hb.block _ (Array.getElem?_eq_some_iff.1 h.deg).1).trans h.deg, (hb.block _ (Array.getElem?_eq_some_iff.1 h.res).1).trans h.res, ⟨n, q, (hb.block _ (Array.getElem?_eq_some_iff.1 h1).1).trans h1, h2.below hb⟩, h.kept.below hb, h.notSum, h.rest.trans (hb.mono h.rest.size)⟩

/-- The cells of two pieces. -/
abbrev SixC (b o1 o2 : Nat) (xn : Int) (xq : Option Addr) (xl yn : Int) (yq : Option Addr) (yl : Int) (w' : World) : Prop :=
  w'.cell? ⟨b, o1, none⟩ = some (.int .i64 xn) ∧ w'.cell? ⟨b, o1 + 1, none⟩ = some (.pointer xq) ∧ w'.cell? ⟨b, o1 + 2, none⟩ = some (.int .i64 xl) ∧ w'.cell? ⟨b, o2, none⟩ = some (.int .i64 yn) ∧ w'.cell? ⟨b, o2 + 1, none⟩ = some (.pointer yq) ∧ w'.cell? ⟨b, o2 + 2, none⟩ = some (.int .i64 yl) ∧ b < w'.heap.size
theorem SixC.next {b o1 o2 : Nat} {xn : Int} {xq : Option Addr} {xl yn : Int} {yq : Option Addr} {yl : Int} {w1 w2 : World} (h : SixC b o1 o2 xn xq xl yn yq yl w1) (hb : RowKit.Below w1.heap.size w1 w2) : SixC b o1 o2 xn xq xl yn yq yl w2 := by
  obtain ⟨h1, h2, h3, h4, h5, h6, h7⟩ := h
  exact ⟨(hb.cell (p := ⟨b, _, none⟩) h7).trans h1, (hb.cell (p := ⟨b, _, none⟩) h7).trans h2, (hb.cell (p := ⟨b, _, none⟩) h7).trans h3, (hb.cell (p := ⟨b, _, none⟩) h7).trans h4, (hb.cell (p := ⟨b, _, none⟩) h7).trans h5, (hb.cell (p := ⟨b, _, none⟩) h7).trans h6, Nat.lt_of_lt_of_le h7 hb.size⟩

theorem wrap_succ {e m : Nat} (h : e < m) (hm : m ≤ 1000000) : wrap64 ((e : Int) + 1) = (e : Int) + 1 := by unfold wrap64; omega

def lenV : Value → Nat
  | .slice _ n _ => n
  | _ => 0
theorem compare_zero (x y : Int) : Lib.compareInt x y = 0 ↔ x = y := by
  unfold Lib.compareInt
  split
  · constructor <;> intro h <;> omega
  · split
    · constructor <;> intro h <;> omega
    · constructor <;> intro h <;> omega

theorem below_drewN {B : Nat} {a w : World} (h : RowKit.Below B a w) (q : Nat) : RowKit.Below B a (w.drewN q) := ⟨h.os, h.tape, h.output, h.size, h.block⟩

theorem two_objs (w : World) (o1 o2 : Obj) {W : World} (hW : (w.alloc o1).alloc o2 = W) :
    W.heap[w.heap.size]? = some o1 ∧ W.heap[w.heap.size + 1]? = some o2 ∧ RowKit.Below w.heap.size w W ∧ W.heap.size = w.heap.size + 2 := by
  subst hW
  refine ⟨?_, ?_, ((Below.refl _ _).alloc (Nat.le_refl _) _).alloc (by simp) _, by simp⟩
  · rw [Below.heap_alloc _ _ _ (by simp)]; exact World.alloc_heap_new w _
  · have := World.alloc_heap_new (w.alloc o1) o2
    simpa using this

theorem KeptAt.ne33 {w : World} {base P : Nat} {v : Value} {L : List PcV} {K : List (Int × Int)} {cs : Array Value} (h : KeptAt w base v L K) (hP : w.heap[P]? = some (.cells cs 33)) : v.ownBlock ≠ some P := by
  intro hv
  obtain ⟨⟨⟨_, ho⟩, _⟩, _⟩ := h
  rcases ho with ⟨hn, _⟩ | ⟨g, cap, cur, hv', _, hg, _⟩
  · rw [hn] at hv; simp [Value.ownBlock] at hv
  · rw [hv'] at hv
    simp [Value.ownBlock] at hv
    subst hv
    rw [hg] at hP
    injection hP with hP
    injection hP with _ e2 _
    exact absurd e2 (by decide)

theorem OwnF.off1 {F : Value → Prop} {w w' : World} {base : Nat} {e : TypeId} {size : Nat} {v : Value} {n : Nat} {xs : List Value} {P : Nat} (h : OwnF F w base e size v n xs) (hg : w.grownBy w' (some P)) (hne : v.ownBlock ≠ some P) : OwnF F w' base e size v n xs := by
  obtain ⟨⟨hl, ho⟩, hk⟩ := h
  rcases ho with hn | ⟨g, cap, cur, hv, hbg, hgg, h1, h2, h3, h4⟩
  · exact ⟨⟨hl, .inl hn⟩, fun g cur f hg => by rw [hn.1] at hg; simp [Value.ownBlock] at hg⟩
  · have hlt : g < w.heap.size := (Array.getElem?_eq_some_iff.1 hgg).1
    have hgP : some g ≠ some P := by rw [hv] at hne; simpa [Value.ownBlock] using hne
    have hg' : w'.heap[g]? = some (.cells cur e (0, 0)) := (hg.block g hlt hgP).trans hgg
    refine ⟨⟨hl, .inr ⟨g, cap, cur, hv, hbg, hg', h1, h2, h3, h4⟩⟩, fun g' cur' f hgv hc => ?_⟩
    rw [hv] at hgv
    simp [Value.ownBlock] at hgv
    subst hgv
    rw [hg'] at hc
    injection hc with hc
    injection hc with hc1 hc2 hc3
    subst hc1
    exact hk g cur (0, 0) (by rw [hv]; rfl) hgg

theorem grown_box (w : World) (P : Nat) (a b : Value) : w.grownBy ((w.setCell ⟨P, 0, none⟩ a).setCell ⟨P, 1, none⟩ b) (some P) :=
  ⟨rfl, rfl, rfl, by simp [World.setCell], fun k _ hne => ((Below.heap_setCell _ ⟨P, 1, none⟩ b k (fun h => hne (by rw [h]))).trans (Below.heap_setCell _ ⟨P, 0, none⟩ a k (fun h => hne (by rw [h]))))⟩

theorem FormAt.store {w : World} {dn : Int} {dq : Option Addr} {S S' : Int} {kv : Value} {LK : List PcV} {K : List (Int × Int)} {wr : World} {n : Int} {q : Option Addr} (h : FormAt w dn dq S kv LK K wr) (hr : BigAt wr (.agg #[.int .i64 n, .pointer q]) S') :
    FormAt w dn dq S' kv LK K ((wr.setCell ⟨w.heap.size + 1 + 1 + 1, 0, none⟩ (.int .i64 n)).setCell ⟨w.heap.size + 1 + 1 + 1, 1, none⟩ (.pointer q)) := by
  obtain ⟨n0, q0, h1, h2⟩ := h.sum
  have hg := grown_box wr (w.heap.size + 1 + 1 + 1) (.int .i64 n) (.pointer q)
  refine ⟨(hg.block _ (Array.getElem?_eq_some_iff.1 h.deg).1 (by simp; omega)).trans h.deg, (hg.block _ (Array.getElem?_eq_some_iff.1 h.res).1 (by simp)).trans h.res, ⟨n, q, box_over h1 _ _, hr.setBox h1 _ _⟩, ⟨h.kept.1.off1 hg h.notSum, h.kept.2.mono (fun _ _ hB => hB.setBox h1 _ _)⟩, h.notSum, (h.rest.setCell (p := ⟨w.heap.size + 1 + 1 + 1, 0, none⟩) (by simp only; omega) _).setCell (p := ⟨w.heap.size + 1 + 1 + 1, 1, none⟩) (by simp only; omega) _⟩

theorem FormAt.append {w : World} {dn : Int} {dq : Option Addr} {S : Int} {kv v' : Value} {LK LK' : List PcV} {K K' : List (Int × Int)} {wr w' : World} {o : Obj} (h : FormAt w dn dq S kv LK K wr) (hk : KeptAt w' (w.heap.size + 1 + 1) v' LK' K') (hb : RowKit.Below (w.heap.size + 1 + 1) wr w') (hg : (wr.alloc o).grownBy w' kv.ownBlock) (hB : ∀ u z, BigAt wr u z → BigAt w' u z) :
    FormAt w dn dq S v' LK' K' w' := by
  obtain ⟨n0, q0, h1, h2⟩ := h.sum
  have hsum : w'.heap[w.heap.size + 1 + 1 + 1]? = some (.cells #[.int .i64 n0, .pointer q0] 33) := by
    have hl := (Array.getElem?_eq_some_iff.1 h1).1
    rw [hg.block _ (by simp; omega) (fun e => h.notSum e.symm), Below.heap_alloc _ _ _ hl]; exact h1
  exact ⟨(hb.block _ (by omega)).trans h.deg, (hb.block _ (by omega)).trans h.res, ⟨n0, q0, hsum, hB _ _ h2⟩, hk, hk.ne33 hsum, h.rest.trans (hb.mono (by omega))⟩

theorem one_nonneg (g : List (Int × Int)) (v : Nat) : 0 ≤ (Pm.one g v).1 := by
  unfold Pm.one; split <;> simp only <;> omega
theorem take_more {α : Type} (l : List α) (j e : Nat) : l.take (j + e) = l.take j ++ (l.drop j).take e := List.take_add
theorem climbs_below {ps : List (Int × Int)} {j e : Nat} {v : Nat} (hc : Climbs ps) (hj : j < ps.length) (hv : ps[j].2.natAbs = v) (hlow : ∀ p ∈ ps.take j, p.2.natAbs < v) (hje : j + e < ps.length) (hsame : ∀ p ∈ (ps.drop j).take e, p.2.natAbs = v) (hd : ¬ ps[j + e].2.natAbs = v) : ∀ p ∈ ps.take (j + e), p.2.natAbs < ps[j + e].2.natAbs := by
  have h1 : v ≤ ps[j + e].2.natAbs := by
    rcases Nat.eq_zero_or_pos e with h | h
    · subst h; simp [hv]
    · rw [← hv]; exact hc j (j + e) hj hje (by omega)
  intro p hp
  rw [take_more] at hp
  rcases List.mem_append.1 hp with hp | hp
  · have := hlow p hp; omega
  · have := hsame p hp; omega

set_option maxRecDepth 100000 in
set_option maxHeartbeats 4000000 in
theorem formed_any (b cap : Nat) (L : List PcV) (ps : List (Int × Int)) (dn : Int) (dq : Option Addr) (d : Int) (w : World) (hH : HoldsK encP 3 w b 0 L.toArray) (hb : b < w.heap.size) (hS : Says w L ps) (hcl : Climbs ps) (hlit : ∀ p ∈ ps, IsLit p.2)
    (hn : L.length ≤ 1000000) (hcap : L.length ≤ cap) (hD : BigAt w (.agg #[.int .i64 dn, .pointer dq]) d) (hab : (limbs (Pm.absS ps)).length ≤ 900000) (hdl : (limbs d.natAbs).length ≤ 900000) :
    Calls Tryz.prog 38 #[.slice (some ⟨b, 0, none⟩) L.length cap, .agg #[.int .i64 dn, .pointer dq]] w fun e w' => ∃ v K D, e = .returned v ∧ Pm.IsForm ps d K D ∧ PbAt w' v K D ∧ (∀ p ∈ K, IsLit p.2) ∧ K.length ≤ ps.length ∧ RowKit.Below w.heap.size w w' := by
  obtain ⟨N, hN⟩ : ∃ N : Nat, L.length = N := ⟨_, rfl⟩
  have HN : Hid (L.length = N) := hN
  have HH : Hid (HoldsK encP 3 w b 0 L.toArray) := hH
  have HS : Hid (Says w L ps) := hS
  have HD : Hid (BigAt w (.agg #[.int .i64 dn, .pointer dq]) d) := hD
  have Hcl : Hid (Climbs ps) := hcl
  have Hlit : Hid (∀ p ∈ ps, IsLit p.2) := hlit
  have Hab : Hid ((limbs (Pm.absS ps)).length ≤ 900000) := hab
  have Hdl : Hid ((limbs d.natAbs).length ≤ 900000) := hdl
  have hN6 : N ≤ 1000000 := by omega
  have hNc : N ≤ cap := by omega
  obtain ⟨i0, hi, hz0, hz1, hz2⟩ := info_parts Tryz.info67
  have hmake : ∀ w, (Instr.makeSlice 30 (.int .i64 0) (.int .i64 (N : Int))).run Tryz.prog w = .ok (.slice (some ⟨w.heap.size, 0, none⟩) 0 N) (w.alloc (.cells (madeCells #[.int .i64 0, .pointer none, .int .i64 0] (N * 3)) 67)) := fun w => by
    have := run_make (P := Tryz.prog) w 30 67 i0 _ pieceSlice hi hz0 .i64 .i64 0 (N : Int) (by omega) (by omega) (by rw [hz2]; omega) (by omega)
    rw [hz1] at this
    simpa [Value.cells] using this
  rw [hN]
  clear hN hH hS hcl hlit hn hcap hD hab hdl hi hz0 hz1 hz2
  go_enter Tryz.func38, Tryz.ntmps38
  go_wp2_with fail
  generalize hW : (((w.alloc (.cells #[.int .i64 dn, .pointer dq] 33)).alloc (.cells #[.slice none 0 0, .int .i64 0, .pointer none] 35)).alloc (.cells (madeCells #[.int .i64 0, .pointer none, .int .i64 0] (N * 3)) 67)).alloc (.cells #[.int .i64 0, .pointer none] 33) = W
  obtain ⟨hR1, hR2, hP, hQ, hBW, hsz⟩ := four_objs w _ _ _ _ hW
  have HF0 : Hid (FormAt w dn dq 0 (.slice (some ⟨w.heap.size + 1 + 1, 0, none⟩) 0 N) [] [] W) := by
    refine ⟨hR1, hR2, ⟨0, none, hQ, .inl ⟨by unfold Fits; omega, rfl⟩⟩, ⟨⟨⟨rfl, .inr ⟨w.heap.size + 1 + 1, N, _, rfl, Nat.le_refl _, hP, Nat.zero_le _, by unfold maxLen; omega, by rw [size_madeCells], by simp [pcCells]⟩⟩, ?_⟩, rfl, fun i h1 h2 => by simp at h1⟩, by simp [Value.ownBlock], hBW⟩
    intro g cur f hg hc
    simp [Value.ownBlock] at hg
    subst hg
    rw [hP] at hc
    injection hc with hc
    injection hc with e1 e2 e3
    subst e1
    exact madeCells_plain _ (pcCells_plain [(0, none, 0)]) _ (by decide)
  clear hW hR1 hR2 hP hQ hBW hsz hmake
  go_loopw [0, 5] (fun pv kv wr => ∃ (j : Nat) (a : Option Addr) (LK : List PcV) (K : List (Int × Int)) (S : Int), pv = .slice a (N - j) (cap - j) ∧ (j < N → a = some ⟨b, j * 3, none⟩) ∧ j ≤ N ∧ Hid (Pm.Upto (ps.take j) K S ∧ S.natAbs ≤ Pm.absS (ps.take j) ∧ LK.length ≤ j ∧ ∀ h : j < ps.length, ∀ p ∈ ps.take j, p.2.natAbs < ps[j].2.natAbs) ∧ Hid (FormAt w dn dq S kv LK K wr)) (fun pv _ _ => lenV pv)
  case atStart => exact ⟨0, _, [], [], 0, rfl, fun _ => by simp, Nat.zero_le _, ⟨by simpa using Pm.Upto.start, by simp, by simp, fun _ p hp => by simp at hp⟩, HF0⟩
  case round =>
    obtain ⟨j, a, LK, K, S, rfl, ha, hjN, hU, hF⟩ := hrel
    clear HF0
    by_cases hj : j < N
    · obtain rfl := ha hj
      clear ha
      obtain ⟨m, hm⟩ : ∃ m, N - j = m := ⟨_, rfl⟩
      obtain ⟨c, hc⟩ : ∃ c, cap - j = c := ⟨_, rfl⟩
      have Hm : Hid (N - j = m) := hm
      have Hc : Hid (cap - j = c) := hc
      have hm0 : (0 : Int) < (m : Int) := by omega
      have hmc : m ≤ c := by omega
      have hm6 : m ≤ 1000000 := by omega
      have hjp : j < ps.length := by have := HS.out.1; have := HN.out; omega
      have hjL : j < L.length := by have := HN.out; omega
      obtain ⟨v, hv⟩ : ∃ v, ps[j].2.natAbs = v := ⟨_, rfl⟩
      have HjL : Hid (L.length = j + m) := by show _ = _; have := HN.out; omega
      have Hjp : Hid (ps.length = j + m) := by show _ = _; have := HS.out.1; have := HN.out; omega
      rw [hm, hc]
      clear hm hc
      rename World => wo
      have hmN : 0 < m := by omega
      have hmb : decide (0 < m) = true := decide_eq_true hmN
      go_upto_block 2 with fail
      go_cut [7] from 13 to 53 (fun ev wx => ∃ e : Nat, ev = .int .i64 (e : Int) ∧ 1 ≤ e ∧ e ≤ m ∧ Hid (∀ p ∈ (ps.drop j).take e, p.2.natAbs = v) ∧ (e < m → ∀ h : j + e < ps.length, Hid (¬ ps[j + e].2.natAbs = v)) ∧ Hid (RowKit.Below wo.heap.size wo wx))
      case first =>
        go_wp2_with fail
        go_loopw [7] (fun ev wx => ∃ e : Nat, ev = .int .i64 (e : Int) ∧ 1 ≤ e ∧ e ≤ m ∧ Hid (∀ p ∈ (ps.drop j).take e, p.2.natAbs = v) ∧ Hid (RowKit.Below wo.heap.size wo wx)) (fun ev _ => m - (intOf ev).toNat)
        case atStart =>
          refine ⟨1, rfl, Nat.le_refl _, by omega, ?_, Below.refl _ _⟩
          intro p hp
          have e1 : (ps.drop j).take 1 = [ps[j]] := by rw [List.drop_eq_getElem_cons hjp]; rfl
          rw [e1] at hp
          rw [List.mem_singleton.1 hp]; exact hv
        case round =>
          obtain ⟨e, rfl, he1, hem, hsame, hbx⟩ := hrel
          by_cases he : e < m
          · have heI : (e : Int) < (m : Int) := by omega
            have HEW : Hid (wrap64 ((e : Int) + 1) = (e : Int) + 1) := wrap_succ he hm6
            have hjeL : j + e < L.length := by rw [HjL.out]; exact Nat.add_lt_add_left he j
            have hjep : j + e < ps.length := by rw [Hjp.out]; exact Nat.add_lt_add_left he j
            have hm0N : 0 < m := Nat.lt_of_lt_of_le Nat.zero_lt_one (Nat.le_trans he1 hem)
            have hwx : RowKit.Below w.heap.size w wr := hF.out.rest.trans (hbx.out.mono hF.out.rest.size)
            have hpart := HoldsK.keep (holds_part HH.out j m (Nat.le_of_eq HjL.out.symm)) hwx hb
            have hlen' : ((L.drop j).take m).length = m := by rw [List.length_take, List.length_drop, HjL.out, Nat.add_sub_cancel_left, Nat.min_self]
            obtain ⟨c0, c1, c2⟩ := pc_cells hpart (k := 0) (by rw [hlen']; exact hm0N)
            obtain ⟨d0, d1, d2⟩ := pc_cells hpart (k := e) (by rw [hlen']; exact he)
            have g0 : ((L.drop j).take m)[0]'(by rw [hlen']; exact hm0N) = L[j] := by simp
            have ge : ((L.drop j).take m)[e]'(by rw [hlen']; exact he) = L[j + e] := by simp
            rw [g0] at c0 c1 c2
            rw [ge] at d0 d1 d2
            simp only [Nat.zero_mul, Nat.add_zero] at c0 c1 c2
            have e0 := (HS.out.2 j hjL hjp).2
            have ee := (HS.out.2 (j + e) hjeL hjep).2
            have l0 := Hlit.out _ (List.getElem_mem hjp)
            have le := Hlit.out _ (List.getElem_mem hjep)
            obtain ⟨x, hx⟩ : ∃ x, L[j] = x := ⟨_, rfl⟩
            obtain ⟨y, hy⟩ : ∃ y, L[j + e] = y := ⟨_, rfl⟩
            rw [hx] at c0 c1 c2 e0
            rw [hy] at d0 d1 d2 ee
            obtain ⟨xn, xq, xl⟩ := x
            obtain ⟨yn, yq, yl⟩ := y
            simp only at c0 c1 c2 d0 d1 d2 e0 ee
            have hvx : vv xl = (v : Int) := by rw [e0, vv_lit l0, hv]
            have hvy : vv yl = ((ps[j + e].2.natAbs : Nat) : Int) := by rw [ee, vv_lit le]
            obtain ⟨r, hrr⟩ : ∃ r, Lib.compareInt (v : Int) ((ps[j + e].2.natAbs : Nat) : Int) = r := ⟨_, rfl⟩
            have hcmp : Hid (∀ w', Calls Tryz.prog 68 #[.agg #[.int .i64 xn, .pointer xq, .int .i64 xl], .agg #[.int .i64 yn, .pointer yq, .int .i64 yl]] w' fun res w'' => res = .returned (.int .i64 r) ∧ RowKit.Below w'.heap.size w' w'') := fun w' => by
              have h := byVariable_any (xn, xq, xl) (yn, yq, yl) w'
              simp only at h
              rw [hvx, hvy, hrr] at h
              refine h.mono ?_
              rintro r w'' ⟨rfl, q, os, rfl⟩
              exact ⟨rfl, below_grow w' q os⟩
            have hz := compare_zero (v : Int) ((ps[j + e].2.natAbs : Nat) : Int)
            have htk : (ps.drop j).take (e + 1) = (ps.drop j).take e ++ [ps[j + e]] := by
              rw [List.take_succ_eq_append_getElem (by rw [List.length_drop, Hjp.out, Nat.add_sub_cancel_left]; exact he)]; simp
            rw [hrr] at hz
            clear hrr
            clear hvx hvy e0 ee l0 le hx hy g0 ge hlen' hpart
            by_cases hr : r = 0
            · have Hnx : Hid (∀ p ∈ (ps.drop j).take (e + 1), p.2.natAbs = v) := by
                intro p hp
                rw [htk] at hp
                rcases List.mem_append.1 hp with hp | hp
                · exact hsame.out p hp
                · rw [List.mem_singleton.1 hp]; exact (Int.ofNat_inj.1 (hz.1 hr)).symm
              subst hr
              clear hz htk
              go_wp2_with fail
              have h6 : SixC b (j * 3) (j * 3 + e * 3) xn xq xl yn yq yl wr.drew := ⟨c0, c1, c2, d0, d1, d2, Nat.lt_of_lt_of_le hb hwx.size⟩
              go_region_held3 (fun w' => w'.cell? ⟨b, j * 3, none⟩ = some (.int .i64 xn) ∧ w'.cell? ⟨b, j * 3 + 1, none⟩ = some (.pointer xq) ∧ w'.cell? ⟨b, j * 3 + 2, none⟩ = some (.int .i64 xl) ∧ w'.cell? ⟨b, j * 3 + e * 3, none⟩ = some (.int .i64 yn) ∧ w'.cell? ⟨b, j * 3 + e * 3 + 1, none⟩ = some (.pointer yq) ∧ w'.cell? ⟨b, j * 3 + e * 3 + 2, none⟩ = some (.int .i64 yl) ∧ b < w'.heap.size) (first | with_reducible exact h6 | with_reducible exact SixC.next h6 hb2) (first | (go_at_call 68; refine calls_at (hcmp.out _) (by with_reducible rfl) (by with_reducible rfl) ?_; rintro e' w2 ⟨rfl, hb2⟩))
              all_goals
                have hfin : Hid (RowKit.Below wo.heap.size wo w2) := hbx.out.drew.trans (hb2.mono hbx.out.size)
                go_wp2_with fail
                go_roundw
                case rel => exact ⟨e + 1, rfl, Nat.le_add_left 1 e, he, Hnx, hfin⟩
                case measure => (simp only [intOf]; exact Nat.sub_lt_sub_left he (Nat.lt_succ_self e))
            · have hrb : (r == 0) = false := by simp [hr]
              have Hdiff : Hid (¬ ps[j + e].2.natAbs = v) := fun h => hr (hz.2 (by rw [h]))
              clear hz htk
              go_wp2_with fail
              have h6 : SixC b (j * 3) (j * 3 + e * 3) xn xq xl yn yq yl wr.drew := ⟨c0, c1, c2, d0, d1, d2, Nat.lt_of_lt_of_le hb hwx.size⟩
              go_region_held3 (fun w' => w'.cell? ⟨b, j * 3, none⟩ = some (.int .i64 xn) ∧ w'.cell? ⟨b, j * 3 + 1, none⟩ = some (.pointer xq) ∧ w'.cell? ⟨b, j * 3 + 2, none⟩ = some (.int .i64 xl) ∧ w'.cell? ⟨b, j * 3 + e * 3, none⟩ = some (.int .i64 yn) ∧ w'.cell? ⟨b, j * 3 + e * 3 + 1, none⟩ = some (.pointer yq) ∧ w'.cell? ⟨b, j * 3 + e * 3 + 2, none⟩ = some (.int .i64 yl) ∧ b < w'.heap.size) (first | with_reducible exact h6 | with_reducible exact SixC.next h6 hb2) (first | (go_at_call 68; refine calls_at (hcmp.out _) (by with_reducible rfl) (by with_reducible rfl) ?_; rintro e' w2 ⟨rfl, hb2⟩))
              all_goals
                have hfin : Hid (RowKit.Below wo.heap.size wo w2) := hbx.out.drew.trans (hb2.mono hbx.out.size)
                go_wp2_with fail
                go_meet
                exact ⟨e, rfl, he1, hem, hsame, fun _ _ => Hdiff, hfin⟩
          · have heI : decide ((e : Int) < (m : Int)) = false := decide_eq_false (by omega)
            have heI2 : ¬ (e : Int) < (m : Int) := by omega
            have hem2 : ¬ e < m := he
            go_wp2_with fail
            go_quiet (fail)
            all_goals
              go_wp2_with fail
              go_meet
              exact ⟨e, rfl, he1, hem, hsame, fun h => absurd h hem2, below_drewN hbx.out _⟩
      case rest =>
        obtain ⟨e, rfl, he1, hem, hsame, hdiff, hbx⟩ := hcut
        have hFc := hF.out.below hbx.out
        have hwc : RowKit.Below w.heap.size w wc := hFc.rest
        have hec : e ≤ c := Nat.le_trans hem hmc
        have he0 : (0 : Int) ≤ (e : Int) := Int.natCast_nonneg e
        have hlenL : ((L.drop j).take e).length = e := by rw [List.length_take, List.length_drop, HjL.out, Nat.add_sub_cancel_left]; exact Nat.min_eq_left hem
        have hlenp : ((ps.drop j).take e).length = e := by rw [List.length_take, List.length_drop, Hjp.out, Nat.add_sub_cancel_left]; exact Nat.min_eq_left hem
        obtain ⟨g, hg⟩ : ∃ g, (ps.drop j).take e = g := ⟨_, rfl⟩
        have habs : Pm.absS g ≤ Pm.absS ps := by rw [← hg]; exact Nat.le_trans (Pm.absS_take _ _) (Pm.absS_drop _ _)
        have hlitg : ∀ p ∈ g, IsLit p.2 := fun p hp => Hlit.out p (List.mem_of_mem_drop (List.mem_of_mem_take (hg ▸ hp)))
        have HT : Hid (Calls Tryz.prog 69 #[.slice (some ⟨b, j * 3, none⟩) e c] wc fun r w' => ∃ n q n2 q2, r = .returned (.tuple #[.agg #[.int .i64 n, .pointer q, .int .i64 (Pm.one g v).2], .agg #[.int .i64 n2, .pointer q2]]) ∧
            BigAt w' (.agg #[.int .i64 n, .pointer q]) (Pm.one g v).1 ∧ BigAt w' (.agg #[.int .i64 n2, .pointer q2]) (Pm.always g) ∧ RowKit.Below wc.heap.size wc w') := by
          have h := together_any b (j * 3) c ((L.drop j).take e) ((ps.drop j).take e) v wc (HoldsK.keep (holds_part HH.out j e (by rw [HjL.out]; exact Nat.add_le_add_left hem j)) hwc hb) (Nat.lt_of_lt_of_le hb hwc.size) ((says_part HS.out j e).mono (fun _ _ h => h.below hwc)) (by rw [hlenL]; exact he1) (by rw [hlenL]; exact Nat.le_trans hem hm6) hsame.out (by rw [hg]; exact hlitg)
            (fun k => by
              rw [hg]
              have h1 := Pm.absS_take g k
              have hL := Hab.out
              exact ⟨Nat.le_trans (limbs_abs (Nat.le_trans (Pm.pos_abs _) (Nat.le_trans h1 habs)) hL) (by decide), Nat.le_trans (limbs_abs (Nat.le_trans (Pm.neg_abs _) (Nat.le_trans h1 habs)) hL) (by decide)⟩)
            (fun p hp => by rw [hg] at hp; exact Nat.le_trans (limbs_abs (Nat.le_trans (Pm.absS_mem hp) habs) Hab.out) (by decide))
          rw [hlenL, hg] at h
          exact h
        have hoz := one_nonneg g v
        have hup : Pm.Upto (ps.take (j + e)) (if 0 < (Pm.one g v).1 then K ++ [Pm.one g v] else K) (S + Pm.always g) := by
          rw [take_more, hg]
          have hv0 : 0 < v := by have := (Hlit.out _ (List.getElem_mem hjp)).1; rw [← hv]; exact Int.natAbs_pos.2 this
          refine hU.out.1.next hv0 (by rw [← hg]; exact hsame.out) (by intro h0; rw [← hg] at h0; rw [h0] at hlenp; simp at hlenp; omega) (fun p hp => by have := hU.out.2.2.2 hjp p hp; rw [hv] at this; exact this)
        have hSb : (S + Pm.always g).natAbs ≤ Pm.absS (ps.take (j + e)) := by
          rw [take_more, hg, Pm.absS_append]
          have h1 := hU.out.2.1
          have h2 := Pm.always_abs g
          omega
        have hSl : (limbs S.natAbs).length ≤ 1000000 := Nat.le_trans (limbs_abs (Nat.le_trans hU.out.2.1 (Pm.absS_take _ _)) Hab.out) (by decide)
        have hal : (limbs (Pm.always g).natAbs).length ≤ 1000000 := Nat.le_trans (limbs_abs (Nat.le_trans (Pm.always_abs g) habs) Hab.out) (by decide)
        have hnext : ∀ h : j + e < ps.length, ∀ p ∈ ps.take (j + e), p.2.natAbs < ps[j + e].2.natAbs := fun h => by
          have hlt : e < m := by have := Hjp.out; omega
          exact climbs_below Hcl.out hjp hv (fun p hp => by have := hU.out.2.2.2 hjp p hp; rw [hv] at this; exact this) h hsame.out (hdiff hlt h).out
        obtain ⟨o, ho⟩ : ∃ o, Pm.one g v = o := ⟨_, rfl⟩
        obtain ⟨oz, ol⟩ := o
        obtain ⟨az, haz⟩ : ∃ az, Pm.always g = az := ⟨_, rfl⟩
        rw [ho] at hoz hup
        rw [ho, haz] at HT
        rw [haz] at hup hSb hal
        simp only at hoz hup HT
        have HFc : Hid (FormAt w dn dq S u5 LK K wc) := hFc
        have HUP : Hid (Pm.Upto (ps.take (j + e)) (if 0 < oz then K ++ [(oz, ol)] else K) (S + az)) := hup
        have HSb : Hid ((S + az).natAbs ≤ Pm.absS (ps.take (j + e))) := hSb
        have HSl : Hid ((limbs S.natAbs).length ≤ 1000000 ∧ (limbs az.natAbs).length ≤ 1000000) := ⟨hSl, hal⟩
        have HNx : Hid (∀ h : j + e < ps.length, ∀ p ∈ ps.take (j + e), p.2.natAbs < ps[j + e].2.natAbs) := hnext
        have HLK : Hid (LK.length ≤ j) := hU.out.2.2.1
        clear hnext hSl hal hSb hup hlitg habs hlenL hlenp hFc ho haz hg hdiff hsame hU hF hbx hwc
        go_wp2_with fail
        refine HT.out.mono ?_
        rintro r w1 ⟨n1, q1, n2, q2, rfl, hB1, hB2, hb1⟩
        have HB1 : Hid (BigAt w1 (.agg #[.int .i64 n1, .pointer q1]) oz) := hB1
        have HB2 : Hid (BigAt w1 (.agg #[.int .i64 n2, .pointer q2]) az) := hB2
        have HF1 : Hid (FormAt w dn dq S u5 LK K w1) := HFc.out.below hb1
        clear hB1 hB2 hb1 HT HFc
        go_wp2_with fail
        obtain ⟨V, hV⟩ : ∃ V, (w1.alloc (.cells #[.int .i64 n1, .pointer q1, .int .i64 ol] 67)).alloc (.cells #[.int .i64 n2, .pointer q2] 33) = V := ⟨_, rfl⟩
        obtain ⟨hO1, hO2, hbV, hzV⟩ := two_objs w1 _ _ hV
        rw [hV]
        have HFV : Hid (FormAt w dn dq S u5 LK K V) := HF1.out.below hbV
        have HB1V : Hid (BigAt V (.agg #[.int .i64 n1, .pointer q1]) oz) := HB1.out.below hbV
        have HB2V : Hid (BigAt V (.agg #[.int .i64 n2, .pointer q2]) az) := HB2.out.below hbV
        have Hown : Hid (∀ g, u5.ownBlock = some g → g < w1.heap.size) := fun g hg => (HF1.out.kept.1.1.lt g hg).2
        have HZV : Hid (V.heap.size = w1.heap.size + 2) := hzV
        have HO1 : Hid (V.heap[w1.heap.size]? = some (.cells #[.int .i64 n1, .pointer q1, .int .i64 ol] 67)) := hO1
        have HO2 : Hid (V.heap[w1.heap.size + 1]? = some (.cells #[.int .i64 n2, .pointer q2] 33)) := hO2
        have hLK6 : LK.length ≤ 1000000 := by have := HLK.out; omega
        have hbase : w.heap.size + 1 + 1 ≤ V.heap.size := by have h1 := HFV.out.sum; obtain ⟨_, _, h2, _⟩ := h1; have := (Array.getElem?_eq_some_iff.1 h2).1; omega
        clear hV hO1 hO2 hbV hzV HF1 HB1 HB2
        by_cases hpos : 0 < oz
        · as_aux_lemma =>
            rw [if_pos hpos] at HUP
            have hsg := sign_big oz _ V HB1V.out
            rw [Int.sign_eq_one_of_pos hpos] at hsg
            refine hsg.mono ?_
            rintro r w2 ⟨rfl, hb2⟩
            have HF2 : Hid (FormAt w dn dq S u5 LK K w2) := HFV.out.below hb2
            have HB12 : Hid (BigAt w2 (.agg #[.int .i64 n1, .pointer q1]) oz) := HB1V.out.below hb2
            have HB22 : Hid (BigAt w2 (.agg #[.int .i64 n2, .pointer q2]) az) := HB2V.out.below hb2
            have hO12 : w2.heap[w1.heap.size]? = some (.cells #[.int .i64 n1, .pointer q1, .int .i64 ol] 67) := (hb2.block _ (Array.getElem?_eq_some_iff.1 HO1.out).1).trans HO1.out
            have HO22 : Hid (w2.heap[w1.heap.size + 1]? = some (.cells #[.int .i64 n2, .pointer q2] 33)) := (hb2.block _ (Array.getElem?_eq_some_iff.1 HO2.out).1).trans HO2.out
            have hbase2 : w.heap.size + 1 + 1 ≤ w2.heap.size := Nat.le_trans hbase hb2.size
            have k0 : w2.cell? ⟨w1.heap.size, 0, none⟩ = some (.int .i64 n1) := by simp [World.cell?, hO12]
            have k1 : w2.cell? ⟨w1.heap.size, 1, none⟩ = some (.pointer q1) := by simp [World.cell?, hO12]
            have k2 : w2.cell? ⟨w1.heap.size, 2, none⟩ = some (.int .i64 ol) := by simp [World.cell?, hO12]
            clear hsg hpos hO12 hb2 HFV HB1V HB2V HO1 HO2 hbase
            go_wp2_with (at_builtin; refine append_piece w2 n1 q1 ol (oz, ol) rfl (.tmp 44) (.tmp 46) rfl (w.heap.size + 1 + 1) _ LK K (by rfl) HF2.out.kept ⟨HB12.out, rfl⟩ _ rfl (by rfl) hLK6 hbase2 ?_; intro v3 w3 hK3 hb3 hg3 hB3; have hF3 := FormAt.append HF2.out hK3 hb3 hg3 hB3; obtain ⟨sn, sq, hs3, hsB3⟩ := hF3.sum; have hz3 : w3.heap[w1.heap.size + 1]? = some (.cells #[.int .i64 n2, .pointer q2] 33) := (hg3.block _ (by have := (Array.getElem?_eq_some_iff.1 HO22.out).1; simp; omega) (fun e => by have := Hown.out _ e.symm; omega)).trans ((Below.heap_alloc _ _ _ (Array.getElem?_eq_some_iff.1 HO22.out).1).trans HO22.out); obtain ⟨z0, z1, z2, z3⟩ := box_facts hz3; obtain ⟨s0, s1, s2, s3⟩ := box_facts hs3; have HF3 : Hid (FormAt w dn dq S v3 (LK ++ [(n1, q1, ol)]) (K ++ [(oz, ol)]) w3) := hF3; have HS3 : Hid (BigAt w3 (.agg #[.int .i64 sn, .pointer sq]) S) := hsB3; have HZ3 : Hid (BigAt w3 (.agg #[.int .i64 n2, .pointer q2]) az) := hB3 _ _ HB22.out; clear hK3 hb3 hg3 hB3 hF3 hs3 hsB3 hz3 k0 k1 k2)
            refine (add_big S az _ _ w3 HS3.out HZ3.out HSl.out.1 HSl.out.2).mono ?_
            rintro r w4 ⟨r4, rfl, hB4, hb4⟩
            obtain ⟨n4, q4, rfl⟩ := hB4.shape
            have hF4 := HF3.out.below hb4
            obtain ⟨tn, tq, ht4, _⟩ := hF4.sum
            obtain ⟨t0, t1, t2, t3⟩ := box_facts ht4
            have HF5 : Hid (FormAt w dn dq (S + az) v3 (LK ++ [(n1, q1, ol)]) (K ++ [(oz, ol)]) ((w4.setCell ⟨w.heap.size + 1 + 1 + 1, 0, none⟩ (.int .i64 n4)).setCell ⟨w.heap.size + 1 + 1 + 1, 1, none⟩ (.pointer q4))) := FormAt.store hF4 hB4
            have HR : Hid (Pm.Upto (ps.take (j + e)) (K ++ [(oz, ol)]) (S + az) ∧ (S + az).natAbs ≤ Pm.absS (ps.take (j + e)) ∧ (LK ++ [(n1, q1, ol)]).length ≤ j + e ∧ ∀ h : j + e < ps.length, ∀ p ∈ ps.take (j + e), p.2.natAbs < ps[j + e].2.natAbs) := ⟨HUP.out, HSb.out, (by have := HLK.out; rw [List.length_append, List.length_singleton]; exact Nat.add_le_add this he1), HNx.out⟩
            clear hF4 ht4 hB4 hb4 HF3 HS3 HZ3 s0 s1 s2 s3 z0 z1 z2 z3 HUP HSb HNx
            go_wp2_with fail
            go_roundw
            case rel => exact ⟨j + e, _, _, _, S + az, by have := Hm.out; have := Hc.out; rw [show N - (j + e) = m - e by omega, show cap - (j + e) = c - e by omega], fun hlt => by have h1 := Hm.out; have h2 := Hc.out; rw [if_neg (by omega), Nat.add_mul], by have := Hm.out; omega, HR, HF5⟩
            case measure => simp only [lenV]; omega
        · as_aux_lemma =>
            obtain rfl : oz = 0 := by omega
            rw [if_neg hpos] at HUP
            have hsg := sign_big 0 _ V HB1V.out
            rw [Int.sign_zero] at hsg
            refine hsg.mono ?_
            rintro r w3 ⟨rfl, hb2⟩
            have HF3 : Hid (FormAt w dn dq S u5 LK K w3) := HFV.out.below hb2
            have HZ3 : Hid (BigAt w3 (.agg #[.int .i64 n2, .pointer q2]) az) := HB2V.out.below hb2
            have hz3 : w3.heap[w1.heap.size + 1]? = some (.cells #[.int .i64 n2, .pointer q2] 33) := (hb2.block _ (Array.getElem?_eq_some_iff.1 HO2.out).1).trans HO2.out
            obtain ⟨sn, sq, hs3, hsB3⟩ := HF3.out.sum
            have HS3 : Hid (BigAt w3 (.agg #[.int .i64 sn, .pointer sq]) S) := hsB3
            obtain ⟨z0, z1, z2, z3⟩ := box_facts hz3
            obtain ⟨s0, s1, s2, s3⟩ := box_facts hs3
            clear hsg hpos hb2 HFV HB1V HB2V HO1 HO2 hbase hz3 hs3 hsB3
            go_wp2_with fail
            refine (add_big S az _ _ w3 HS3.out HZ3.out HSl.out.1 HSl.out.2).mono ?_
            rintro r w4 ⟨r4, rfl, hB4, hb4⟩
            obtain ⟨n4, q4, rfl⟩ := hB4.shape
            have hF4 := HF3.out.below hb4
            obtain ⟨tn, tq, ht4, _⟩ := hF4.sum
            obtain ⟨t0, t1, t2, t3⟩ := box_facts ht4
            have HF5 : Hid (FormAt w dn dq (S + az) u5 LK K ((w4.setCell ⟨w.heap.size + 1 + 1 + 1, 0, none⟩ (.int .i64 n4)).setCell ⟨w.heap.size + 1 + 1 + 1, 1, none⟩ (.pointer q4))) := FormAt.store hF4 hB4
            have HR : Hid (Pm.Upto (ps.take (j + e)) K (S + az) ∧ (S + az).natAbs ≤ Pm.absS (ps.take (j + e)) ∧ LK.length ≤ j + e ∧ ∀ h : j + e < ps.length, ∀ p ∈ ps.take (j + e), p.2.natAbs < ps[j + e].2.natAbs) := ⟨HUP.out, HSb.out, (by have := HLK.out; omega), HNx.out⟩
            clear hF4 ht4 hB4 hb4 HF3 HS3 HZ3 s0 s1 s2 s3 z0 z1 z2 z3 HUP HSb HNx
            go_wp2_with fail
            go_roundw
            case rel => exact ⟨j + e, _, _, _, S + az, by have := Hm.out; have := Hc.out; rw [show N - (j + e) = m - e by omega, show cap - (j + e) = c - e by omega], fun hlt => by have h1 := Hm.out; have h2 := Hc.out; rw [if_neg (by omega), Nat.add_mul], by have := Hm.out; omega, HR, HF5⟩
            case measure => simp only [lenV]; omega
    · obtain rfl : j = N := by omega
      have htake : ps.take j = ps := List.take_of_length_le (by have := HS.out.1; have := HN.out; omega)
      rw [htake] at hU
      obtain ⟨ka, kc, hk5⟩ := hF.out.kept.slice
      subst hk5
      obtain ⟨sn, sq, hs, hsB⟩ := hF.out.sum
      obtain ⟨s0, s1, _, _⟩ := box_facts hs
      obtain ⟨d0, d1, _, _⟩ := box_facts hF.out.deg
      have HSB : Hid (BigAt wr (.agg #[.int .i64 sn, .pointer sq]) S) := hsB
      have hSl : (limbs S.natAbs).length ≤ 1000000 := Nat.le_trans (limbs_abs hU.out.2.1 Hab.out) (by decide)
      have hDw : BigAt wr (.agg #[.int .i64 dn, .pointer dq]) d := HD.out.below hF.out.rest
      have HSub : Hid (Calls Tryz.prog 56 #[.agg #[.int .i64 dn, .pointer dq], .agg #[.int .i64 sn, .pointer sq]] wr fun e w' => ∃ r, e = .returned r ∧ BigAt w' r (d - S) ∧ RowKit.Below wr.heap.size wr w') := sub_big d S _ _ wr hDw hsB (Nat.le_trans Hdl.out (by decide)) hSl
      clear hs hsB hSl hDw ha htake
      go_wp2_with fail
      refine HSub.out.mono ?_
      rintro r w1 ⟨r1, rfl, hB1, hb1⟩
      obtain ⟨n1, q1, rfl⟩ := hB1.shape
      have HZ : Hid (Calls Tryz.prog 55 #[.agg #[.int .i64 n1, .pointer q1]] w1 fun e w' => ∃ r, e = .returned r ∧ BigAt w' r (max 0 (d - S)) ∧ RowKit.Below w1.heap.size w1 w') := notBelowZero_big (d - S) _ w1 hB1
      have HF1 : Hid (FormAt w dn dq S (.slice ka LK.length kc) LK K w1) := hF.out.below hb1
      clear hB1 hb1 HSub s0 s1 d0 d1
      go_wp2_with fail
      refine HZ.out.mono ?_
      rintro r w2 ⟨r2, rfl, hB2, hb2⟩
      obtain ⟨n2, q2, rfl⟩ := hB2.shape
      have hF2 := HF1.out.below hb2
      have hR := hF2.res
      have r0 : w2.cell? ⟨w.heap.size + 1, 0, none⟩ = some (.slice none 0 0) := by simp [World.cell?, hR]
      have r1 : w2.cell? ⟨w.heap.size + 1, 1, none⟩ = some (.int .i64 0) := by simp [World.cell?, hR]
      have r2 : w2.cell? ⟨w.heap.size + 1, 2, none⟩ = some (.pointer none) := by simp [World.cell?, hR]
      have f0 : w2.frozen? ⟨w.heap.size + 1, 0, none⟩ = false := by simp [World.frozen?, hR]
      have f1 : w2.frozen? ⟨w.heap.size + 1, 1, none⟩ = false := by simp [World.frozen?, hR]
      have f2 : w2.frozen? ⟨w.heap.size + 1, 2, none⟩ = false := by simp [World.frozen?, hR]
      have HF2 : Hid (FormAt w dn dq S (.slice ka LK.length kc) LK K w2) := hF2
      have HB2 : Hid (BigAt w2 (.agg #[.int .i64 n2, .pointer q2]) (max 0 (d - S))) := hB2
      clear hF2 hR hB2 hb2 HF1 HZ
      go_wp2_with fail
      obtain ⟨X, hX⟩ : ∃ X, ((w2.setCell ⟨w.heap.size + 1, 0, none⟩ (.slice ka LK.length kc)).setCell ⟨w.heap.size + 1, 1, none⟩ (.int .i64 n2)).setCell ⟨w.heap.size + 1, 2, none⟩ (.pointer q2) = X := ⟨_, rfl⟩
      rw [hX]
      obtain ⟨x0, x1, x2, hPb, hbX⟩ := row_ret HF2.out.res HF2.out.kept.pi HB2.out hX
      refine bodyPost_ret (by simp [results, Tryz.results38, go_sem, x0, x1, x2]; try rfl) rfl ?_
      refine ⟨_, K, max 0 (d - S), rfl, hU.out.1.done, hPb, fun p hp => ?_, ?_, hbX _ _ (Nat.le_succ _) HF2.out.rest⟩
      · obtain ⟨p', hp', he⟩ := hU.out.1.from_ p hp
        have h1 := Hlit.out p' hp'
        have h2 := (hU.out.1.sound p hp).2
        exact ⟨h2, by omega, by omega⟩
      · have h1 := hU.out.2.2.1
        have h2 := HF2.out.kept.2.1
        have h3 := HN.out
        have h4 := HS.out.1
        omega
end Go.Proofs.YtjffbndiecjkjaaGreatDoor
