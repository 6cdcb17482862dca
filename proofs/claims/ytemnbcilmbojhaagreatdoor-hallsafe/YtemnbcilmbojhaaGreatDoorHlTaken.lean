/-
  Package hall: which interval takes a value.
-/
import Derived.Test.YtemnbcilmbojhaaGreatDoorHlHall
import Derived.Deep.OwnRows
import Derived.Laws.Tables
namespace Go.Proofs.YtemnbcilmbojhaaGreatDoor
open Go.RowKit

/-- Intervals in memory. -/
def Iv.cells (i : Iv) : List Value := [.int .i64 i.lo, .int .i64 i.hi, .int .u8 (wd i.f 0 : Int), .int .u8 (wd i.f 1 : Int), .int .u8 (wd i.f 2 : Int), .int .u8 (wd i.f 3 : Int), .int .i64 i.n]
def IvAt (w : World) (b o : Nat) (i : Iv) : Prop := w.cell? ⟨b, o, none⟩ = some (.int .i64 i.lo) ∧ w.cell? ⟨b, o + 1, none⟩ = some (.int .i64 i.hi) ∧ w.cell? ⟨b, o + 2, none⟩ = some (.int .u8 (wd i.f 0 : Int)) ∧ w.cell? ⟨b, o + 3, none⟩ = some (.int .u8 (wd i.f 1 : Int)) ∧ w.cell? ⟨b, o + 4, none⟩ = some (.int .u8 (wd i.f 2 : Int)) ∧ w.cell? ⟨b, o + 5, none⟩ = some (.int .u8 (wd i.f 3 : Int)) ∧ w.cell? ⟨b, o + 6, none⟩ = some (.int .i64 i.n)
def IvsAt (w : World) (a : Option Addr) (L : List Iv) : Prop := ∀ j (h : j < L.length), ∃ b off, a = some ⟨b, off, none⟩ ∧ b < w.heap.size ∧ IvAt w b (off + j * 7) L[j]
/-- The first interval that takes a value. -/
def tkL (g : Gr) : List Iv → Nat → Nat → Option Nat
  | [], _, _ => none
  | i :: L, k, j => if (!i.f g.x && (decide (i.lo ≤ g.lo + (j : Int)) && (decide (g.lo + (j : Int) ≤ i.hi) && decide (g.lo + (j : Int) ≤ g.hi)))) = true then some k else tkL g L (k + 1) j
def pv (a : Option Addr) : Option Nat → Value
  | none => .pointer none
  | some k => match a with | some ad => .pointer (some (ad.add (k * 7))) | none => .pointer none

def nil64 : Array Value := #[.pointer none, .pointer none, .pointer none, .pointer none, .pointer none, .pointer none, .pointer none, .pointer none, .pointer none, .pointer none, .pointer none, .pointer none, .pointer none, .pointer none, .pointer none, .pointer none, .pointer none, .pointer none, .pointer none, .pointer none, .pointer none, .pointer none, .pointer none, .pointer none, .pointer none, .pointer none, .pointer none, .pointer none, .pointer none, .pointer none, .pointer none, .pointer none, .pointer none, .pointer none, .pointer none, .pointer none, .pointer none, .pointer none, .pointer none, .pointer none, .pointer none, .pointer none, .pointer none, .pointer none, .pointer none, .pointer none, .pointer none, .pointer none, .pointer none, .pointer none, .pointer none, .pointer none, .pointer none, .pointer none, .pointer none, .pointer none, .pointer none, .pointer none, .pointer none, .pointer none, .pointer none, .pointer none, .pointer none, .pointer none]
theorem nil64_row (w : World) : (w.alloc (.cells nil64 115)).rowIs w.heap.size 115 64 (fun _ => .pointer none) := World.rowIs_alloc w nil64 115 _ (by
  have h : ∀ i : Fin 64, nil64[i.val]? = some (.pointer none) := by
    intro i
    have : nil64 = (List.replicate 64 (Value.pointer none)).toArray := by rfl
    rw [this, List.getElem?_toArray, List.getElem?_replicate, if_pos i.isLt]
  exact fun i hi => h ⟨i, hi⟩)
theorem pv_one (a : Option Addr) (t : Option Nat) : (pv a t).oneCell' = true := by
  cases t with
  | none => rfl
  | some k => cases a <;> rfl
theorem tk_skip {g : Gr} {i : Iv} {L : List Iv} {k : Nat} (h : i.f g.x = true) (j : Nat) : tkL g (i :: L) k j = tkL g L (k + 1) j := by
  have e : tkL g (i :: L) k j = if (!i.f g.x && (decide (i.lo ≤ g.lo + (j : Int)) && (decide (g.lo + (j : Int) ≤ i.hi) && decide (g.lo + (j : Int) ≤ g.hi)))) = true then some k else tkL g L (k + 1) j := rfl
  rw [e, h]
  simp
theorem tk_take {g : Gr} {i : Iv} {L : List Iv} {k : Nat} (h : i.f g.x = false) (j : Nat) (a : Option Addr) : pv a (tkL g (i :: L) k j) = if max g.lo i.lo ≤ g.lo + (j : Int) ∧ g.lo + (j : Int) < min g.hi i.hi + 1 then pv a (some k) else pv a (tkL g L (k + 1) j) := by
  have e : tkL g (i :: L) k j = if (!i.f g.x && (decide (i.lo ≤ g.lo + (j : Int)) && (decide (g.lo + (j : Int) ≤ i.hi) && decide (g.lo + (j : Int) ≤ g.hi)))) = true then some k else tkL g L (k + 1) j := rfl
  rw [e, h]
  by_cases hc : max g.lo i.lo ≤ g.lo + (j : Int) ∧ g.lo + (j : Int) < min g.hi i.hi + 1
  · rw [if_pos hc, if_pos]
    simp
    omega
  · rw [if_neg hc, if_neg]
    simp
    omega
theorem setRow_same {w : World} {g : Nat} {cs old : Array Value} {t : TypeId} {fr : Nat × Nat} (h : w.heap[g]? = some (.cells old t fr)) : (w.setRow g cs).heap[g]? = some (.cells cs t fr) := by
  unfold World.setRow
  simp [Array.getElem?_modify, h]
theorem setRow_below {w w' : World} {B g : Nat} {cs : Array Value} (h : Below B w w') (hg : B ≤ g) : Below B w (w'.setRow g cs) := by
  refine ⟨h.os, h.tape, h.output, ?_, fun k hk => ?_⟩
  · unfold World.setRow
    simp
    exact h.size
  · have hne : g ≠ k := by omega
    unfold World.setRow
    simp [Array.getElem?_modify, hne]
    exact h.block k hk
theorem info115s : (Tryz.prog.info? 115).map (·.size) = some 64 := by kernel_rfl
theorem IvAt.mono {w w' : World} {b o : Nat} {i : Iv} (h : IvAt w b o i) (hb : w'.heap[b]? = w.heap[b]?) : IvAt w' b o i := by
  have hc : ∀ k, w'.cell? ⟨b, k, none⟩ = w.cell? ⟨b, k, none⟩ := fun k => by unfold World.cell?; rw [hb]
  obtain ⟨h0, h1, h2, h3, h4, h5, h6⟩ := h
  exact ⟨(hc _).trans h0, (hc _).trans h1, (hc _).trans h2, (hc _).trans h3, (hc _).trans h4, (hc _).trans h5, (hc _).trans h6⟩
theorem add_none (b o k : Nat) : (⟨b, o, none⟩ : Addr).add k = ⟨b, o + k, none⟩ := addr_none b o k

set_option maxRecDepth 10000 in
set_option maxHeartbeats 4000000 in
theorem taken_any (g : Gr) (hg : g.Ok) (h64 : g.hi - g.lo < 64) (a : Option Addr) (cap : Nat) (L : List Iv) (w : World) (hL : IvsAt w a L) (hok : ∀ i ∈ L, i.Ok) (hl : L.length ≤ 1000000) : Calls Tryz.prog 53 #[g.val, .slice a L.length cap] w fun e w' => ∃ c : Array Value, e = .returned (.agg c) ∧ c.size = 64 ∧ (∀ j, j < 64 → c[j]? = some (pv a (tkL g L 0 j))) ∧ Below w.heap.size w w' := by
  obtain ⟨lo, hi, x, n⟩ := g
  obtain ⟨l1, l2, h1, h2, hx, n1, n2⟩ := hg
  unfold Gr.val
  dsimp only at h64 l1 l2 h1 h2 hx n1 n2 ⊢
  obtain ⟨W, hW⟩ : ∃ W, ((w.alloc (.cells #[.int .i64 lo, .int .i64 hi, .int .i64 (x : Int), .int .i64 n] 79)).alloc (.cells nil64 115)).alloc (.cells nil64 115) = W := ⟨_, rfl⟩
  have hb0 : Below w.heap.size w W := by rw [← hW]; exact alloc3b w _ _ _
  have g0 : W.heap[w.heap.size]? = some (.cells #[.int .i64 lo, .int .i64 hi, .int .i64 (x : Int), .int .i64 n] 79 (0, 0)) := by rw [← hW]; exact alloc3_0 w _ _ _
  have g1 : W.heap[w.heap.size + 1]? = some (.cells nil64 115 (0, 0)) := by rw [← hW]; exact alloc3_1 w _ _ _
  have g2 : W.rowIs (w.heap.size + 1 + 1) 115 64 (fun _ => .pointer none) := by
    rw [← hW]
    have := nil64_row ((w.alloc (.cells #[.int .i64 lo, .int .i64 hi, .int .i64 (x : Int), .int .i64 n] 79)).alloc (.cells nil64 115))
    simpa using this
  have HWe : Hid (((w.alloc (.cells #[.int .i64 lo, .int .i64 hi, .int .i64 (x : Int), .int .i64 n] 79)).alloc (.cells nil64 115)).alloc (.cells nil64 115) = W) := hW
  have HB : Hid (Below w.heap.size w W) := hb0
  have HO : Hid (∀ w', Below (w.heap.size + 1 + 1) W w' → (w'.cell? ⟨w.heap.size, 0, none⟩ = some (.int .i64 lo) ∧ w'.cell? ⟨w.heap.size, 1, none⟩ = some (.int .i64 hi) ∧ w'.cell? ⟨w.heap.size, 2, none⟩ = some (.int .i64 (x : Int))) ∧ w'.heap[w.heap.size + 1]? = some (.cells nil64 115 (0, 0)) ∧ Below w.heap.size w w') := fun w' ho => by
    have q0 := (ho.block _ (by omega)).trans g0
    have q1 := (ho.block _ (by omega)).trans g1
    refine ⟨⟨cell_of q0 0, cell_of q0 1, cell_of q0 2⟩, q1, ?_⟩
    exact hb0.trans (ho.mono (by omega))
  have HL : Hid (∀ w', Below (w.heap.size + 1 + 1) W w' → ∀ j (h : j < L.length), ∃ b off, a = some ⟨b, off, none⟩ ∧ IvAt w' b (off + j * 7) L[j]) := fun w' ho j hj => by
    obtain ⟨b, off, e, hlt, hI⟩ := hL j hj
    have hs := hb0.size
    exact ⟨b, off, e, hI.mono ((ho.block b (by omega)).trans (hb0.block b hlt))⟩
  have Hok : Hid (∀ j (h : j < L.length), L[j].Ok) := fun j hj => hok _ (List.getElem_mem hj)
  have HR0 : Hid (W.rowIs (w.heap.size + 1 + 1) 115 64 (fun j => pv a (tkL ⟨lo, hi, x, n⟩ (L.drop L.length) L.length j))) := by
    rw [List.drop_length]
    exact g2
  have HAt : Hid (∀ (f : Nat → Bool) w', Calls Tryz.prog 55 #[bVal f, .int .i64 (x : Int)] w' fun e w2 => e = .returned (.bool (f x)) ∧ Below w'.heap.size w' w2) := fun f w' => bAt_any f x hx w'
  have HLt : Hid (w.heap.size + 1 + 1 < W.heap.size) := g2.lt
  clear hL hok hW hb0 g0 g1 g2
  go_enter Tryz.func53, Tryz.ntmps53
  go_upto_region 2 with fail
  have hWe := HWe.out
  unfold nil64 at hWe
  rw [hWe]
  clear hWe HWe
  go_upto_region 3 with fail
  go_loopw [6] (fun iv wr => ∃ (k : Nat), iv = .int .i64 ((k : Int) - 1) ∧ k ≤ L.length ∧ Hid (wr.rowIs (w.heap.size + 1 + 1) 115 64 (fun j => pv a (tkL ⟨lo, hi, x, n⟩ (L.drop k) k j))) ∧ Hid (Below (w.heap.size + 1 + 1) W wr)) (fun iv _ => (intOf iv + 1).toNat)
  case atStart => exact ⟨L.length, by go_num, Nat.le_refl _, HR0, Below.refl _ _⟩
  case round =>
  obtain ⟨k, rfl, hk, HR, HOf⟩ := hrel
  obtain ⟨⟨p0, p1, p2⟩, _⟩ := HO.out wr HOf.out
  cases k with
  | zero =>
    obtain ⟨c, hc, hcs, hcf⟩ := HR.out
    obtain ⟨_, q1, hbw⟩ := HO.out wr HOf.out
    have hone : c.all (·.oneCell') = true := by
      rw [Array.all_eq_true]
      intro j hj
      have := hcf j (by omega)
      rw [Array.getElem?_eq_getElem hj] at this
      injection this with this
      rw [this]
      exact pv_one _ _
    have HC : Hid (wr.heap[w.heap.size + 1 + 1]? = some (.cells c 115 (0, 0))) := hc
    have HQ : Hid (wr.heap[w.heap.size + 1]? = some (.cells nil64 115 (0, 0))) := q1
    have HI : Hid ((Tryz.prog.info? 115).map (·.size) = some c.size) := by show _ = _; rw [hcs]; exact info115s
    have HN : Hid (nil64.size = c.size) := by show _ = _; rw [hcs]; rfl
    have HF : Hid (∀ j, j < 64 → c[j]? = some (pv a (tkL ⟨lo, hi, x, n⟩ L 0 j))) := hcf
    have HBw : Hid (Below w.heap.size w wr) := hbw
    have HOn : Hid (c.all (·.oneCell') = true) := hone
    have HCs : Hid (c.size = 64) := hcs
    clear hc hcs hcf q1 hbw hone HR
    go_wp2_with (first | (refine wpList_load_row rfl 115 _ rfl (w.heap.size + 1 + 1) rfl 115 c (0, 0) (.array 64 114) HC.out (by kernel_rfl) rfl HI.out ?_) | (refine wpList_store_row rfl 115 _ _ rfl (w.heap.size + 1) c rfl rfl 115 nil64 HQ.out HI.out HN.out HOn.out ?_))
    exact bodyPost_ret (v := .agg c) (results_cell_row Tryz.results53 _ _ (w.heap.size + 1) 115 c (0, 0) _ rfl (setRow_same HQ.out) (by kernel_rfl : Tryz.prog.underlying 115 = some (.array 64 114)) rfl HI.out) rfl ⟨c, rfl, HCs.out, HF.out, setRow_below HBw.out (by omega)⟩
  | succ m =>
    have hm : m < L.length := by omega
    have e1 : ((m + 1 : Nat) : Int) - 1 = (m : Int) := by omega
    rw [e1]
    obtain ⟨b, off, rfl, hI⟩ := HL.out wr HOf.out m hm
    have hIok := Hok.out m hm
    have HLm : Hid (∀ w', Below (w.heap.size + 1 + 1) W w' → IvAt w' b (off + m * 7) L[m]) := fun w' hb => by
      obtain ⟨b', off', e, h⟩ := HL.out w' hb m hm
      injection e with e
      injection e with e1 e2
      subst e1 e2
      exact h
    have hdr : L.drop m = L[m] :: L.drop (m + 1) := (List.drop_eq_getElem_cons hm)
    have HDr : Hid (L.drop m = L[m] :: L.drop (m + 1)) := hdr
    obtain ⟨⟨ilo, ihi, f, inn⟩, hi'⟩ : ∃ i, L[m] = i := ⟨_, rfl⟩
    rw [hi'] at hI HLm hIok HDr
    obtain ⟨i1, i2, i3, i4, i5, i6⟩ := hIok
    dsimp only at i1 i2 i3 i4 i5 i6
    have HAf := fun w' => HAt.out f w'
    obtain ⟨r0, r1, r2, r3, r4, r5, _⟩ := hI
    have HHeld : Hid (∀ w', Below (w.heap.size + 1 + 1) W w' → (w'.cell? ⟨b, off + m * 7, none⟩ = some (.int .i64 ilo) ∧ w'.cell? ⟨b, off + m * 7 + 1, none⟩ = some (.int .i64 ihi)) ∧ (w'.cell? ⟨b, off + m * 7 + 2, none⟩ = some (.int .u8 (wd f 0 : Int)) ∧ w'.cell? ⟨b, off + m * 7 + 3, none⟩ = some (.int .u8 (wd f 1 : Int)) ∧ w'.cell? ⟨b, off + m * 7 + 4, none⟩ = some (.int .u8 (wd f 2 : Int)) ∧ w'.cell? ⟨b, off + m * 7 + 5, none⟩ = some (.int .u8 (wd f 3 : Int))) ∧ w'.cell? ⟨w.heap.size, 0, none⟩ = some (.int .i64 lo) ∧ w'.cell? ⟨w.heap.size, 1, none⟩ = some (.int .i64 hi) ∧ w'.cell? ⟨w.heap.size, 2, none⟩ = some (.int .i64 (x : Int))) := fun w' hb => by
      obtain ⟨t0, t1, t2, t3, t4, t5, _⟩ := HLm.out w' hb
      exact ⟨⟨t0, t1⟩, ⟨t2, t3, t4, t5⟩, (HO.out w' hb).1⟩
    have HSk : Hid (f x = true → ∀ j, tkL ⟨lo, hi, x, n⟩ (L.drop m) m j = tkL ⟨lo, hi, x, n⟩ (L.drop (m + 1)) (m + 1) j) := fun h j => by
      rw [HDr.out]
      exact tk_skip (g := ⟨lo, hi, x, n⟩) (i := ⟨ilo, ihi, f, inn⟩) h j
    have HTk : Hid (f x = false → ∀ j, pv (some ⟨b, off, none⟩) (tkL ⟨lo, hi, x, n⟩ (L.drop m) m j) = if max lo ilo ≤ lo + (j : Int) ∧ lo + (j : Int) < min hi ihi + 1 then pv (some ⟨b, off, none⟩) (some m) else pv (some ⟨b, off, none⟩) (tkL ⟨lo, hi, x, n⟩ (L.drop (m + 1)) (m + 1) j)) := fun h j => by
      rw [HDr.out]
      exact tk_take (g := ⟨lo, hi, x, n⟩) (i := ⟨ilo, ihi, f, inn⟩) h j _
    unfold bVal at HAf
    obtain ⟨r, hr⟩ : ∃ r, f x = r := ⟨_, rfl⟩
    rw [hr] at HAf HSk HTk
    clear hdr hi' HDr HLm HL Hok HAt e1 r0 r1 r2 r3 r4 r5 p0 p1 p2
    generalize wd f 0 = b0 at *
    generalize wd f 1 = b1 at *
    generalize wd f 2 = b2 at *
    generalize wd f 3 = b3 at *
    have HAg : Hid (∀ w', Calls Tryz.prog 55 #[.agg #[.int .u8 (b0 : Int), .int .u8 (b1 : Int), .int .u8 (b2 : Int), .int .u8 (b3 : Int)], .int .i64 (x : Int)] w' fun e w2 => e = .returned (.bool r) ∧ Below w'.heap.size w' w2) := HAf
    clear HAf hr
    have hmI : (m : Int) < (L.length : Int) := by omega
    go_upto_region 6 with fail
    go_cut [25] from 19 to 25 (fun s25 wx => s25 = .bool r ∧ Hid (Below wr.heap.size wr wx))
    case first =>
      have HBd : Hid (Below (w.heap.size + 1 + 1) W wr.drew) := HOf.out.drew
      have HWl : Hid (w.heap.size + 1 + 1 ≤ wr.heap.size) := Nat.le_trans (Nat.le_of_lt HLt.out) HOf.out.size
      go_region_held3 (fun w' => (w'.cell? ⟨b, off + m * 7, none⟩ = some (.int .i64 ilo) ∧ w'.cell? ⟨b, off + m * 7 + 1, none⟩ = some (.int .i64 ihi)) ∧ (w'.cell? ⟨b, off + m * 7 + 2, none⟩ = some (.int .u8 (b0 : Int)) ∧ w'.cell? ⟨b, off + m * 7 + 3, none⟩ = some (.int .u8 (b1 : Int)) ∧ w'.cell? ⟨b, off + m * 7 + 4, none⟩ = some (.int .u8 (b2 : Int)) ∧ w'.cell? ⟨b, off + m * 7 + 5, none⟩ = some (.int .u8 (b3 : Int))) ∧ w'.cell? ⟨w.heap.size, 0, none⟩ = some (.int .i64 lo) ∧ w'.cell? ⟨w.heap.size, 1, none⟩ = some (.int .i64 hi) ∧ w'.cell? ⟨w.heap.size, 2, none⟩ = some (.int .i64 (x : Int)))
        (first | exact HHeld.out _ HB4.out | exact HHeld.out _ HBd.out)
        (first | (go_at_call 55; refine calls_at (HAg.out _) (by with_reducible rfl) (by with_reducible rfl) ?_; rintro e w4 ⟨rfl, hb4⟩; (have HB5 : Hid (Below wr.heap.size wr w4) := (Below.refl _ _).drew.trans hb4); (have HB4 : Hid (Below (w.heap.size + 1 + 1) W w4) := HOf.out.trans (HB5.out.mono HWl.out)); clear hb4))
      go_wp2_with fail
      go_meet
      exact ⟨rfl, HB5⟩
    case rest =>
    obtain ⟨rfl, HBx⟩ := hcut
    rename World => wx
    have HWl : Hid (w.heap.size + 1 + 1 ≤ wr.heap.size) := Nat.le_trans (Nat.le_of_lt HLt.out) HOf.out.size
    have HBx2 : Hid (Below (w.heap.size + 1 + 1) W wx) := HOf.out.trans (HBx.out.mono HWl.out)
    have HRx : Hid (wx.rowIs (w.heap.size + 1 + 1) 115 64 (fun j => pv (some ⟨b, off, none⟩) (tkL ⟨lo, hi, x, n⟩ (L.drop (m + 1)) (m + 1) j))) := HR.out.of_block (HBx.out.block _ HR.out.lt)
    obtain ⟨⟨r0, r1⟩, _, p0, p1, p2⟩ := HHeld.out wx HBx2.out
    cases r with
    | true =>
      go_wp2_with fail
      go_roundw
      case rel => exact ⟨m, by go_num, by omega, HRx.out.congr (fun j _ => by rw [HSk.out (by trivial) j]), HBx2⟩
      case measure => simp [intOf]
    | false =>
      go_upto_region 7 with fail
      go_region
      obtain ⟨st, hst⟩ : ∃ st, max lo ilo = st := ⟨_, rfl⟩
      obtain ⟨sp, hsp⟩ : ∃ sp, min hi ihi = sp := ⟨_, rfl⟩
      have hTk := HTk.out (by trivial)
      rw [hst, hsp] at hTk
      have HTk2 : Hid (∀ j : Nat, pv (some ⟨b, off, none⟩) (tkL ⟨lo, hi, x, n⟩ (L.drop m) m j) = if st ≤ lo + (j : Int) ∧ lo + (j : Int) < sp + 1 then pv (some ⟨b, off, none⟩) (some m) else pv (some ⟨b, off, none⟩) (tkL ⟨lo, hi, x, n⟩ (L.drop (m + 1)) (m + 1) j)) := hTk
      have hst1 : lo ≤ st := by omega
      have hst2 : st ≤ 2000000000 := by omega
      have hsp1 : sp ≤ hi := by omega
      have HSt : Hid (max lo ilo = st) := hst
      have HSp : Hid (min hi ihi = sp) := hsp
      rw [hst]
      clear hTk HTk HSk hst r0 r1 p0 p1 p2
      go_wp2_with fail
      go_loopw [8] (fun iv wz => ∃ v : Int, iv = .int .i64 v ∧ st ≤ v ∧ (v ≤ sp + 1 ∨ v = st) ∧ Hid (wz.rowIs (w.heap.size + 1 + 1) 115 64 (fun j => if st ≤ lo + (j : Int) ∧ lo + (j : Int) < v then pv (some ⟨b, off, none⟩) (some m) else pv (some ⟨b, off, none⟩) (tkL ⟨lo, hi, x, n⟩ (L.drop (m + 1)) (m + 1) j))) ∧ Hid (Below (w.heap.size + 1 + 1) W wz)) (fun iv _ => (sp + 1 - intOf iv).toNat)
      case atStart => exact ⟨st, rfl, Int.le_refl _, .inr rfl, HRx.out.drew.congr (fun j _ => by rw [if_neg (by omega)]), HBx2.out.drew⟩
      case round =>
      obtain ⟨v, rfl, hv1, hv2, HRz, HBz⟩ := hrel
      rename World => wz
      obtain ⟨⟨r0, r1⟩, _, p0, p1, p2⟩ := HHeld.out wz HBz.out
      by_cases hv : v ≤ sp
      case neg =>
        go_upto_region 8 with fail
        go_region
        go_wp2_with fail
        go_roundw
        case rel => exact ⟨m, by go_num, by omega, HRz.out.congr (fun j _ => by rw [HTk2.out j]; by_cases hj : st ≤ lo + (j : Int) ∧ lo + (j : Int) < v; (rw [if_pos hj, if_pos (by omega)]); (rw [if_neg hj, if_neg (by omega)])), HBz.out.drew⟩
        case measure => simp [intOf]
      case pos =>
        obtain ⟨j, hj⟩ : ∃ j : Nat, v - lo = (j : Int) := ⟨(v - lo).toNat, by omega⟩
        have hj64 : (j : Int) < 64 := by omega
        have cj := HRz.out.cell (i := j) (by omega)
        have zj := HRz.out.frozen j
        obtain ⟨ov, hov⟩ : ∃ ov, (if st ≤ lo + (j : Int) ∧ lo + (j : Int) < v then pv (some ⟨b, off, none⟩) (some m) else pv (some ⟨b, off, none⟩) (tkL ⟨lo, hi, x, n⟩ (L.drop (m + 1)) (m + 1) j)) = ov := ⟨_, rfl⟩
        rw [hov] at cj
        have HNx : Hid ((wz.setCell ⟨w.heap.size + 1 + 1, j, none⟩ (.pointer (some ⟨b, off + m * 7, none⟩))).drew.rowIs (w.heap.size + 1 + 1) 115 64 (fun j => if st ≤ lo + (j : Int) ∧ lo + (j : Int) < v + 1 then pv (some ⟨b, off, none⟩) (some m) else pv (some ⟨b, off, none⟩) (tkL ⟨lo, hi, x, n⟩ (L.drop (m + 1)) (m + 1) j))) := by
          refine (HRz.out.set j _).drew.congr (fun k _ => ?_)
          by_cases hk : k = j
          · subst hk
            rw [if_pos rfl, if_pos (by omega)]
            show _ = Value.pointer (some ((⟨b, off, none⟩ : Addr).add (m * 7)))
            rw [add_none]
          · rw [if_neg hk]
            by_cases hc : st ≤ lo + (k : Int) ∧ lo + (k : Int) < v
            · rw [if_pos hc, if_pos (by omega)]
            · rw [if_neg hc, if_neg (by omega)]
        have HBn : Hid (Below (w.heap.size + 1 + 1) W (wz.setCell ⟨w.heap.size + 1 + 1, j, none⟩ (.pointer (some ⟨b, off + m * 7, none⟩))).drew) := (HBz.out.setCell (Nat.le_refl _) _).drew
        clear hov
        go_upto_region 8 with fail
        go_region
        go_wp2_with fail
        go_roundw
        case rel => exact ⟨v + 1, by go_num, by omega, .inl (by omega), HNx, HBn⟩
        case measure => simp [intOf]; omega
end Go.Proofs.YtemnbcilmbojhaaGreatDoor
