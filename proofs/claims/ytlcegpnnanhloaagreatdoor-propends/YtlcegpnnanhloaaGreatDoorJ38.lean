/-
  Put together: PpElemR, PpAlive, PpCount, PpStays.
-/
import Derived.Test.YtlcegpnnanhloaaGreatDoorJ36
import Derived.Test.YtlcegpnnanhloaaGreatDoorJ09
import Derived.Test.YtlcegpnnanhloaaGreatDoorJ37
import Derived.Test.YtlcegpnnanhloaaGreatDoorJ33
namespace Go.Proofs.YtlcegpnnanhloaaGreatDoor
open Go.RowKit

def elB2 (D : List Dm) (c : Md.Cn) (v : Int) : Bool := el2B c.table (dAt D c.x) v c.table.length
def elemQ (D : List Dm) (c : Md.Cn) (Q : List Sq) : List Sq := someQ (someQ Q c.x.toNat (elB1 D c)) c.y.toNat (elB2 D c)
theorem enters86 : Enters Tryz.prog 86 := enters_of Tryz.func86 (by kernel_rfl) rfl
theorem enters88 : Enters Tryz.prog 88 := enters_of Tryz.func88 (by kernel_rfl) rfl
theorem LfQ.box {B lp g p : Nat} {nv mv : Value} {s : St} {Q : List Sq} {w w' : World} (h : LfQ B lp g p nv mv s Q w) (hk : Kq B w w') : w'.cell? ⟨lp, 0, none⟩ = Option.some (Value.pointer (Option.some ⟨p, 0, none⟩)) := by
  obtain ⟨S, h1, _⟩ := h
  exact cell_of (hk.block h1.box (by decide) (by decide)) 0

set_option maxRecDepth 10000 in
set_option maxHeartbeats 2000000 in
theorem elem_any (B lp g p : Nat) (nv mv : Value) (s : St) (Q : List Sq) (w : World) (h : LfQ B lp g p nv mv s Q w) (hts : ∀ q ∈ Q, q.ts.length ≤ 1000) (c : Md.Cn) (vt vx vb vr : Value) (hC : CnK B w c vt vx vb vr) (hx : 0 ≤ c.x ∧ c.x < (s.now.length : Int)) (hy : 0 ≤ c.y ∧ c.y < (s.now.length : Int)) (hl : c.table.length ≤ 64) : Calls Tryz.prog 47 #[.pointer (some ⟨lp, 0, none⟩), cnVal c vt vx vb vr] w (RlOut B lp g p nv mv s (some (elemQ s.now c Q)) w) := by
  have hBs := h.size
  obtain ⟨x, hxe, hxn⟩ : ∃ x : Nat, c.x = (x : Int) ∧ x < s.now.length := ⟨c.x.toNat, by omega, by omega⟩
  obtain ⟨y, hye, hyn⟩ : ∃ y : Nat, c.y = (y : Int) ∧ y < s.now.length := ⟨c.y.toNat, by omega, by omega⟩
  obtain ⟨ba, bc, rfl, _⟩ := hC.at.b.form
  obtain ⟨W, hW⟩ : ∃ W, (w.alloc (.cells #[.pointer (some ⟨lp, 0, none⟩)] 65)).alloc (.cells #[.int .i64 c.kind, .int .i64 c.op, vt, .int .i64 c.k, .int .i64 c.v, .int .i64 (x : Int), .int .i64 (y : Int), vx, .slice ba c.table.length bc, vr] 31) = W := ⟨_, rfl⟩
  have hb0 : Below w.heap.size w W := by rw [← hW]; exact ((Below.refl _ _).alloc (Nat.le_refl _) _).alloc (by simp) _
  have g0 : W.heap[w.heap.size]? = some (.cells #[.pointer (some ⟨lp, 0, none⟩)] 65 (0, 0)) := by rw [← hW, heap_alloc_old (w.alloc _) _ (by simp)]; exact heap_alloc_new w _
  have g1 : W.heap[w.heap.size + 1]? = some (.cells #[.int .i64 c.kind, .int .i64 c.op, vt, .int .i64 c.k, .int .i64 c.v, .int .i64 (x : Int), .int .i64 (y : Int), vx, .slice ba c.table.length bc, vr] 31 (0, 0)) := by rw [← hW]; exact heap_alloc2_new w _ _
  have HLW : Hid (LfQ B lp g p nv mv s Q W) := h.below hb0
  have HKW : Hid (Kq B w W) := Kq.of_below hb0 hBs
  have HG : Hid (∀ w', Kq B W w' → w'.heap[w.heap.size]? = some (.cells #[.pointer (some ⟨lp, 0, none⟩)] 65 (0, 0)) ∧ w'.heap[w.heap.size + 1]? = some (.cells #[.int .i64 c.kind, .int .i64 c.op, vt, .int .i64 c.k, .int .i64 c.v, .int .i64 (x : Int), .int .i64 (y : Int), vx, .slice ba c.table.length bc, vr] 31 (0, 0))) := fun w' hk => ⟨hk.block g0 (by decide) (by decide), hk.block g1 (by decide) (by decide)⟩
  have HI : Hid (∀ w', Kq B W w' → IntsAt w' (.slice ba c.table.length bc) c.table) := fun w' hk => (hC w' ((hb0.mono hBs).trans hk.below)).b
  have HT1 : Hid (∀ w', Kq B W w' → TestIs B w' (.func (.func 86) #[] #[.pointer (some ⟨w.heap.size + 1, 0, none⟩), .pointer (some ⟨w.heap.size, 0, none⟩)]) (elB1 s.now c)) := fun w' hk => ⟨86, _, rfl, enters86, fun w2 hk2 u _ _ => by
    have hk3 := hk.trans hk2
    have := el1_any w.heap.size (w.heap.size + 1) lp p y s.now[y] c.table ba bc u _ _ _ _ _ _ _ _ w2 (HG.out w2 hk3).1 (HG.out w2 hk3).2 (HLW.out.box hk3) (HI.out w2 hk3) hl (fun w4 v hb => HLW.out.hass y hyn v (hk3.below.trans (hb.mono (Nat.le_trans HLW.out.size hk3.below.size))))
    unfold elB1
    rw [hye, dAt_get hyn]
    exact this⟩
  have HT2 : Hid (∀ w', Kq B W w' → TestIs B w' (.func (.func 88) #[] #[.pointer (some ⟨w.heap.size + 1, 0, none⟩), .pointer (some ⟨w.heap.size, 0, none⟩)]) (elB2 s.now c)) := fun w' hk => ⟨88, _, rfl, enters88, fun w2 hk2 u _ _ => by
    have hk3 := hk.trans hk2
    have := el2_any w.heap.size (w.heap.size + 1) lp p x s.now[x] c.table ba bc u _ _ _ _ _ _ _ _ w2 (HG.out w2 hk3).1 (HG.out w2 hk3).2 (HLW.out.box hk3) (HI.out w2 hk3) hl (fun w4 v hb => HLW.out.hass x hxn v (hk3.below.trans (hb.mono (Nat.le_trans HLW.out.size hk3.below.size))))
    unfold elB2
    rw [hxe, dAt_get hxn]
    exact this⟩
  have HSx : Hid (∀ w' Q' fn caps t, LfQ B lp g p nv mv s Q' w' → TestIs B w' (.func (.func fn) #[] caps) t → (∀ q ∈ Q', q.ts.length ≤ 100000) → Calls Tryz.prog 83 #[.pointer (some ⟨lp, 0, none⟩), .int .i64 (x : Int), .func (.func fn) #[] caps] w' (KqOut B lp g p nv mv s (someQ Q' x t) w')) := fun w' Q' fn caps t hL hT hl => hL.some x hxn fn caps t hT hl
  have HSy : Hid (∀ w' Q' fn caps t, LfQ B lp g p nv mv s Q' w' → TestIs B w' (.func (.func fn) #[] caps) t → (∀ q ∈ Q', q.ts.length ≤ 100000) → Calls Tryz.prog 83 #[.pointer (some ⟨lp, 0, none⟩), .int .i64 (y : Int), .func (.func fn) #[] caps] w' (KqOut B lp g p nv mv s (someQ Q' y t) w')) := fun w' Q' fn caps t hL hT hl => hL.some y hyn fn caps t hT hl
  have HTs : Hid (∀ q ∈ Q, q.ts.length ≤ 1000) := hts
  have HQ : Hid (elemQ s.now c Q = someQ (someQ Q x (elB1 s.now c)) y (elB2 s.now c)) := by show _ = _; unfold elemQ; rw [hxe, hye, Int.toNat_natCast, Int.toNat_natCast]
  obtain ⟨t1, ht1⟩ : ∃ t, elB1 s.now c = t := ⟨_, rfl⟩
  obtain ⟨t2, ht2⟩ : ∃ t, elB2 s.now c = t := ⟨_, rfl⟩
  rw [ht1] at HT1 HQ
  rw [ht2] at HT2 HQ
  obtain ⟨R, hR⟩ : ∃ R, elemQ s.now c Q = R := ⟨_, rfl⟩
  rw [hR] at HQ ⊢
  have c0 : W.cell? ⟨w.heap.size, 0, none⟩ = some (.pointer (some ⟨lp, 0, none⟩)) := cell_of g0 0
  have c5 : W.cell? ⟨w.heap.size + 1, 5, none⟩ = some (.int .i64 (x : Int)) := cell_of g1 5
  have hcv : cnVal c vt vx (.slice ba c.table.length bc) vr = .agg #[.int .i64 c.kind, .int .i64 c.op, vt, .int .i64 c.k, .int .i64 c.v, .int .i64 (x : Int), .int .i64 (y : Int), vx, .slice ba c.table.length bc, vr] := by unfold cnVal; rw [hxe, hye]
  rw [hcv]
  clear h hts hx hy hBs hb0 g0 g1 hxe hye hR hxn hyn hcv ht1 ht2 hC HI
  go_enter Tryz.func47, Tryz.ntmps47
  go_wp2_with fail
  refine calls_at (HSx.out W Q 86 #[.pointer (some ⟨w.heap.size + 1, 0, none⟩), .pointer (some ⟨w.heap.size, 0, none⟩)] _ HLW.out (HT1.out W (Kq.refl _ _)) (fun q hq => Nat.le_trans (HTs.out q hq) (by omega))) (by with_reducible rfl) (by with_reducible rfl) ?_
  rintro e w3 ⟨rfl, hL3, hk3⟩
  have HL3 : Hid (LfQ B lp g p nv mv s (someQ Q x t1) w3) := hL3
  have HK3 : Hid (Kq B W w3) := hk3
  have d0 : w3.cell? ⟨w.heap.size, 0, none⟩ = some (.pointer (some ⟨lp, 0, none⟩)) := cell_of (HG.out w3 hk3).1 0
  have d6 : w3.cell? ⟨w.heap.size + 1, 6, none⟩ = some (.int .i64 (y : Int)) := cell_of (HG.out w3 hk3).2 6
  clear hL3 hk3 c0 c5 hW
  go_wp2_with fail
  refine calls_at (HSy.out w3 _ 88 #[.pointer (some ⟨w.heap.size + 1, 0, none⟩), .pointer (some ⟨w.heap.size, 0, none⟩)] _ HL3.out (HT2.out w3 HK3.out) (fun q hq => Nat.le_trans (someQ_ts HTs.out x t1 q hq) (by omega))) (by with_reducible rfl) (by with_reducible rfl) ?_
  rintro e w5 ⟨rfl, hL5, hk5⟩
  have HL5 : Hid (LfQ B lp g p nv mv s R w5) := by show LfQ _ _ _ _ _ _ _ _ _; rw [HQ.out]; exact hL5
  have HK5 : Hid (Kq B W w5) := HK3.out.trans hk5
  clear hL5 hk5 d0 d6
  go_wp2_with fail
  go_ret
  exact ⟨rfl, (fun Q' h => by injection h with h; rw [← h]; exact HL5.out), HKW.out.trans HK5.out⟩
end Go.Proofs.YtlcegpnnanhloaaGreatDoor

namespace Go.Proofs.YtlcegpnnanhloaaGreatDoor
open Go.RowKit

/-- A row's numbers all stand in their variables' domains. -/
def alB (D : List Dm) (row xs : List Int) (n : Nat) : Bool := (List.range n).all fun k => (dAt D (xs.getD k 0)).has (row.getD k 0)
theorem all_range_not {f : Nat → Bool} {k n : Nat} (hk : k < n) (h : f k = false) : (List.range n).all f = false := by
  cases hh : (List.range n).all f
  · rfl
  · rw [List.all_eq_true] at hh
    rw [hh k (List.mem_range.2 hk)] at h
    cases h
theorem getD_at {l : List Int} {k : Nat} (h : k < l.length) : l.getD k 0 = l[k] := by rw [List.getD_eq_getElem?_getD, List.getElem?_eq_getElem h]; rfl

set_option maxRecDepth 10000 in
set_option maxHeartbeats 1000000 in
theorem alive_any (B lp g p : Nat) (nv mv : Value) (s : St) (Q : List Sq) (w : World) (h : LfQ B lp g p nv mv s Q w) (vr vx : Value) (row xs : List Int) (hr : IntsAt w vr row) (hx : IntsAt w vx xs) (hin : ∀ x ∈ xs, 0 ≤ x ∧ x < (s.now.length : Int)) (hrl : row.length = xs.length) (hl : xs.length ≤ 64) :
    Calls Tryz.prog 93 #[.pointer (some ⟨lp, 0, none⟩), vr, vx] w fun e w' => e = .returned (.bool (alB s.now row xs xs.length)) ∧ Below w.heap.size w w' := by
  have hBs := h.size
  have hlc := h.box (Kq.refl _ _)
  have hlp := World.block_lt_of_cell? w _ hlc
  obtain ⟨xa, xc, rfl, _, hxc⟩ := hx
  obtain ⟨ra, rc, rfl, _, hrc⟩ := hr
  have HC : Hid (∀ k (hk : k < xs.length) (hk2 : k < row.length) w', Below w.heap.size w w' → ∃ b off b2 off2, xa = some ⟨b, off, none⟩ ∧ ra = some ⟨b2, off2, none⟩ ∧ w'.cell? ⟨b, off + k, none⟩ = some (.int .i64 xs[k]) ∧ (w'.cell? ⟨lp, 0, none⟩ = some (.pointer (some ⟨p, 0, none⟩)) ∧ w'.cell? ⟨b2, off2 + k, none⟩ = some (.int .i64 row[k]))) := fun k hk hk2 w' hb => by
    obtain ⟨b, off, rfl, hlt, hcl⟩ := hxc (by omega)
    obtain ⟨b2, off2, rfl, hlt2, hcl2⟩ := hrc (by omega)
    exact ⟨b, off, b2, off2, rfl, rfl, (hb.cell (p := ⟨b, _, none⟩) hlt).trans (hcl k hk), (hb.cell (p := ⟨lp, _, none⟩) hlp).trans hlc, (hb.cell (p := ⟨b2, _, none⟩) hlt2).trans (hcl2 k hk2)⟩
  have HH : Hid (∀ (x : Nat) (hx : x < s.now.length) w' u, Below w.heap.size w w' → Calls Tryz.prog 87 #[.pointer (some ⟨p, 0, none⟩), .int .i64 (x : Int), .int .i64 u] w' fun e w2 => e = .returned (.bool (s.now[x].has u)) ∧ Below w'.heap.size w' w2) := fun x hx w' u hb => h.hass x hx u (hb.mono hBs)
  have HIn : Hid (∀ x ∈ xs, 0 ≤ x ∧ x < (s.now.length : Int)) := hin
  have HRl : Hid (row.length = xs.length) := hrl
  have hrI : (row.length : Int) = (xs.length : Int) := by omega
  clear h hxc hrc hlc hlp hin hrl hBs
  go_enter Tryz.func93, Tryz.ntmps93
  go_wp2_with fail
  go_loopw [11] (fun iv wr => ∃ (k : Nat), iv = .int .i64 (k : Int) ∧ k ≤ xs.length ∧ Hid ((alB s.now row xs k) = true) ∧ Hid (Below w.heap.size w wr)) (fun iv _ => xs.length - (intOf iv).toNat)
  case atStart => exact ⟨0, rfl, Nat.zero_le _, rfl, Below.refl _ _⟩
  case round =>
  obtain ⟨k, rfl, hk, HT, HBr⟩ := hrel
  by_cases hkn : k < xs.length
  · have hkI : (k : Int) < (xs.length : Int) := by omega
    have hkR : (k : Int) < (row.length : Int) := by omega
    have hkr : k < row.length := by omega
    obtain ⟨b, off, b2, off2, rfl, rfl, f0, _⟩ := HC.out k hkn hkr wr HBr.out
    have HCk : Hid (∀ w', Below wr.heap.size wr w' → w'.cell? ⟨lp, 0, none⟩ = some (.pointer (some ⟨p, 0, none⟩)) ∧ w'.cell? ⟨b2, off2 + k, none⟩ = some (.int .i64 row[k])) := fun w' hb => by
      obtain ⟨_, _, _, _, e1, e2, _, h⟩ := HC.out k hkn hkr w' (bl_next HBr.out hb)
      injection e2 with e2
      injection e2 with e2 e3
      subst e2 e3
      exact h
    obtain ⟨m, hm, hmn⟩ : ∃ m : Nat, xs[k] = (m : Int) ∧ m < s.now.length := ⟨xs[k].toNat, by have := HIn.out _ (List.getElem_mem hkn); omega, by have := HIn.out _ (List.getElem_mem hkn); omega⟩
    have hf : (fun k => (dAt s.now (xs.getD k 0)).has (row.getD k 0)) k = s.now[m].has row[k] := by
      show (dAt s.now (xs.getD k 0)).has (row.getD k 0) = _
      rw [getD_at hkn, getD_at hkr, hm, dAt_get hmn]
    have hnx : (alB s.now row xs (k + 1)) = s.now[m].has row[k] := by
      have h0 := HT.out
      unfold alB at h0 ⊢
      rw [List.range_succ, List.all_append, h0, List.all_cons, List.all_nil, Bool.true_and, Bool.and_true]
      exact hf
    have hno : s.now[m].has row[k] = false → (alB s.now row xs xs.length) = false := fun hh => all_range_not hkn (hf.trans hh)
    have HHk := HH.out m hmn wr.drew row[k] HBr.out.drew
    obtain ⟨r, hr⟩ : ∃ r, s.now[m].has row[k] = r := ⟨_, rfl⟩
    rw [hm] at f0
    rw [hr] at hnx hno HHk
    obtain ⟨z, hz⟩ : ∃ z, row[k] = z := ⟨_, rfl⟩
    rw [hz] at HHk HCk
    have HN : Hid ((alB s.now row xs (k + 1)) = r) := hnx
    have HY : Hid (r = false → (alB s.now row xs xs.length) = false) := hno
    have HHk' : Hid (Calls Tryz.prog 87 #[.pointer (some ⟨p, 0, none⟩), .int .i64 (m : Int), .int .i64 z] wr.drew fun e w2 => e = .returned (.bool r) ∧ Below wr.drew.heap.size wr.drew w2) := HHk
    clear hf hnx hno hm hr hz HHk
    go_wp2_with fail
    go_region_held3 (fun w' => w'.cell? ⟨lp, 0, none⟩ = some (.pointer (some ⟨p, 0, none⟩)) ∧ w'.cell? ⟨b2, off2 + k, none⟩ = some (.int .i64 z))
      (first | exact HCk.out _ (Below.refl _ _).drew | exact HCk.out _ HB4.out)
      (first | (go_at_call 87; refine calls_at HHk'.out (by with_reducible rfl) (by with_reducible rfl) ?_; rintro e w4 ⟨rfl, hb4⟩; (have HB4 : Hid (Below wr.heap.size wr w4) := (Below.refl _ _).drew.trans hb4); clear hb4))
    cases r with
    | false =>
      have HY4 : Hid ((alB s.now row xs xs.length) = false) := HY.out rfl
      go_wp2_with fail
      go_ret
      exact ⟨ret_bool (by rw [HY4.out]), bl_next HBr.out HB4.out⟩
    | true =>
      go_wp2_with fail
      go_roundw
      case rel => exact ⟨k + 1, by go_num, hkn, HN, bl_next HBr.out HB4.out⟩
      case measure => simp [intOf]; omega
  · have hke : k = xs.length := by omega
    subst hke
    have hkI : ¬ (xs.length : Int) < (xs.length : Int) := by omega
    go_wp2_with fail
    go_ret
    exact ⟨ret_bool (by rw [HT.out]), HBr.out⟩

/-- A row says v at place k. -/
def rowB (k : Nat) (v : Int) (r : List Int) : Bool := r.getD k 0 == v
set_option maxRecDepth 10000 in
set_option maxHeartbeats 1000000 in
theorem clos96 (u : Value) (row : List Int) (P1 P2 k : Nat) (v : Int) (w : World) (hu : IntsAt w u row) (h1 : w.cell? ⟨P1, 0, none⟩ = some (.int .i64 (k : Int))) (h2 : w.cell? ⟨P2, 0, none⟩ = some (.int .i64 v)) (hk : k < row.length) (hl : row.length ≤ 64) :
    Calls Tryz.prog 96 #[u, .pointer (some ⟨P1, 0, none⟩), .pointer (some ⟨P2, 0, none⟩)] w fun e w' => e = .returned (.bool (rowB k v row)) ∧ Below w.heap.size w w' := by
  obtain ⟨a, cap, rfl, _, hc⟩ := hu
  obtain ⟨b, off, rfl, _, hcl⟩ := hc (by omega)
  have f0 := hcl k hk
  have hkI : (k : Int) < (row.length : Int) := by omega
  have he : rowB k v row = (row[k] == v) := by unfold rowB; rw [getD_at hk]
  rw [he]
  generalize row[k] = z at f0 ⊢
  clear hc hcl he
  go_enter Tryz.func96, Tryz.ntmps96
  go_wp2_with fail
  go_quiet ((fail))
  rename_i nq _
  go_wp2_with fail
  go_ret
  exact ⟨rfl, bl_drewN w nq⟩

set_option maxRecDepth 10000 in
set_option maxHeartbeats 1000000 in
theorem indexR96 (vr : Value) (rows : List (List Int)) (P1 P2 k0 n : Nat) (v : Int) (w : World) (hr : RowsAt w vr rows) (h1 : w.cell? ⟨P1, 0, none⟩ = some (.int .i64 (k0 : Int))) (h2 : w.cell? ⟨P2, 0, none⟩ = some (.int .i64 v)) (hl : ∀ r ∈ rows, r.length = n) (hk0 : k0 < n) (hn : n ≤ 64) (hr64 : rows.length ≤ 64) :
    Calls Tryz.prog 124 #[vr, .func (.func 96) #[] #[.pointer (some ⟨P1, 0, none⟩), .pointer (some ⟨P2, 0, none⟩)]] w fun e w' => ∃ r : Int, e = .returned (.int .i64 r) ∧ decide (0 ≤ r) = rows.any (rowB k0 v) ∧ Below w.heap.size w w' := by
  have hp1 := World.block_lt_of_cell? w _ h1
  have hp2 := World.block_lt_of_cell? w _ h2
  have HH : Hid (∀ w' u row, Below w.heap.size w w' → IntsAt w' u row → row.length = n → Calls Tryz.prog 96 #[u, .pointer (some ⟨P1, 0, none⟩), .pointer (some ⟨P2, 0, none⟩)] w' fun e w'' => e = .returned (.bool (rowB k0 v row)) ∧ Below w'.heap.size w' w'') := fun w' u row hb hu hrl =>
    clos96 u row P1 P2 k0 v w' hu ((hb.cell (p := ⟨P1, 0, none⟩) hp1).trans h1) ((hb.cell (p := ⟨P2, 0, none⟩) hp2).trans h2) (by omega) (by omega)
  obtain ⟨a, cap, rfl, hm, hc⟩ := hr
  have HC : Hid (0 < rows.length → ∃ b off, a = some ⟨b, off, none⟩ ∧ b < w.heap.size ∧ ∀ j (h : j < rows.length), ∃ u, w.cell? ⟨b, off + j, none⟩ = some u ∧ IntsAt w u rows[j]) := hc
  have HL : Hid (∀ r ∈ rows, r.length = n) := hl
  obtain ⟨f, hf⟩ : ∃ f : List Int → Bool, rowB k0 v = f := ⟨_, rfl⟩
  rw [hf] at HH ⊢
  clear hc hl hm hf hp1 hp2 h1 h2
  go_enter Tryz.func124, Tryz.ntmps124
  go_wp2
  go_loopw [8] (fun iv wr => ∃ k : Nat, iv = .int .i64 (k : Int) ∧ k ≤ rows.length ∧ Hid ((rows.take k).any f = false) ∧ Hid (Below w.heap.size w wr)) (fun iv _ => rows.length - (intOf iv).toNat)
  case atStart => exact ⟨0, rfl, Nat.zero_le _, (show _ = _ by simp), Below.refl _ _⟩
  case round =>
    obtain ⟨k, rfl, hk, hA, hB⟩ := hrel
    by_cases hlt : k < rows.length
    · have hkI : (k : Int) < (rows.length : Int) := by omega
      obtain ⟨b, off, rfl, hb, hc⟩ := HC.out (by omega)
      obtain ⟨u, hcell, hu⟩ := hc k hlt
      have hcw := (hB.out.cell (p := ⟨b, off + k, none⟩) hb).trans hcell
      have HU : Hid (Calls Tryz.prog 96 #[u, .pointer (some ⟨P1, 0, none⟩), .pointer (some ⟨P2, 0, none⟩)] wr fun e w'' => e = .returned (.bool (f rows[k])) ∧ Below wr.heap.size wr w'') :=
        HH.out wr u rows[k] hB.out (hu.below hB.out) (HL.out _ (List.getElem_mem hlt))
      obtain ⟨ua, uc, rfl, _⟩ := hu.form
      clear hc hcell hu
      cases hp : f rows[k]
      · have hnx : Hid ((rows.take (k + 1)).any f = false) := by show _ = _; rw [Md.any_next hlt, hA.out, hp]; rfl
        rw [hp] at HU
        go_wp2_with (go_at_call 96; refine calls_at HU.out (by with_reducible rfl) (by with_reducible rfl) ?_; rintro e w2 ⟨rfl, hb2⟩)
        go_roundw
        case rel => exact ⟨k + 1, by go_num, by omega, hnx, hB.out.trans (hb2.mono hB.out.size)⟩
        case measure => simp [intOf]; omega
      · have hres : Hid (rows.any f = true) := Md.any_stop hlt hp
        rw [hp] at HU
        go_wp2_with (go_at_call 96; refine calls_at HU.out (by with_reducible rfl) (by with_reducible rfl) ?_; rintro e w2 ⟨rfl, hb2⟩)
        go_ret
        exact ⟨_, rfl, by rw [hres.out]; simp, hB.out.trans (hb2.mono hB.out.size)⟩
    · have hkI : ¬ (k : Int) < (rows.length : Int) := by omega
      have hres : Hid (rows.any f = false) := Md.any_done hA.out (by omega)
      go_wp2
      go_ret
      exact ⟨_, rfl, by rw [hres.out]; rfl, hB.out⟩

set_option maxHeartbeats 400000 in
theorem containsR96 (vr : Value) (rows : List (List Int)) (P1 P2 k0 n : Nat) (v : Int) (w : World) (hr : RowsAt w vr rows) (h1 : w.cell? ⟨P1, 0, none⟩ = some (.int .i64 (k0 : Int))) (h2 : w.cell? ⟨P2, 0, none⟩ = some (.int .i64 v)) (hl : ∀ r ∈ rows, r.length = n) (hk0 : k0 < n) (hn : n ≤ 64) (hr64 : rows.length ≤ 64) :
    Calls Tryz.prog 95 #[vr, .func (.func 96) #[] #[.pointer (some ⟨P1, 0, none⟩), .pointer (some ⟨P2, 0, none⟩)]] w fun e w' => e = .returned (.bool (rows.any (rowB k0 v))) ∧ Below w.heap.size w w' := by
  have H : Hid _ := indexR96 vr rows P1 P2 k0 n v w hr h1 h2 hl hk0 hn hr64
  obtain ⟨a, cap, rfl, _⟩ := hr
  generalize (rows.any (rowB k0 v)) = B at *
  clear h1 h2 hl
  go_enter Tryz.func95, Tryz.ntmps95
  go_wp2_with (go_at_call 124; refine calls_at H.out (by with_reducible rfl) (by with_reducible rfl) ?_; rintro e w2 ⟨r, rfl, hr, hb2⟩)
  go_ret
  exact ⟨rfl, hb2⟩

set_option maxRecDepth 10000 in
set_option maxHeartbeats 1000000 in
theorem clos94 (vr : Value) (rows : List (List Int)) (A K k0 n : Nat) (v : Int) (w : World) (hA : w.cell? ⟨A, 0, none⟩ = some vr) (hr : RowsAt w vr rows) (h1 : w.cell? ⟨K, 0, none⟩ = some (.int .i64 (k0 : Int))) (hl : ∀ r ∈ rows, r.length = n) (hk0 : k0 < n) (hn : n ≤ 64) (hr64 : rows.length ≤ 64) :
    Calls Tryz.prog 94 #[.int .i64 v, .pointer (some ⟨A, 0, none⟩), .pointer (some ⟨K, 0, none⟩)] w fun e w' => e = .returned (.bool (rows.any (rowB k0 v))) ∧ Below w.heap.size w w' := by
  obtain ⟨W, hW⟩ : ∃ W, w.alloc (.cells #[.int .i64 v] 3) = W := ⟨_, rfl⟩
  have hb0 : Below w.heap.size w W := by rw [← hW]; exact (Below.refl _ _).alloc (Nat.le_refl _) _
  have g0 : W.heap[w.heap.size]? = some (.cells #[.int .i64 v] 3 (0, 0)) := by rw [← hW]; exact heap_alloc_new w _
  have HB0 : Hid (Below w.heap.size w W) := hb0
  have c0 : W.cell? ⟨A, 0, none⟩ = some vr := (hb0.cell (p := ⟨A, 0, none⟩) (World.block_lt_of_cell? w _ hA)).trans hA
  have H : Hid (Calls Tryz.prog 95 #[vr, .func (.func 96) #[] #[.pointer (some ⟨K, 0, none⟩), .pointer (some ⟨w.heap.size, 0, none⟩)]] W fun e w' => e = .returned (.bool (rows.any (rowB k0 v))) ∧ Below W.heap.size W w') :=
    containsR96 vr rows K w.heap.size k0 n v W (hr.below hb0) ((hb0.cell (p := ⟨K, 0, none⟩) (World.block_lt_of_cell? w _ h1)).trans h1) (cell_of g0 0) hl hk0 hn hr64
  obtain ⟨a, cap, rfl, _⟩ := hr.form
  generalize (rows.any (rowB k0 v)) = B at *
  clear hA hr h1 hl hb0 g0
  go_enter Tryz.func94, Tryz.ntmps94
  go_wp2_with fail
  try rw [hW]
  clear hW
  go_wp2_with fail
  refine calls_at H.out (by with_reducible rfl) (by with_reducible rfl) ?_
  rintro e w3 ⟨rfl, hb3⟩
  go_wp2_with fail
  go_ret
  exact ⟨rfl, bl_next HB0.out hb3⟩
end Go.Proofs.YtlcegpnnanhloaaGreatDoor

namespace Go.Proofs.YtlcegpnnanhloaaGreatDoor
open Go.RowKit

/-- At how many places each variable stands. -/
def plcL (xs : List Int) (n : Nat) : List Int := coefL (xs.map fun x => (1, x)) n
theorem plcL_next {xs : List Int} {n k m : Nat} (hk : k < xs.length) (hm : xs[k] = (m : Int)) (hm2 : m < (plcL (xs.take k) n).length) : plcL (xs.take (k + 1)) n = (plcL (xs.take k) n).set m ((plcL (xs.take k) n)[m] + 1) := by
  have h1 : k < (xs.map fun x => ((1 : Int), x)).length := by rw [List.length_map]; exact hk
  have e : (xs.map fun x => ((1 : Int), x))[k] = (1, xs[k]) := by rw [List.getElem_map]
  have e1 : ∀ j, plcL (xs.take j) n = coefL ((xs.map fun x => ((1 : Int), x)).take j) n := fun j => by unfold plcL; rw [List.map_take]
  have h2 : m < (coefL ((xs.map fun x => ((1 : Int), x)).take k) n).length := by rw [coefL_len]; unfold plcL at hm2; rw [coefL_len] at hm2; exact hm2
  have h3 := coefL_next (t := xs.map fun x => ((1 : Int), x)) (n := n) (m := m) h1 (by rw [e]; exact hm) h2
  rw [e1 (k + 1), h3]
  simp only [e1 k, e]
theorem plcL_len (xs : List Int) (n : Nat) : (plcL xs n).length = n := coefL_len _ _
theorem plcL_bdk (xs : List Int) (k n x : Nat) (hl : xs.length ≤ 64) (hx : x < (plcL (xs.take k) n).length) : -64000000 ≤ (plcL (xs.take k) n)[x] ∧ (plcL (xs.take k) n)[x] ≤ 64000000 := by
  have h1 := coefL_bd (t := (xs.take k).map fun x => ((1 : Int), x)) (fun q hq => by obtain ⟨_, _, rfl⟩ := List.mem_map.1 hq; simp) n x (by unfold plcL at hx; exact hx)
  have h2 : (xs.take k).length ≤ 64 := Nat.le_trans (by rw [List.length_take]; exact Nat.min_le_right _ _) hl
  rw [List.length_map] at h1
  unfold plcL
  omega
/-- Places of those that have the value for sure, and of those that may have it. -/
def sure1 (v : Int) (z : Int × Dm) : Int := if z.2.has v && z.2.size == 1 then z.1 else 0
def may1 (v : Int) (z : Int × Dm) : Int := if z.2.has v then z.1 else 0
def sumZ (f : Int × Dm → Int) (l : List (Int × Dm)) : Int := (l.map f).sum
theorem sumZ_next (f : Int × Dm → Int) (l : List (Int × Dm)) (k : Nat) (hk : k < l.length) : sumZ f (l.take (k + 1)) = sumZ f (l.take k) + f l[k] := by
  unfold sumZ
  rw [List.take_succ_eq_append_getElem hk, List.map_append, List.sum_append]
  simp
theorem sumZ_bd (f : Int × Dm → Int) (l : List (Int × Dm)) (h : ∀ z ∈ l, -64000000 ≤ f z ∧ f z ≤ 64000000) (hl : l.length ≤ 32) (k : Nat) : -3000000000 ≤ sumZ f (l.take k) ∧ sumZ f (l.take k) ≤ 3000000000 := by
  have key : ∀ l : List (Int × Dm), (∀ z ∈ l, -64000000 ≤ f z ∧ f z ≤ 64000000) → -(64000000 * (l.length : Int)) ≤ sumZ f l ∧ sumZ f l ≤ 64000000 * (l.length : Int) := by
    intro l
    induction l with
    | nil => intro _; simp [sumZ]
    | cons z l ih =>
      intro h
      have h1 := h z List.mem_cons_self
      have h2 := ih (fun z hz => h z (List.mem_cons_of_mem _ hz))
      have e : sumZ f (z :: l) = f z + sumZ f l := by simp [sumZ]
      rw [e, List.length_cons]
      omega
  have h1 := key (l.take k) (fun z hz => h z (List.mem_of_mem_take hz))
  have h2 : (l.take k).length ≤ 32 := Nat.le_trans (by rw [List.length_take]; exact Nat.min_le_right _ _) hl
  omega
def ctStep (am al : Bool) (v k sure may : Int) (Q : List Sq) (x : Nat) (z : Int × Dm) : List Sq :=
  if z.1 = 0 ∨ z.2.has v = false then Q
  else if (al && decide (may - z.1 < k)) = true then keepQ (if (am && decide (1 < z.2.size) && decide (k < sure + z.1)) = true then someQ Q x (fun u => u != v) else Q) x v v
  else (if (am && decide (1 < z.2.size) && decide (k < sure + z.1)) = true then someQ Q x (fun u => u != v) else Q)
def ctQ (am al : Bool) (v k sure may : Int) (zs : List (Int × Dm)) (Q : List Sq) : Nat → List Sq
  | 0 => Q
  | j + 1 => match zs[j]? with
    | some z => ctStep am al v k sure may (ctQ am al v k sure may zs Q j) j z
    | none => ctQ am al v k sure may zs Q j
theorem ctQ_next (am al : Bool) (v k sure may : Int) (zs : List (Int × Dm)) (Q : List Sq) (j : Nat) (hj : j < zs.length) : ctQ am al v k sure may zs Q (j + 1) = ctStep am al v k sure may (ctQ am al v k sure may zs Q j) j zs[j] := by
  show (match zs[j]? with | some z => ctStep am al v k sure may (ctQ am al v k sure may zs Q j) j z | none => ctQ am al v k sure may zs Q j) = _
  rw [List.getElem?_eq_getElem hj]
/-- The rule of Count. -/
def countQ (D : List Dm) (c : Md.Cn) (Q : List Sq) : Option (List Sq) :=
  if ((c.op != 3) && decide (c.k < sumZ (sure1 c.v) ((plcL c.xs D.length).zip D)) || (c.op != 1) && decide (sumZ (may1 c.v) ((plcL c.xs D.length).zip D) < c.k)) = true then none
  else some (ctQ (c.op != 3) (c.op != 1) c.v c.k (sumZ (sure1 c.v) ((plcL c.xs D.length).zip D)) (sumZ (may1 c.v) ((plcL c.xs D.length).zip D)) ((plcL c.xs D.length).zip D) Q ((plcL c.xs D.length).zip D).length)
theorem keepQ_ts {Q : List Sq} {n : Nat} (h : ∀ q ∈ Q, q.ts.length ≤ n) (x : Nat) (a b : Int) : ∀ q ∈ keepQ Q x a b, q.ts.length ≤ n := fun q hq => by
  unfold keepQ at hq
  split at hq
  · rename_i s hs
    rcases List.mem_or_eq_of_mem_set hq with hq | rfl
    · exact h q hq
    · exact h s (List.mem_of_getElem? hs)
  · exact h q hq
theorem ctStep_ts {Q : List Sq} {n : Nat} (h : ∀ q ∈ Q, q.ts.length ≤ n) (am al : Bool) (v k sure may : Int) (x : Nat) (z : Int × Dm) : ∀ q ∈ ctStep am al v k sure may Q x z, q.ts.length ≤ n + 1 := by
  have h1 : ∀ q ∈ (if (am && decide (1 < z.2.size) && decide (k < sure + z.1)) = true then someQ Q x (fun u => u != v) else Q), q.ts.length ≤ n + 1 := by
    split
    · exact someQ_ts h x _
    · exact fun q hq => Nat.le_succ_of_le (h q hq)
  unfold ctStep
  split
  · exact fun q hq => Nat.le_succ_of_le (h q hq)
  · split
    · exact keepQ_ts h1 x v v
    · exact h1
theorem ctQ_ts {Q : List Sq} {n : Nat} (h : ∀ q ∈ Q, q.ts.length ≤ n) (am al : Bool) (v k sure may : Int) (zs : List (Int × Dm)) (j : Nat) : ∀ q ∈ ctQ am al v k sure may zs Q j, q.ts.length ≤ n + j := by
  induction j with
  | zero => exact h
  | succ j ih =>
    show ∀ q ∈ (match zs[j]? with | some z => ctStep am al v k sure may (ctQ am al v k sure may zs Q j) j z | none => ctQ am al v k sure may zs Q j), _
    split
    · exact ctStep_ts ih am al v k sure may j _
    · exact fun q hq => Nat.le_succ_of_le (ih q hq)
set_option maxRecDepth 10000 in
set_option maxHeartbeats 400000 in
theorem ct1_any (N : Nat) (v u : Int) (a0 a1 a2 a3 a5 a6 a7 a8 a9 : Value) (w : World) (hN : w.heap[N]? = some (.cells #[a0, a1, a2, a3, .int .i64 v, a5, a6, a7, a8, a9] 31 (0, 0))) : Calls Tryz.prog 98 #[.int .i64 u, .pointer (some ⟨N, 0, none⟩)] w fun e w' => e = .returned (.bool (u != v)) ∧ Below w.heap.size w w' := by
  have c4 : w.cell? ⟨N, 4, none⟩ = some (.int .i64 v) := cell_of hN 4
  clear hN
  go_enter Tryz.func98, Tryz.ntmps98
  go_wp2_with fail
  go_ret
  exact ⟨rfl, Below.refl _ _⟩
theorem enters98 : Enters Tryz.prog 98 := enters_of Tryz.func98 (by kernel_rfl) rfl
end Go.Proofs.YtlcegpnnanhloaaGreatDoor

namespace Go.Proofs.YtlcegpnnanhloaaGreatDoor
open Go.RowKit

/-- What goes of a variable that has these values. -/
def Sq.kept (q : Sq) (vs : List Int) : List Int := vs.filter q.has
def Sq.gone (q : Sq) (x : Int) (vs : List Int) : List Ct := (vs.filter fun v => !q.has v).map fun v => ⟨3, x, v⟩
def Sq.cutsL (q : Sq) (x : Int) (vs : List Int) : List Ct := if (q.ts.length == 0 && decide (0 < (q.kept vs).length)) = true then endsL x vs (q.kept vs) else q.gone x vs
theorem kept_next (q : Sq) (vs : List Int) (k : Nat) (hk : k < vs.length) : q.kept (vs.take (k + 1)) = q.kept (vs.take k) ++ (if q.has vs[k] then [vs[k]] else []) := by
  unfold Sq.kept
  rw [List.take_succ_eq_append_getElem hk, List.filter_append]
  congr 1
  by_cases h : q.has vs[k] = true
  · simp [h]
  · simp [h]
theorem gone_next (q : Sq) (x : Int) (vs : List Int) (k : Nat) (hk : k < vs.length) : q.gone x (vs.take (k + 1)) = q.gone x (vs.take k) ++ (if q.has vs[k] then [] else [⟨3, x, vs[k]⟩]) := by
  unfold Sq.gone
  rw [List.take_succ_eq_append_getElem hk, List.filter_append, List.map_append]
  congr 1
  by_cases h : q.has vs[k] = true
  · simp [h]
  · simp [h]
theorem kept_len (q : Sq) (vs : List Int) : (q.kept vs).length ≤ vs.length := List.length_filter_le _ _
theorem gone_len (q : Sq) (x : Int) (vs : List Int) : (q.gone x vs).length ≤ vs.length := by
  unfold Sq.gone
  rw [List.length_map]
  exact List.length_filter_le _ _
/-- Rows of two types lie apart. -/
theorem own_apart {w : World} {B B' : Nat} {e e' : TypeId} {s s' : Nat} {v v' : Value} {n n' : Nat} {xs xs' : List Value} (h : w.ownsRow B e s v n xs) (h' : w.ownsRow B' e' s' v' n' xs') (hne : e ≠ e') (g : Nat) (h1 : v.ownBlock = some g) (h2 : v'.ownBlock = some g) : False := by
  rcases h.2 with ⟨rfl, _⟩ | ⟨q, cap, cur, rfl, _, hc, _⟩
  · cases h1
  rcases h'.2 with ⟨rfl, _⟩ | ⟨q', cap', cur', rfl, _, hc', _⟩
  · cases h2
  injection h1 with h1
  injection h2 with h2
  replace h1 : q = g := h1
  replace h2 : q' = g := h2
  subst h1
  rw [h2, hc] at hc'
  injection hc' with hc'
  injection hc' with _ e2 _
  exact hne e2
set_option maxRecDepth 10000 in
set_option maxHeartbeats 2000000 in
theorem staysCuts_any (B : Nat) (q : Sq) (tv : Value) (fs : List Value) (x : Int) (vv : Value) (vs : List Int) (w : World) (ho : w.ownsRow B 58 1 tv q.ts.length fs) (ht : TestsAt B w fs q.ts) (hB : B ≤ w.heap.size) (hl : q.ts.length ≤ 9223372036854775807) (hv : IntsAt w vv vs) (hvl : vs.length ≤ 1000) (hvb : ∀ v ∈ vs, -2000000000 ≤ v ∧ v ≤ 2000000000) : Calls Tryz.prog 57 #[stVal q.lo q.hi tv, .int .i64 x, vv] w (CsOut (q.cutsL x vs) w) := by
  obtain ⟨ta, tc, rfl⟩ := own_slice ho
  obtain ⟨va, vc, rfl, hvm, hvc⟩ := hv
  obtain ⟨W, hW⟩ : ∃ W, w.alloc (.cells #[.int .i64 q.lo, .int .i64 q.hi, .slice ta q.ts.length tc] 105) = W := ⟨_, rfl⟩
  have hb0 : Below w.heap.size w W := by rw [← hW]; exact (Below.refl _ _).alloc (Nat.le_refl _) _
  have g0 : W.heap[w.heap.size]? = some (.cells #[.int .i64 q.lo, .int .i64 q.hi, .slice ta q.ts.length tc] 105 (0, 0)) := by rw [← hW]; exact heap_alloc_new w _
  have hlt0 := (Array.getElem?_eq_some_iff.1 g0).1
  have HC : Hid (∀ w', Below W.heap.size W w' → w'.cell? ⟨w.heap.size, 0, none⟩ = some (.int .i64 q.lo) ∧ w'.cell? ⟨w.heap.size, 1, none⟩ = some (.int .i64 q.hi) ∧ w'.cell? ⟨w.heap.size, 2, none⟩ = some (.slice ta q.ts.length tc)) := fun w' hb => ⟨cell_of ((hb.block _ hlt0).trans g0) 0, cell_of ((hb.block _ hlt0).trans g0) 1, cell_of ((hb.block _ hlt0).trans g0) 2⟩
  have HV : Hid (∀ k (hk : k < vs.length) w', Below W.heap.size W w' → ∃ b off, va = some ⟨b, off, none⟩ ∧ w'.cell? ⟨b, off + k, none⟩ = some (.int .i64 vs[k])) := fun k hk w' hb => by
    obtain ⟨b, off, rfl, hlt, hcl⟩ := hvc (by omega)
    exact ⟨b, off, rfl, ((hb0.trans (hb.mono hb0.size)).cell (p := ⟨b, _, none⟩) hlt).trans (hcl k hk)⟩
  have HIv : Hid (∀ w', Below W.heap.size W w' → IntsAt w' (.slice va vs.length vc) vs) := fun w' hb => IntsAt.below (w := w) ⟨va, vc, rfl, hvm, hvc⟩ (hb0.trans (hb.mono hb0.size))
  have HH : Hid (∀ (v : Int) w', -2000000000 ≤ v → v ≤ 2000000000 → Below W.heap.size W w' → Calls Tryz.prog 99 #[.agg #[.int .i64 q.lo, .int .i64 q.hi, .slice ta q.ts.length tc], .int .i64 v] w' fun e w2 => e = .returned (.bool (q.has v)) ∧ Below w'.heap.size w' w2) := fun v w' h1 h2 hb => by
    have hbw := hb0.trans (hb.mono hb0.size)
    exact has_max B q.lo q.hi _ q.ts fs v w' (own_below ho hbw) (ht.kq (Kq.of_below hbw hB)) (Nat.le_trans hB hbw.size) hl h1 h2
  have HIs : Hid (∀ w', Calls Tryz.prog 53 #[.agg #[.int .i64 q.lo, .int .i64 q.hi, .slice ta q.ts.length tc]] w' fun e w2 => e = .returned (.bool (q.ts.length == 0)) ∧ Below w'.heap.size w' w2) := fun w' => isI_any q.lo q.hi ta q.ts.length tc w'
  have HB : Hid (Below w.heap.size w W) := hb0
  have HVb : Hid (∀ v ∈ vs, -2000000000 ≤ v ∧ v ≤ 2000000000) := hvb
  have HCut : Hid (q.cutsL x vs = if (q.ts.length == 0 && decide (0 < (q.kept vs).length)) = true then endsL x vs (q.kept vs) else q.gone x vs) := rfl
  obtain ⟨tn, htn⟩ : ∃ n, q.ts.length = n := ⟨_, rfl⟩
  rw [htn] at HC HH HIs HCut hW ⊢
  obtain ⟨R, hR⟩ : ∃ R, q.cutsL x vs = R := ⟨_, rfl⟩
  rw [hR] at HCut ⊢
  clear ho ht hB hl hvc hb0 g0 hlt0 hvb htn hR hvm
  unfold stVal
  go_enter Tryz.func57, Tryz.ntmps57
  go_wp2_with fail
  go_loopw [7, 8, 13] (fun kv gv iv wr => ∃ (k : Nat), iv = .int .i64 (k : Int) ∧ k ≤ vs.length ∧ Hid (wr.ownsRow W.heap.size 3 1 kv (q.kept (vs.take k)).length ((q.kept (vs.take k)).map (.int .i64))) ∧ Hid (wr.ownsRow W.heap.size 46 3 gv (q.gone x (vs.take k)).length (cts (q.gone x (vs.take k)))) ∧ Hid (Below W.heap.size W wr)) (fun _ _ iv _ => vs.length - (intOf iv).toNat)
  case atStart => exact ⟨0, rfl, Nat.zero_le _, World.ownsRow_nil _ _ _ _, World.ownsRow_nil _ _ _ _, Below.refl _ _⟩
  case round =>
  obtain ⟨k, rfl, hk, HKr, HGr, HBr⟩ := hrel
  clear hW
  obtain ⟨ka, kc, rfl⟩ := own_slice HKr.out
  obtain ⟨ga, gc, rfl⟩ := own_slice HGr.out
  by_cases hkn : k < vs.length
  · have hkI : (k : Int) < (vs.length : Int) := by omega
    obtain ⟨b, off, rfl, f0⟩ := HV.out k hkn wr HBr.out
    obtain ⟨x0, x1, x2⟩ := HC.out wr HBr.out
    have hb1 := HVb.out vs[k] (List.getElem_mem hkn)
    have n1 := kept_next q vs k hkn
    have n2 := gone_next q x vs k hkn
    have hl1 : (q.kept (vs.take k)).length ≤ 1000 := Nat.le_trans (kept_len _ _) (Nat.le_trans (by rw [List.length_take]; exact Nat.min_le_right _ _) hvl)
    have hl2 : (q.gone x (vs.take k)).length ≤ 1000 := Nat.le_trans (gone_len _ _ _) (Nat.le_trans (by rw [List.length_take]; exact Nat.min_le_right _ _) hvl)
    have HHk := HH.out vs[k] wr hb1.1 hb1.2 HBr.out
    obtain ⟨v, hv⟩ : ∃ v, vs[k] = v := ⟨_, rfl⟩
    rw [hv] at f0 n1 n2 HHk
    obtain ⟨r, hr⟩ : ∃ r, q.has v = r := ⟨_, rfl⟩
    rw [hr] at n1 n2 HHk
    obtain ⟨KL, hKL⟩ : ∃ l, q.kept (vs.take k) = l := ⟨_, rfl⟩
    obtain ⟨GL, hGL⟩ : ∃ l, q.gone x (vs.take k) = l := ⟨_, rfl⟩
    rw [hKL] at n1 HKr hl1 ⊢
    rw [hGL] at n2 HGr hl2 ⊢
    have HN1 : Hid (q.kept (vs.take (k + 1)) = KL ++ (if r then [v] else [])) := n1
    have HN2 : Hid (q.gone x (vs.take (k + 1)) = GL ++ (if r then [] else [⟨3, x, v⟩])) := n2
    have HHk' : Hid (Calls Tryz.prog 99 #[.agg #[.int .i64 q.lo, .int .i64 q.hi, .slice ta tn tc], .int .i64 v] wr fun e w2 => e = .returned (.bool r) ∧ Below wr.heap.size wr w2) := HHk
    clear n1 n2 hv hr hKL hGL HHk hb1
    go_wp2_with fail
    refine calls_at HHk'.out (by with_reducible rfl) (by with_reducible rfl) ?_
    rintro e w1 ⟨rfl, hb1⟩
    have HK1 : Hid (w1.ownsRow W.heap.size 3 1 (.slice ka KL.length kc) KL.length (KL.map (.int .i64))) := own_below HKr.out hb1
    have HG1 : Hid (w1.ownsRow W.heap.size 46 3 (.slice ga GL.length gc) GL.length (cts GL)) := own_below HGr.out hb1
    have HB1 : Hid (Below W.heap.size W w1) := bl_next HBr.out hb1
    clear hb1 x0 x1 x2 f0
    cases r with
    | true =>
      go_wp2_with (at_builtin; refine append_one w1 (.int .i64 v) rfl _ _ 28 3 (.int .i64 0) 8 rfl und28 info3 rfl W.heap.size _ _ _ (by rfl) HK1.out rfl _ rfl (by rfl) (by unfold maxLen; omega) (by omega) HB1.out.size ?_; intro v2 w2 ho2 hg2 hn2)
      have HK2 : Hid (w2.ownsRow W.heap.size 3 1 v2 (q.kept (vs.take (k + 1))).length ((q.kept (vs.take (k + 1))).map (.int .i64))) := by
        show World.ownsRow _ _ _ _ _ _ _
        rw [HN1.out, List.length_append, List.map_append]
        exact ho2
      have HB2 : Hid (Below W.heap.size W w2) := (HB1.out.alloc HB1.out.size _).grown hg2 (by have := HB1.out.size; simp; omega) (fun g hg => (HK1.out.lt g hg).1)
      have HG2 : Hid (w2.ownsRow W.heap.size 46 3 (.slice ga GL.length gc) (q.gone x (vs.take (k + 1))).length (cts (q.gone x (vs.take (k + 1))))) := by
        show World.ownsRow _ _ _ _ _ _ _
        rw [HN2.out]
        simp only [if_true, List.append_nil]
        have h1 := own_below HG1.out ((Below.refl w1.heap.size w1).alloc (Nat.le_refl _) (.cells #[.int .i64 v] 3))
        exact row_kept h1 (fun g hg => hg2.block g (h1.lt g hg).2 (fun e => own_apart HK1.out HG1.out (by decide) g e.symm hg))
      clear ho2 hg2 hn2
      go_wp2_with fail
      go_roundw
      case rel => exact ⟨k + 1, by go_num, hkn, HK2, HG2, HB2⟩
      case measure => simp [intOf]; omega
    | false =>
      go_wp2_with (at_builtin; refine append_els w1 [.int .i64 3, .int .i64 x, .int .i64 v] 3 rfl (by decide) rfl (.tmp 24) (.tmp 28) 27 46 (.agg #[.int .i64 0, .int .i64 0, .int .i64 0]) 24 rfl und27w info46 rfl W.heap.size _ _ _ (by rfl) HG1.out (one3 _ _ _) _ rfl (by rfl) (by unfold maxLen; omega) (by omega) HB1.out.size ?_; intro v2 w2 ho2 hg2 hn2)
      have HG2 : Hid (w2.ownsRow W.heap.size 46 3 v2 (q.gone x (vs.take (k + 1))).length (cts (q.gone x (vs.take (k + 1))))) := by
        show World.ownsRow _ _ _ _ _ _ _
        rw [HN2.out, List.length_append, cts_append]
        exact ho2
      have HB2 : Hid (Below W.heap.size W w2) := (HB1.out.alloc HB1.out.size _).grown hg2 (by have := HB1.out.size; simp; omega) (fun g hg => (HG1.out.lt g hg).1)
      have HK2 : Hid (w2.ownsRow W.heap.size 3 1 (.slice ka KL.length kc) (q.kept (vs.take (k + 1))).length ((q.kept (vs.take (k + 1))).map (.int .i64))) := by
        show World.ownsRow _ _ _ _ _ _ _
        rw [HN1.out]
        simp only [Bool.false_eq_true, if_false, List.append_nil]
        have h1 := own_below HK1.out ((Below.refl w1.heap.size w1).alloc (Nat.le_refl _) (.cells #[.int .i64 3, .int .i64 x, .int .i64 v] 46))
        exact row_kept h1 (fun g hg => hg2.block g (h1.lt g hg).2 (fun e => own_apart HK1.out HG1.out (by decide) g hg e.symm))
      clear ho2 hg2 hn2
      go_wp2_with fail
      go_roundw
      case rel => exact ⟨k + 1, by go_num, hkn, HK2, HG2, HB2⟩
      case measure => simp [intOf]; omega
  have hke : k = vs.length := by omega
  subst hke
  have hkI : ¬ (vs.length : Int) < (vs.length : Int) := by omega
  rw [List.take_length] at HKr HGr ⊢
  obtain ⟨KL, hKL⟩ : ∃ l, q.kept vs = l := ⟨_, rfl⟩
  have hkl := kept_len q vs
  rw [hKL] at HKr HCut hkl ⊢
  have HIk : Hid (IntsAt wr (.slice ka KL.length kc) KL) := own_ints' HKr.out (by unfold maxLen; omega)
  obtain ⟨x0, x1, x2⟩ := HC.out wr HBr.out
  clear hKL
  go_wp2_with fail
  refine calls_at (HIs.out wr) (by with_reducible rfl) (by with_reducible rfl) ?_
  rintro e w1 ⟨rfl, hb1⟩
  have HB1 : Hid (Below W.heap.size W w1) := bl_next HBr.out hb1
  have HG1 : Hid (w1.ownsRow W.heap.size 46 3 (.slice ga (q.gone x vs).length gc) (q.gone x vs).length (cts (q.gone x vs))) := own_below HGr.out hb1
  have HI1 : Hid (IntsAt w1 (.slice ka KL.length kc) KL) := HIk.out.below hb1
  clear hb1 x0 x1 x2
  by_cases ht0 : tn = 0
  · have e0 : (tn == 0) = true := by simpa using ht0
    by_cases hk0 : 0 < KL.length
    · have hk0I : (0 : Int) < (KL.length : Int) := by omega
      have HRf : Hid (R = endsL x vs KL) := by show _ = _; rw [HCut.out, if_pos (by rw [e0]; simpa using hk0)]
      have HEn : Hid (Calls Tryz.prog 100 #[.int .i64 x, .slice va vs.length vc, .slice ka KL.length kc] w1 (CsOut (endsL x vs KL) w1)) := ends_any x _ _ vs KL w1 (HIv.out w1 HB1.out) HI1.out (by omega) hk0 hvl (by omega)
      clear ht0
      go_wp2_with fail
      refine calls_at HEn.out (by with_reducible rfl) (by with_reducible rfl) ?_
      rintro e w2 ⟨v2, rfl, ho2, hb2⟩
      have HO2 : Hid (w2.ownsRow w1.heap.size 46 3 v2 (endsL x vs KL).length (cts (endsL x vs KL))) := ho2
      have HB2 : Hid (Below W.heap.size W w2) := bl_next HB1.out hb2
      clear ho2 hb2
      go_wp2_with fail
      go_ret
      rw [HRf.out]
      exact ⟨_, rfl, own_less HO2.out (Nat.le_trans HB.out.size HB1.out.size), HB.out.trans (HB2.out.mono HB.out.size)⟩
    · have hk0I : ¬ (0 : Int) < (KL.length : Int) := by omega
      have HRf : Hid (R = q.gone x vs) := by show _ = _; rw [HCut.out, if_neg (by simpa using fun _ => hk0)]
      clear ht0
      go_wp2_with fail
      go_ret
      rw [HRf.out]
      exact ⟨_, rfl, own_less HG1.out HB.out.size, HB.out.trans (HB1.out.mono HB.out.size)⟩
  · have e0 : (tn == 0) = false := by simpa using ht0
    have HRf : Hid (R = q.gone x vs) := by show _ = _; rw [HCut.out, e0]; rfl
    clear ht0
    go_wp2_with fail
    go_ret
    rw [HRf.out]
    exact ⟨_, rfl, own_less HG1.out HB.out.size, HB.out.trans (HB1.out.mono HB.out.size)⟩
end Go.Proofs.YtlcegpnnanhloaaGreatDoor
