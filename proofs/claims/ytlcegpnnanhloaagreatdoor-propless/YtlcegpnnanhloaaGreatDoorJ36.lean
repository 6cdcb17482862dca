/-
  Put together: PpNe, PpElem, PpMay.
-/
import Derived.Test.YtlcegpnnanhloaaGreatDoorJ34
import Derived.Test.YtlcegpnnanhloaaGreatDoorJ15
namespace Go.Proofs.YtlcegpnnanhloaaGreatDoor
open Go.RowKit

theorem someQ_ts {Q : List Sq} {n : Nat} (h : ∀ q ∈ Q, q.ts.length ≤ n) (x : Nat) (t : Int → Bool) : ∀ q ∈ someQ Q x t, q.ts.length ≤ n + 1 := fun q hq => by
  unfold someQ at hq
  split at hq
  · rename_i s hs
    rcases List.mem_or_eq_of_mem_set hq with hq | rfl
    · exact Nat.le_succ_of_le (h q hq)
    · have := h s (List.mem_of_getElem? hs)
      simp
      omega
  · exact Nat.le_succ_of_le (h q hq)

set_option maxRecDepth 10000 in
set_option maxHeartbeats 400000 in
theorem allDiff_any (lp : Nat) (c : Md.Cn) (vt vx vb vr : Value) (w : World) : Calls Tryz.prog 46 #[.pointer (some ⟨lp, 0, none⟩), cnVal c vt vx vb vr] w fun e w' => e = .returned (.bool true) ∧ Below w.heap.size w w' := by
  unfold cnVal
  go_enter Tryz.func46, Tryz.ntmps46
  go_wp2_with fail
  go_ret
  exact ⟨rfl, (Below.refl _ _).alloc (Nat.le_refl _) _⟩

set_option maxRecDepth 10000 in
set_option maxHeartbeats 400000 in
theorem ne1_any (k5 N : Nat) (y kk v : Int) (a0 a1 a2 a4 a5 a6 a7 a8 a9 : Value) (w : World) (h5 : w.heap[k5]? = some (.cells #[.int .i64 y] 3 (0, 0))) (hN : w.heap[N]? = some (.cells #[a0, a1, a2, .int .i64 kk, a4, a5, a6, a7, a8, a9] 31 (0, 0))) (hy : -4000000000 ≤ y ∧ y ≤ 4000000000) (hk : -4000000000 ≤ kk ∧ kk ≤ 4000000000) : Calls Tryz.prog 84 #[.int .i64 v, .pointer (some ⟨k5, 0, none⟩), .pointer (some ⟨N, 0, none⟩)] w fun e w' => e = .returned (.bool (v != y + kk)) ∧ Below w.heap.size w w' := by
  have c0 : w.cell? ⟨k5, 0, none⟩ = some (.int .i64 y) := cell_of h5 0
  have c3 : w.cell? ⟨N, 3, none⟩ = some (.int .i64 kk) := cell_of hN 3
  have e : wrap64 (y + kk) = y + kk := wrap_64 (by omega) (by omega)
  clear h5 hN
  go_enter Tryz.func84, Tryz.ntmps84
  go_wp2_with fail
  go_ret
  exact ⟨rfl, Below.refl _ _⟩
set_option maxRecDepth 10000 in
set_option maxHeartbeats 400000 in
theorem ne2_any (k5 N : Nat) (y kk v : Int) (a0 a1 a2 a4 a5 a6 a7 a8 a9 : Value) (w : World) (h5 : w.heap[k5]? = some (.cells #[.int .i64 y] 3 (0, 0))) (hN : w.heap[N]? = some (.cells #[a0, a1, a2, .int .i64 kk, a4, a5, a6, a7, a8, a9] 31 (0, 0))) (hy : -4000000000 ≤ y ∧ y ≤ 4000000000) (hk : -4000000000 ≤ kk ∧ kk ≤ 4000000000) : Calls Tryz.prog 85 #[.int .i64 v, .pointer (some ⟨k5, 0, none⟩), .pointer (some ⟨N, 0, none⟩)] w fun e w' => e = .returned (.bool (v != y - kk)) ∧ Below w.heap.size w w' := by
  have c0 : w.cell? ⟨k5, 0, none⟩ = some (.int .i64 y) := cell_of h5 0
  have c3 : w.cell? ⟨N, 3, none⟩ = some (.int .i64 kk) := cell_of hN 3
  have e : wrap64 (y - kk) = y - kk := wrap_64 (by omega) (by omega)
  clear h5 hN
  go_enter Tryz.func85, Tryz.ntmps85
  go_wp2_with fail
  go_ret
  exact ⟨rfl, Below.refl _ _⟩
theorem enters84 : Enters Tryz.prog 84 := enters_of Tryz.func84 (by kernel_rfl) rfl
theorem enters85 : Enters Tryz.prog 85 := enters_of Tryz.func85 (by kernel_rfl) rfl

/-- The rule of Ne. -/
def neQ (D : List Dm) (c : Md.Cn) (Q : List Sq) : Option (List Sq) :=
  if c.x = c.y then (if c.k = 0 then none else some Q)
  else some (if (dAt D c.x).one then someQ (if (dAt D c.y).one then someQ Q c.x.toNat (fun v => v != (dAt D c.y).lo + c.k) else Q) c.y.toNat (fun v => v != (dAt D c.x).lo - c.k) else (if (dAt D c.y).one then someQ Q c.x.toNat (fun v => v != (dAt D c.y).lo + c.k) else Q))

set_option maxRecDepth 10000 in
set_option maxHeartbeats 2000000 in
theorem neRule_any (B lp g p : Nat) (nv mv : Value) (s : St) (Q : List Sq) (w : World) (h : LfQ B lp g p nv mv s Q w) (hts : ∀ q ∈ Q, q.ts.length ≤ 1000) (c : Md.Cn) (vt vx vb vr : Value) (hx : 0 ≤ c.x ∧ c.x < (s.now.length : Int)) (hy : 0 ≤ c.y ∧ c.y < (s.now.length : Int)) (hk : -1000000000 ≤ c.k ∧ c.k ≤ 1000000000) : Calls Tryz.prog 45 #[.pointer (some ⟨lp, 0, none⟩), cnVal c vt vx vb vr] w (RlOut B lp g p nv mv s (neQ s.now c Q) w) := by
  have hBs := h.size
  obtain ⟨x, hxe, hxn⟩ : ∃ x : Nat, c.x = (x : Int) ∧ x < s.now.length := ⟨c.x.toNat, by omega, by omega⟩
  obtain ⟨y, hye, hyn⟩ : ∃ y : Nat, c.y = (y : Int) ∧ y < s.now.length := ⟨c.y.toNat, by omega, by omega⟩
  have hgx := h.good s.now[x] (List.getElem_mem hxn)
  have hgy := h.good s.now[y] (List.getElem_mem hyn)
  have hlx := Dm.lo_in hgx
  have hly := Dm.lo_in hgy
  have HQ : Hid (neQ s.now c Q = if (x : Int) = (y : Int) then (if c.k = 0 then none else some Q) else some (if s.now[x].one then someQ (if s.now[y].one then someQ Q x (fun v => v != s.now[y].lo + c.k) else Q) y (fun v => v != s.now[x].lo - c.k) else (if s.now[y].one then someQ Q x (fun v => v != s.now[y].lo + c.k) else Q))) := by
    show _ = _
    unfold neQ
    rw [hxe, hye, dAt_get hxn, dAt_get hyn, Int.toNat_natCast, Int.toNat_natCast]
  obtain ⟨W, hW⟩ : ∃ W, w.alloc (.cells #[.int .i64 c.kind, .int .i64 c.op, vt, .int .i64 c.k, .int .i64 c.v, .int .i64 (x : Int), .int .i64 (y : Int), vx, vb, vr] 31) = W := ⟨_, rfl⟩
  have hb0 : Below w.heap.size w W := by rw [← hW]; exact (Below.refl _ _).alloc (Nat.le_refl _) _
  have g0 : W.heap[w.heap.size]? = some (.cells #[.int .i64 c.kind, .int .i64 c.op, vt, .int .i64 c.k, .int .i64 c.v, .int .i64 (x : Int), .int .i64 (y : Int), vx, vb, vr] 31 (0, 0)) := by rw [← hW]; exact heap_alloc_new w _
  have HG : Hid (∀ w', Kq B W w' → w'.heap[w.heap.size]? = some (.cells #[.int .i64 c.kind, .int .i64 c.op, vt, .int .i64 c.k, .int .i64 c.v, .int .i64 (x : Int), .int .i64 (y : Int), vx, vb, vr] 31 (0, 0))) := fun w' hk => hk.block g0 (by decide) (by decide)
  have HLW : Hid (LfQ B lp g p nv mv s Q W) := h.below hb0
  have HKW : Hid (Kq B w W) := Kq.of_below hb0 hBs
  have HOx : Hid (∀ w' Q', LfQ B lp g p nv mv s Q' w' → Calls Tryz.prog 82 #[.pointer (some ⟨lp, 0, none⟩), .int .i64 (x : Int)] w' fun e w2 => e = .returned (.tuple #[.int .i64 (oneV s.now[x]), .bool s.now[x].one]) ∧ Below w'.heap.size w' w2) := fun w' Q' hL => hL.one x hxn
  have HOy : Hid (∀ w' Q', LfQ B lp g p nv mv s Q' w' → Calls Tryz.prog 82 #[.pointer (some ⟨lp, 0, none⟩), .int .i64 (y : Int)] w' fun e w2 => e = .returned (.tuple #[.int .i64 (oneV s.now[y]), .bool s.now[y].one]) ∧ Below w'.heap.size w' w2) := fun w' Q' hL => hL.one y hyn
  have HSx : Hid (∀ w' Q' fn caps t, LfQ B lp g p nv mv s Q' w' → TestIs B w' (.func (.func fn) #[] caps) t → (∀ q ∈ Q', q.ts.length ≤ 100000) → Calls Tryz.prog 83 #[.pointer (some ⟨lp, 0, none⟩), .int .i64 (x : Int), .func (.func fn) #[] caps] w' (KqOut B lp g p nv mv s (someQ Q' x t) w')) := fun w' Q' fn caps t hL hT hl => hL.some x hxn fn caps t hT hl
  have HSy : Hid (∀ w' Q' fn caps t, LfQ B lp g p nv mv s Q' w' → TestIs B w' (.func (.func fn) #[] caps) t → (∀ q ∈ Q', q.ts.length ≤ 100000) → Calls Tryz.prog 83 #[.pointer (some ⟨lp, 0, none⟩), .int .i64 (y : Int), .func (.func fn) #[] caps] w' (KqOut B lp g p nv mv s (someQ Q' y t) w')) := fun w' Q' fn caps t hL hT hl => hL.some y hyn fn caps t hT hl
  have HT1 : Hid (∀ w' (k5 : Nat) (v : Int), Kq B W w' → w'.heap[k5]? = some (.cells #[.int .i64 v] 3 (0, 0)) → -4000000000 ≤ v ∧ v ≤ 4000000000 → TestIs B w' (.func (.func 84) #[] #[.pointer (some ⟨k5, 0, none⟩), .pointer (some ⟨w.heap.size, 0, none⟩)]) (fun u => u != v + c.k)) := fun w' k5 v hK h5 hv => ⟨84, _, rfl, enters84, fun w2 hk2 u _ _ => ne1_any k5 w.heap.size v c.k u _ _ _ _ _ _ _ _ _ w2 (hk2.block h5 (by decide) (by decide)) (HG.out w2 (hK.trans hk2)) hv (by omega)⟩
  have HT2 : Hid (∀ w' (k5 : Nat) (v : Int), Kq B W w' → w'.heap[k5]? = some (.cells #[.int .i64 v] 3 (0, 0)) → -4000000000 ≤ v ∧ v ≤ 4000000000 → TestIs B w' (.func (.func 85) #[] #[.pointer (some ⟨k5, 0, none⟩), .pointer (some ⟨w.heap.size, 0, none⟩)]) (fun u => u != v - c.k)) := fun w' k5 v hK h5 hv => ⟨85, _, rfl, enters85, fun w2 hk2 u _ _ => ne2_any k5 w.heap.size v c.k u _ _ _ _ _ _ _ _ _ w2 (hk2.block h5 (by decide) (by decide)) (HG.out w2 (hK.trans hk2)) hv (by omega)⟩
  have HVx : Hid (oneV s.now[x] = if s.now[x].one then s.now[x].lo else 0) := rfl
  have HVy : Hid (oneV s.now[y] = if s.now[y].one then s.now[y].lo else 0) := rfl
  have HTs : Hid (∀ q ∈ Q, q.ts.length ≤ 1000) := hts
  obtain ⟨dx, hdx⟩ : ∃ d, s.now[x] = d := ⟨_, rfl⟩
  obtain ⟨dy, hdy⟩ : ∃ d, s.now[y] = d := ⟨_, rfl⟩
  rw [hdx] at HQ HOx HVx hlx
  rw [hdy] at HQ HOy HVy hly
  obtain ⟨R, hR⟩ : ∃ R, neQ s.now c Q = R := ⟨_, rfl⟩
  rw [hR] at HQ ⊢
  obtain ⟨ox, hox⟩ : ∃ d, dx.one = d := ⟨_, rfl⟩
  obtain ⟨oy, hoy⟩ : ∃ d, dy.one = d := ⟨_, rfl⟩
  rw [hox] at HOx HVx HQ
  rw [hoy] at HOy HVy HQ
  obtain ⟨zx, hzx⟩ : ∃ d, oneV dx = d := ⟨_, rfl⟩
  obtain ⟨zy, hzy⟩ : ∃ d, oneV dy = d := ⟨_, rfl⟩
  rw [hzx] at HOx HVx
  rw [hzy] at HOy HVy
  obtain ⟨lx, hlxe⟩ : ∃ d, dx.lo = d := ⟨_, rfl⟩
  obtain ⟨ly, hlye⟩ : ∃ d, dy.lo = d := ⟨_, rfl⟩
  rw [hlxe] at HVx HQ hlx
  rw [hlye] at HVy HQ hly
  have c3 : W.cell? ⟨w.heap.size, 3, none⟩ = some (.int .i64 c.k) := cell_of g0 3
  have c5 : W.cell? ⟨w.heap.size, 5, none⟩ = some (.int .i64 (x : Int)) := cell_of g0 5
  have c6 : W.cell? ⟨w.heap.size, 6, none⟩ = some (.int .i64 (y : Int)) := cell_of g0 6
  have HBs : Hid (B ≤ W.heap.size) := Nat.le_trans hBs hb0.size
  have hcv : cnVal c vt vx vb vr = .agg #[.int .i64 c.kind, .int .i64 c.op, vt, .int .i64 c.k, .int .i64 c.v, .int .i64 (x : Int), .int .i64 (y : Int), vx, vb, vr] := by unfold cnVal; rw [hxe, hye]
  rw [hcv]
  clear h hts hx hy hBs hb0 g0 hxe hye hgx hgy hR hdx hdy hox hoy hzx hzy hlxe hlye hxn hyn hcv
  by_cases hxy : (x : Int) = (y : Int)
  · have exy : ((x : Int) == (y : Int)) = true := by simpa using hxy
    by_cases hk0 : c.k = 0
    · have ek : (c.k != 0) = false := by simp [hk0]
      have HRn : Hid (R = none) := by show _ = _; rw [HQ.out, if_pos hxy, if_pos hk0]
      clear hxy hk0
      go_enter Tryz.func45, Tryz.ntmps45
      go_wp2_with fail
      go_ret
      exact ⟨by rw [HRn.out]; rfl, (fun Q' h => by rw [HRn.out] at h; cases h), HKW.out⟩
    · have ek : (c.k != 0) = true := by simpa using hk0
      have HRn : Hid (R = some Q) := by show _ = _; rw [HQ.out, if_pos hxy, if_neg hk0]
      clear hxy hk0
      go_enter Tryz.func45, Tryz.ntmps45
      go_wp2_with fail
      go_ret
      exact ⟨by rw [HRn.out]; rfl, (fun Q' h => by rw [HRn.out] at h; injection h with h; rw [← h]; exact HLW.out), HKW.out⟩
  have exy : ((x : Int) == (y : Int)) = false := by simpa using hxy
  obtain ⟨Q1, hQ1⟩ : ∃ Q1, (if oy then someQ Q x (fun v => v != ly + c.k) else Q) = Q1 := ⟨_, rfl⟩
  have HR1 : Hid (R = some (if ox then someQ Q1 y (fun v => v != lx - c.k) else Q1)) := by show _ = _; rw [HQ.out, if_neg hxy, hQ1]
  have HT1b : Hid (∀ q ∈ Q1, q.ts.length ≤ 1001) := by
    show ∀ q ∈ Q1, _
    rw [← hQ1]
    split
    · exact someQ_ts HTs.out x _
    · exact fun q hq => Nat.le_succ_of_le (HTs.out q hq)
  have HQ1 : Hid ((if oy then someQ Q x (fun v => v != ly + c.k) else Q) = Q1) := hQ1
  clear hxy HQ hQ1
  go_enter Tryz.func45, Tryz.ntmps45
  go_wp2_with fail
  refine calls_at (HOy.out W Q HLW.out) (by with_reducible rfl) (by with_reducible rfl) ?_
  rintro e w1 ⟨rfl, hb1⟩
  obtain ⟨X, hX⟩ : ∃ X, w1.alloc (.cells #[.int .i64 zy] 3) = X := ⟨_, rfl⟩
  have hbX : Below W.heap.size W X := by rw [← hX]; exact bl_alloc hb1 _
  have HLX : Hid (LfQ B lp g p nv mv s Q X) := HLW.out.below hbX
  have HKX : Hid (Kq B W X) := Kq.of_below hbX HBs.out
  have HGX : Hid (X.heap[w1.heap.size]? = some (.cells #[.int .i64 zy] 3 (0, 0))) := by show _ = _; rw [← hX]; exact heap_alloc_new w1 _
  clear hb1 hbX c3 c5 c6 hW
  go_upto_if 24 with fail
  try rw [hX]
  clear hX
  go_cut [] from 25 to 42 (fun wx => Hid (LfQ B lp g p nv mv s Q1 wx) ∧ Hid (Kq B W wx))
  case first =>
    have x5 : X.cell? ⟨w.heap.size, 5, none⟩ = some (.int .i64 (x : Int)) := cell_of (HG.out X HKX.out) 5
    cases oy with
    | false =>
      have HQf : Hid (Q = Q1) := HQ1.out
      go_wp2_with fail
      go_meet
      exact ⟨(by show LfQ _ _ _ _ _ _ _ _ _; rw [← HQf.out]; exact HLX.out), HKX⟩
    | true =>
      have HQf : Hid (someQ Q x (fun v => v != ly + c.k) = Q1) := HQ1.out
      have hzl : zy = ly := HVy.out
      subst hzl
      go_wp2_with fail
      refine calls_at (HSx.out X Q 84 #[.pointer (some ⟨w1.heap.size, 0, none⟩), .pointer (some ⟨w.heap.size, 0, none⟩)] _ HLX.out (HT1.out X _ zy HKX.out HGX.out (by omega)) (fun q hq => Nat.le_trans (HTs.out q hq) (by omega))) (by with_reducible rfl) (by with_reducible rfl) ?_
      rintro e w3 ⟨rfl, hL3, hk3⟩
      have HL3 : Hid (LfQ B lp g p nv mv s Q1 w3) := by show LfQ _ _ _ _ _ _ _ _ _; rw [← HQf.out]; exact hL3
      have HK3 : Hid (Kq B W w3) := HKX.out.trans hk3
      clear hL3 hk3
      go_wp2_with fail
      go_meet
      exact ⟨HL3, HK3⟩
  case rest =>
  obtain ⟨HLx, HKx⟩ := hcut
  rename World => wx
  have x5 : wx.cell? ⟨w.heap.size, 5, none⟩ = some (.int .i64 (x : Int)) := cell_of (HG.out wx HKx.out) 5
  go_wp2_with fail
  refine calls_at (HOx.out wx Q1 HLx.out) (by with_reducible rfl) (by with_reducible rfl) ?_
  rintro e w4 ⟨rfl, hb4⟩
  obtain ⟨Y, hY⟩ : ∃ X, w4.alloc (.cells #[.int .i64 zx] 3) = X := ⟨_, rfl⟩
  have hbY : Below wx.heap.size wx Y := by rw [← hY]; exact bl_alloc hb4 _
  have HLY : Hid (LfQ B lp g p nv mv s Q1 Y) := HLx.out.below hbY
  have HKY : Hid (Kq B W Y) := HKx.out.next hbY HLx.out.size
  have HGY : Hid (Y.heap[w4.heap.size]? = some (.cells #[.int .i64 zx] 3 (0, 0))) := by show _ = _; rw [← hY]; exact heap_alloc_new w4 _
  have y6 : Y.cell? ⟨w.heap.size, 6, none⟩ = some (.int .i64 (y : Int)) := cell_of (HG.out Y HKY.out) 6
  clear hb4 hbY x5
  cases ox with
  | false =>
    have HRf : Hid (R = some Q1) := HR1.out
    go_wp2_with fail
    try rw [hY]
    go_ret
    exact ⟨by rw [HRf.out]; rfl, (fun Q' h => by rw [HRf.out] at h; injection h with h; rw [← h]; exact HLY.out), HKW.out.trans HKY.out⟩
  | true =>
    have HRf : Hid (R = some (someQ Q1 y (fun v => v != lx - c.k))) := HR1.out
    have hzl : zx = lx := HVx.out
    subst hzl
    go_wp2_with fail
    try rw [hY]
    refine calls_at (HSy.out Y Q1 85 #[.pointer (some ⟨w4.heap.size, 0, none⟩), .pointer (some ⟨w.heap.size, 0, none⟩)] _ HLY.out (HT2.out Y _ zx HKY.out HGY.out (by omega)) (fun q hq => Nat.le_trans (HT1b.out q hq) (by omega))) (by with_reducible rfl) (by with_reducible rfl) ?_
    rintro e w5 ⟨rfl, hL5, hk5⟩
    have HL5 : Hid (LfQ B lp g p nv mv s (someQ Q1 y (fun v => v != zx - c.k)) w5) := hL5
    have HK5 : Hid (Kq B W w5) := HKY.out.trans hk5
    clear hL5 hk5
    go_wp2_with fail
    go_ret
    exact ⟨by rw [HRf.out]; rfl, (fun Q' h => by rw [HRf.out] at h; injection h with h; rw [← h]; exact HL5.out), HKW.out.trans HK5.out⟩
end Go.Proofs.YtlcegpnnanhloaaGreatDoor

namespace Go.Proofs.YtlcegpnnanhloaaGreatDoor
open Go.RowKit

/-- What Element's tests ask. -/
def elB1 (D : List Dm) (c : Md.Cn) (v : Int) : Bool := decide (0 ≤ v) && (decide (v < (c.table.length : Int)) && (dAt D c.y).has (c.table.getD v.toNat 0))
theorem elC.of {M N lp p q k : Nat} {a0 a1 a2 a3 a4 a5 a6 a7 a8 a9 z : Value} {X w' : World} (hM : X.heap[M]? = some (.cells #[.pointer (some ⟨lp, 0, none⟩)] 65 (0, 0))) (hN : X.heap[N]? = some (.cells #[a0, a1, a2, a3, a4, a5, a6, a7, a8, a9] 31 (0, 0))) (hl : X.cell? ⟨lp, 0, none⟩ = some (.pointer (some ⟨p, 0, none⟩))) (hlp : lp < X.heap.size) (hq : X.cell? ⟨q, k, none⟩ = some z) (hql : q < X.heap.size) (hb : Below X.heap.size X w') :
    w'.cell? ⟨M, 0, none⟩ = some (.pointer (some ⟨lp, 0, none⟩)) ∧ w'.cell? ⟨N, 5, none⟩ = some a5 ∧ w'.cell? ⟨N, 6, none⟩ = some a6 ∧ w'.cell? ⟨N, 8, none⟩ = some a8 ∧ w'.cell? ⟨lp, 0, none⟩ = some (.pointer (some ⟨p, 0, none⟩)) ∧ w'.cell? ⟨q, k, none⟩ = some z ∧ Below X.heap.size X w' := by
  have h1 := (hb.block _ (Array.getElem?_eq_some_iff.1 hM).1).trans hM
  have h2 := (hb.block _ (Array.getElem?_eq_some_iff.1 hN).1).trans hN
  exact ⟨cell_of h1 0, cell_of h2 5, cell_of h2 6, cell_of h2 8, (hb.cell (p := ⟨lp, _, none⟩) hlp).trans hl, (hb.cell (p := ⟨q, _, none⟩) hql).trans hq, hb⟩

set_option maxRecDepth 10000 in
set_option maxHeartbeats 1000000 in
theorem el1_any (M N lp p y : Nat) (d : Dm) (tb : List Int) (ba : Option Addr) (bc : Nat) (v : Int) (a0 a1 a2 a3 a4 a5 a7 a9 : Value) (w : World) (hM : w.heap[M]? = some (.cells #[.pointer (some ⟨lp, 0, none⟩)] 65 (0, 0))) (hN : w.heap[N]? = some (.cells #[a0, a1, a2, a3, a4, a5, .int .i64 (y : Int), a7, .slice ba tb.length bc, a9] 31 (0, 0))) (hl : w.cell? ⟨lp, 0, none⟩ = some (.pointer (some ⟨p, 0, none⟩))) (ht : IntsAt w (.slice ba tb.length bc) tb) (htl : tb.length ≤ 64)
    (hH : ∀ w' u, Below w.heap.size w w' → Calls Tryz.prog 87 #[.pointer (some ⟨p, 0, none⟩), .int .i64 (y : Int), .int .i64 u] w' fun e w2 => e = .returned (.bool (d.has u)) ∧ Below w'.heap.size w' w2) :
    Calls Tryz.prog 86 #[.int .i64 v, .pointer (some ⟨N, 0, none⟩), .pointer (some ⟨M, 0, none⟩)] w fun e w' => e = .returned (.bool (decide (0 ≤ v) && (decide (v < (tb.length : Int)) && d.has (tb.getD v.toNat 0)))) ∧ Below w.heap.size w w' := by
  have c8 : w.cell? ⟨N, 8, none⟩ = some (.slice ba tb.length bc) := cell_of hN 8
  have hlp := World.block_lt_of_cell? w _ hl
  obtain ⟨a', c', e1, _, hcell⟩ := ht
  injection e1 with e1 _ _
  subst e1
  by_cases h0 : 0 ≤ v
  case neg =>
    have e0 : decide (0 ≤ v) = false := by simpa using h0
    rw [e0]
    clear hM hN hl hcell hH hlp
    go_enter Tryz.func86, Tryz.ntmps86
    go_wp2_with fail
    go_quiet ((fail))
    rename_i nq _
    go_wp2_with fail
    go_ret
    exact ⟨rfl, bl_drewN w nq⟩
  case pos =>
  by_cases h1 : v < (tb.length : Int)
  case neg =>
    have e0 : decide (0 ≤ v) = true := by simpa using h0
    have e1 : decide (v < (tb.length : Int)) = false := by simpa using h1
    rw [e0, e1]
    clear hM hN hl hcell hH hlp
    go_enter Tryz.func86, Tryz.ntmps86
    go_wp2_with fail
    go_quiet ((fail))
    rename_i nq _
    go_wp2_with fail
    go_ret
    exact ⟨rfl, bl_drewN w nq⟩
  case pos =>
    have e0 : decide (0 ≤ v) = true := by simpa using h0
    have e1 : decide (v < (tb.length : Int)) = true := by simpa using h1
    rw [e0, e1]
    obtain ⟨m, rfl⟩ : ∃ m : Nat, v = (m : Int) := ⟨v.toNat, by omega⟩
    have hm : m < tb.length := by omega
    obtain ⟨q, off, rfl, hql, hcl⟩ := hcell (by omega)
    have hz : tb.getD (m : Int).toNat 0 = tb[m] := by rw [Int.toNat_natCast, List.getD_eq_getElem?_getD, List.getElem?_eq_getElem hm]; rfl
    have hq := hcl m hm
    rw [hz]
    obtain ⟨z, hzz⟩ : ∃ z, tb[m] = z := ⟨_, rfl⟩
    rw [hzz] at hq ⊢
    have HC : Hid (∀ w', Below w.heap.size w w' → w'.cell? ⟨M, 0, none⟩ = some (.pointer (some ⟨lp, 0, none⟩)) ∧ w'.cell? ⟨N, 5, none⟩ = some a5 ∧ w'.cell? ⟨N, 6, none⟩ = some (.int .i64 (y : Int)) ∧ w'.cell? ⟨N, 8, none⟩ = some (.slice (some ⟨q, off, none⟩) tb.length bc) ∧ w'.cell? ⟨lp, 0, none⟩ = some (.pointer (some ⟨p, 0, none⟩)) ∧ w'.cell? ⟨q, off + m, none⟩ = some (.int .i64 z) ∧ Below w.heap.size w w') := fun w' hb => elC.of hM hN hl hlp hq hql hb
    have HH : Hid (∀ w' u, Below w.heap.size w w' → Calls Tryz.prog 87 #[.pointer (some ⟨p, 0, none⟩), .int .i64 (y : Int), .int .i64 u] w' fun e w2 => e = .returned (.bool (d.has u)) ∧ Below w'.heap.size w' w2) := hH
    clear hM hN hl hcl hH hlp hz hzz hq hql c8 hcell
    go_enter Tryz.func86, Tryz.ntmps86
    go_wp2_with fail
    go_region_held3 (fun w' => w'.cell? ⟨M, 0, none⟩ = some (.pointer (some ⟨lp, 0, none⟩)) ∧ w'.cell? ⟨N, 5, none⟩ = some a5 ∧ w'.cell? ⟨N, 6, none⟩ = some (.int .i64 (y : Int)) ∧ w'.cell? ⟨N, 8, none⟩ = some (.slice (some ⟨q, off, none⟩) tb.length bc) ∧ w'.cell? ⟨lp, 0, none⟩ = some (.pointer (some ⟨p, 0, none⟩)) ∧ w'.cell? ⟨q, off + m, none⟩ = some (.int .i64 z) ∧ Below w.heap.size w w')
      (first | exact HC.out _ (Below.refl _ _).drew | exact HC.out _ HB4.out)
      (first | (go_at_call 87; refine calls_at (HH.out _ z (Below.refl _ _).drew) (by with_reducible rfl) (by with_reducible rfl) ?_; rintro e w4 ⟨rfl, hb4⟩; (have HB4 : Hid (Below w.heap.size w w4) := (Below.refl _ _).drew.trans hb4); clear hb4))
    go_wp2_with fail
    go_ret
    exact ⟨rfl, HB4.out⟩

def el2B (tb : List Int) (d : Dm) (v : Int) (n : Nat) : Bool := (List.range n).any fun k => (tb.getD k 0 == v) && d.has (k : Int)
theorem any_range_mono {f : Nat → Bool} {k n : Nat} (hk : k < n) (h : f k = true) : (List.range n).any f = true := List.any_eq_true.2 ⟨k, List.mem_range.2 hk, h⟩
set_option maxRecDepth 10000 in
set_option maxHeartbeats 1000000 in
theorem el2_any (M N lp p x : Nat) (d : Dm) (tb : List Int) (ba : Option Addr) (bc : Nat) (v : Int) (a0 a1 a2 a3 a4 a6 a7 a9 : Value) (w : World) (hM : w.heap[M]? = some (.cells #[.pointer (some ⟨lp, 0, none⟩)] 65 (0, 0))) (hN : w.heap[N]? = some (.cells #[a0, a1, a2, a3, a4, .int .i64 (x : Int), a6, a7, .slice ba tb.length bc, a9] 31 (0, 0))) (hl : w.cell? ⟨lp, 0, none⟩ = some (.pointer (some ⟨p, 0, none⟩))) (ht : IntsAt w (.slice ba tb.length bc) tb) (htl : tb.length ≤ 64)
    (hH : ∀ w' u, Below w.heap.size w w' → Calls Tryz.prog 87 #[.pointer (some ⟨p, 0, none⟩), .int .i64 (x : Int), .int .i64 u] w' fun e w2 => e = .returned (.bool (d.has u)) ∧ Below w'.heap.size w' w2) :
    Calls Tryz.prog 88 #[.int .i64 v, .pointer (some ⟨N, 0, none⟩), .pointer (some ⟨M, 0, none⟩)] w fun e w' => e = .returned (.bool (el2B tb d v tb.length)) ∧ Below w.heap.size w w' := by
  have c8 : w.cell? ⟨N, 8, none⟩ = some (.slice ba tb.length bc) := cell_of hN 8
  have hlp := World.block_lt_of_cell? w _ hl
  obtain ⟨a', c', e1, _, hcell⟩ := ht
  injection e1 with e1 _ _
  subst e1
  have HC : Hid (∀ k (hk : k < tb.length) w', Below w.heap.size w w' → ∃ q off, ba = some ⟨q, off, none⟩ ∧ (w'.cell? ⟨M, 0, none⟩ = some (.pointer (some ⟨lp, 0, none⟩)) ∧ w'.cell? ⟨N, 5, none⟩ = some (.int .i64 (x : Int)) ∧ w'.cell? ⟨N, 6, none⟩ = some a6 ∧ w'.cell? ⟨N, 8, none⟩ = some (.slice ba tb.length bc) ∧ w'.cell? ⟨lp, 0, none⟩ = some (.pointer (some ⟨p, 0, none⟩)) ∧ w'.cell? ⟨q, off + k, none⟩ = some (.int .i64 tb[k]) ∧ Below w.heap.size w w')) := fun k hk w' hb => by
    obtain ⟨q, off, rfl, hql, hcl⟩ := hcell (by omega)
    exact ⟨q, off, rfl, elC.of hM hN hl hlp (hcl k hk) hql hb⟩
  have HH : Hid (∀ w' u, Below w.heap.size w w' → Calls Tryz.prog 87 #[.pointer (some ⟨p, 0, none⟩), .int .i64 (x : Int), .int .i64 u] w' fun e w2 => e = .returned (.bool (d.has u)) ∧ Below w'.heap.size w' w2) := hH
  clear hM hN hl hH hlp hcell
  go_enter Tryz.func88, Tryz.ntmps88
  go_wp2_with fail
  clear c8
  go_loopw [10] (fun iv wr => ∃ (k : Nat), iv = .int .i64 (k : Int) ∧ k ≤ tb.length ∧ Hid ((el2B tb d v k) = false) ∧ Hid (Below w.heap.size w wr)) (fun iv _ => tb.length - (intOf iv).toNat)
  case atStart => exact ⟨0, rfl, Nat.zero_le _, rfl, Below.refl _ _⟩
  case round =>
  obtain ⟨k, rfl, hk, HT, HBr⟩ := hrel
  by_cases hkn : k < tb.length
  · have hkI : (k : Int) < (tb.length : Int) := by omega
    obtain ⟨q, off, rfl, hcs⟩ := HC.out k hkn wr HBr.out
    have f0 := hcs.2.2.2.2.2.1
    have HCk : Hid (∀ w', Below wr.heap.size wr w' → w'.cell? ⟨M, 0, none⟩ = some (.pointer (some ⟨lp, 0, none⟩)) ∧ w'.cell? ⟨N, 5, none⟩ = some (.int .i64 (x : Int)) ∧ w'.cell? ⟨lp, 0, none⟩ = some (.pointer (some ⟨p, 0, none⟩))) := fun w' hb => by
      obtain ⟨_, _, _, h⟩ := HC.out k hkn w' (bl_next HBr.out hb)
      exact ⟨h.1, h.2.1, h.2.2.2.2.1⟩
    have hg : tb.getD k 0 = tb[k] := by rw [List.getD_eq_getElem?_getD, List.getElem?_eq_getElem hkn]; rfl
    have hnx : (el2B tb d v (k + 1)) = ((tb[k] == v) && d.has (k : Int)) := by
      have h0 := HT.out
      unfold el2B at h0 ⊢
      rw [List.range_succ, List.any_append, h0, List.any_cons, List.any_nil, Bool.false_or, Bool.or_false, hg]
    have hyes : ((tb[k] == v) && d.has (k : Int)) = true → (el2B tb d v tb.length) = true := fun hh => any_range_mono hkn (by rw [hg]; exact hh)
    obtain ⟨z, hz⟩ : ∃ z, tb[k] = z := ⟨_, rfl⟩
    rw [hz] at f0 hnx hyes
    have HN : Hid ((el2B tb d v (k + 1)) = ((z == v) && d.has (k : Int))) := hnx
    have HY : Hid (((z == v) && d.has (k : Int)) = true → (el2B tb d v tb.length) = true) := hyes
    clear hcs hg hnx hyes hz
    by_cases hzv : z = v
    · have ez : (z == v) = true := by simpa using hzv
      obtain ⟨r, hr⟩ : ∃ r, d.has (k : Int) = r := ⟨_, rfl⟩
      have HHk := HH.out wr.drew (k : Int) HBr.out.drew
      rw [hr] at HHk
      have HHk' : Hid (Calls Tryz.prog 87 #[.pointer (some ⟨p, 0, none⟩), .int .i64 (x : Int), .int .i64 (k : Int)] wr.drew fun e w2 => e = .returned (.bool r) ∧ Below wr.drew.heap.size wr.drew w2) := HHk
      have HN2 : Hid ((el2B tb d v (k + 1)) = r) := by show _ = _; rw [HN.out, ez, hr]; rfl
      have HY2 : Hid (r = true → (el2B tb d v tb.length) = true) := fun hh => HY.out (by rw [ez, hr, hh]; rfl)
      clear hzv hr HHk HN HY
      go_wp2_with fail
      go_region_held3 (fun w' => w'.cell? ⟨M, 0, none⟩ = some (.pointer (some ⟨lp, 0, none⟩)) ∧ w'.cell? ⟨N, 5, none⟩ = some (.int .i64 (x : Int)) ∧ w'.cell? ⟨lp, 0, none⟩ = some (.pointer (some ⟨p, 0, none⟩)))
        (first | exact HCk.out _ (Below.refl _ _).drew | exact HCk.out _ HB4.out)
        (first | (go_at_call 87; refine calls_at HHk'.out (by with_reducible rfl) (by with_reducible rfl) ?_; rintro e w4 ⟨rfl, hb4⟩; (have HB4 : Hid (Below wr.heap.size wr w4) := (Below.refl _ _).drew.trans hb4); clear hb4))
      cases r with
      | true =>
        have HY3 := HY2.out rfl
        have HY4 : Hid ((el2B tb d v tb.length) = true) := HY3
        clear HY3
        go_wp2_with fail
        go_ret
        exact ⟨ret_bool (by rw [HY4.out]; try rfl), bl_next HBr.out HB4.out⟩
      | false =>
        go_wp2_with fail
        go_roundw
        case rel => exact ⟨k + 1, by go_num, hkn, HN2, bl_next HBr.out HB4.out⟩
        case measure => simp [intOf]; omega
    · have ez : (z == v) = false := by simpa using hzv
      have HN2 : Hid ((el2B tb d v (k + 1)) = false) := by show _ = _; rw [HN.out, ez]; rfl
      clear hzv HN HY
      go_wp2_with fail
      go_quiet ((fail))
      rename_i nq _
      go_wp2_with fail
      go_roundw
      case rel => exact ⟨k + 1, by go_num, hkn, HN2, bl_next HBr.out (bl_drewN wr nq)⟩
      case measure => simp [intOf]; omega
  · have hke : k = tb.length := by omega
    subst hke
    have hkI : ¬ (tb.length : Int) < (tb.length : Int) := by omega
    go_wp2_with fail
    go_ret
    exact ⟨ret_bool (by rw [HT.out]; try rfl), HBr.out⟩
end Go.Proofs.YtlcegpnnanhloaaGreatDoor

namespace Go.Proofs.YtlcegpnnanhloaaGreatDoor
open Go.RowKit

/-- A Lin's K isn't looked at. -/
def c0 (c : Md.Cn) : Md.Cn := if c.kind = 1 then { c with k := 0 } else c
def nm32 : ByteArray := { data := #[65, 66, 67, 68, 69, 70, 71, 72, 73, 74, 75, 76, 77, 78, 79, 80, 81, 82, 83, 84, 85, 86, 87, 88, 89, 90, 97, 98, 99, 100, 101, 102] }
def nmV (j : Nat) : Md.Vr := ⟨nm32.extract j (j + 1), 0, 0⟩
def stM (c : Md.Cn) (n : Nat) : Md.Mo := ⟨(List.range n).map nmV, [c0 c], false, []⟩
theorem c0_at {w : World} {c : Md.Cn} {vt vx vb vr : Value} (h : CnAt w c vt vx vb vr) : CnAt w (c0 c) vt vx vb vr := by
  unfold c0
  split
  · exact ⟨h.t, h.x, h.xcap, h.b, h.r⟩
  · exact h
theorem c0_k (c : Md.Cn) : (c0 c).kind = c.kind ∧ (c0 c).op = c.op ∧ (c0 c).v = c.v ∧ (c0 c).x = c.x ∧ (c0 c).y = c.y ∧ (c0 c).k = if c.kind = 1 then 0 else c.k := by
  unfold c0
  split <;> exact ⟨rfl, rfl, rfl, rfl, rfl, rfl⟩

theorem und22y : Tryz.prog.underlying 22 = some (.slice 60) := by kernel_rfl
theorem info60 : (Tryz.prog.info? 60).map (fun i => (i.zero, i.size, i.bytes)) = some (some (.agg #[.string ByteArray.empty, .int .i64 0, .int .i64 0]), 3, 32) := by kernel_rfl
def vZ : Nat → Array Value
  | 0 => madeCells #[.string ByteArray.empty, .int .i64 0, .int .i64 0] (0 * 3)
  | n + 1 => madeCells #[.string ByteArray.empty, .int .i64 0, .int .i64 0] ((n + 1) * 3)
theorem vZ_eq (n : Nat) : vZ n = madeCells #[.string ByteArray.empty, .int .i64 0, .int .i64 0] (n * 3) := by cases n <;> rfl
theorem makeW (n : Nat) (hn : n ≤ 1000) (w : World) : (Instr.makeSlice 22 (.int .i64 (n : Int)) (.int .i64 (n : Int))).run Tryz.prog w = .ok (.slice (some ⟨w.heap.size, 0, none⟩) n n) (w.alloc (.cells (vZ n) 60)) := by
  obtain ⟨i, hi, hz, hs, hbb⟩ := info_of info60
  have hr := run_make (P := Tryz.prog) w 22 60 i _ und22y hi hz .i64 .i64 (n : Int) (n : Int) (by omega) (by omega) (by rw [hbb]; omega) (by omega)
  rw [hs, Int.toNat_natCast] at hr
  rw [vZ_eq]
  exact hr
/-- Behind the making of the problem. -/
def StR (w : World) (n : Nat) (cs : Array Value) (s5 : Value) (wy : World) : Prop := ∃ V C M, s5 = .pointer (some ⟨M, 0, none⟩) ∧ Hid (wy.heap[V]? = some (.cells (vZ n) 60 (0, 0))) ∧ Hid (wy.heap[C]? = some (.cells cs 31 (0, 0))) ∧ Hid (wy.heap[M]? = some (.cells #[.slice (some ⟨V, 0, none⟩) n n, .slice (some ⟨C, 0, none⟩) 1 1, .bool false, .slice none 0 0] 26 (0, 0))) ∧ Hid (w.heap.size ≤ V ∧ w.heap.size ≤ M) ∧ Hid (Below w.heap.size w wy)

theorem al3 {w wx : World} {a b d : Obj} (h : Below w.heap.size w wx) : (((wx.alloc a).alloc b).alloc d).drew.heap[wx.heap.size]? = some a ∧ (((wx.alloc a).alloc b).alloc d).drew.heap[wx.heap.size + 1]? = some b ∧ (((wx.alloc a).alloc b).alloc d).drew.heap[wx.heap.size + 1 + 1]? = some d ∧ Below w.heap.size w (((wx.alloc a).alloc b).alloc d).drew := by
  have h1 := h.size
  refine ⟨?_, ?_, ?_, ?_⟩
  · show (((wx.alloc a).alloc b).alloc d).heap[wx.heap.size]? = some a
    rw [heap_alloc_old ((wx.alloc a).alloc b) d (by simp; omega)]
    exact heap_alloc2_old wx a b
  · show (((wx.alloc a).alloc b).alloc d).heap[wx.heap.size + 1]? = some b
    rw [heap_alloc_old ((wx.alloc a).alloc b) d (by simp)]
    exact heap_alloc2_new wx a b
  · show (((wx.alloc a).alloc b).alloc d).heap[wx.heap.size + 1 + 1]? = some d
    have := heap_alloc_new ((wx.alloc a).alloc b) d
    simpa using this
  · exact (((h.alloc h1 a).alloc (by simp; omega) b).alloc (by simp; omega) d).drew

/-- The names, as far as they are written. -/
def NmAt (wr : World) (V n k : Nat) : Prop := ∃ cur, wr.heap[V]? = some (.cells cur 60 (0, 0)) ∧ ∀ j, j < n → cur[j * 3]? = some (.string (if j < k then (nmV j).name else ByteArray.empty)) ∧ cur[j * 3 + 1]? = some (.int .i64 0) ∧ cur[j * 3 + 2]? = some (.int .i64 0)
theorem vZ_get {n j r : Nat} (hj : j < n) (hr : r < 3) : (vZ n)[j * 3 + r]? = some ((#[.string ByteArray.empty, .int .i64 0, .int .i64 0] : Array Value)[r]!) := by
  rw [vZ_eq]
  unfold madeCells
  rw [Array.getElem?_map, Array.getElem?_range, if_pos (by omega)]
  show some ((#[.string ByteArray.empty, .int .i64 0, .int .i64 0] : Array Value)[(j * 3 + r) % 3]!) = _
  rw [show (j * 3 + r) % 3 = r by omega]
theorem NmAt.zero {wr : World} {V n : Nat} (h : wr.heap[V]? = some (.cells (vZ n) 60 (0, 0))) : NmAt wr V n 0 :=
  ⟨_, h, fun j hj => ⟨by rw [if_neg (Nat.not_lt_zero _)]; exact vZ_get (r := 0) hj (by omega), vZ_get (r := 1) hj (by omega), vZ_get (r := 2) hj (by omega)⟩⟩
theorem NmAt.next {wr : World} {V n k : Nat} (h : NmAt wr V n k) (hk : k < n) : NmAt (wr.setCell ⟨V, k * 3, none⟩ (.string (nmV k).name)) V n (k + 1) := by
  obtain ⟨cur, h1, h2⟩ := h
  refine ⟨_, heap_setCell_same _ _ _ _ _ _ h1, fun j hj => ?_⟩
  obtain ⟨e0, e1, e2⟩ := h2 j hj
  have hsz : k * 3 < cur.size := (Array.getElem?_eq_some_iff.1 (h2 k hk).1).1
  refine ⟨?_, ?_, ?_⟩
  · rw [Array.getElem?_setIfInBounds]
    by_cases hjk : k * 3 = j * 3
    · have : k = j := by omega
      subst this
      rw [if_pos rfl, if_pos hsz, if_pos (by omega)]
    · rw [if_neg hjk, e0]
      by_cases hl : j < k
      · rw [if_pos hl, if_pos (by omega)]
      · rw [if_neg hl, if_neg (by omega)]
  · rw [Array.getElem?_setIfInBounds, if_neg (by omega)]
    exact e1
  · rw [Array.getElem?_setIfInBounds, if_neg (by omega)]
    exact e2
theorem NmAt.below {wr w' : World} {V n k : Nat} (h : NmAt wr V n k) (hb : Below wr.heap.size wr w') : NmAt w' V n k := by
  obtain ⟨cur, h1, h2⟩ := h
  exact ⟨cur, (hb.block _ (Array.getElem?_eq_some_iff.1 h1).1).trans h1, h2⟩
theorem NmAt.cell {wr : World} {V n k j : Nat} (h : NmAt wr V n k) (hj : j < n) : wr.cell? ⟨V, j * 3, none⟩ = some (.string (if j < k then (nmV j).name else ByteArray.empty)) ∧ wr.frozen? ⟨V, j * 3, none⟩ = false := by
  obtain ⟨cur, h1, h2⟩ := h
  exact ⟨(cell_of h1 _).trans (h2 j hj).1, frozen_of h1 _⟩
theorem NmAt.vars {wr : World} {V n : Nat} (h : NmAt wr V n n) (hn : n ≤ 32) : VarsAt wr (.slice (some ⟨V, 0, none⟩) n n) ((List.range n).map nmV) := by
  obtain ⟨cur, h1, h2⟩ := h
  refine ⟨_, n, by rw [List.length_map, List.length_range], by rw [List.length_map, List.length_range]; unfold maxLen; omega, fun x hx => ?_, fun _ => ⟨V, 0, rfl, (Array.getElem?_eq_some_iff.1 h1).1, fun j hj => ?_⟩⟩
  · obtain ⟨j, _, rfl⟩ := List.mem_map.1 hx
    show (nm32.extract j (j + 1)).size ≤ maxLen
    rw [ByteArray.size_extract]
    unfold maxLen
    omega
  · rw [List.length_map, List.length_range] at hj
    obtain ⟨e0, e1, e2⟩ := h2 j hj
    rw [List.getElem_map, List.getElem_range, Nat.zero_add, cell_of h1, cell_of h1, cell_of h1]
    rw [if_pos hj] at e0
    exact ⟨e0, e1, e2⟩

theorem cons_one {wr : World} {C : Nat} {c : Md.Cn} {vt vx vb vr : Value} {k0 : Int} (hC : CnAt wr c vt vx vb vr) (hk : k0 = (if c.kind = 1 then 0 else c.k)) (h : wr.heap[C]? = some (.cells #[.int .i64 c.kind, .int .i64 c.op, vt, .int .i64 k0, .int .i64 c.v, .int .i64 c.x, .int .i64 c.y, vx, vb, vr] 31 (0, 0))) : ConsAt wr (.slice (some ⟨C, 0, none⟩) 1 1) [c0 c] := by
  refine ⟨_, 1, rfl, by unfold maxLen; simp, fun _ => ⟨C, 0, rfl, (Array.getElem?_eq_some_iff.1 h).1, fun j hj => ?_⟩⟩
  have hj0 : j = 0 := by simp at hj; omega
  subst hj0
  refine ⟨vt, vx, vb, vr, c0_at hC, ?_⟩
  obtain ⟨e1, e2, e3, e4, e5, e6⟩ := c0_k c
  show CnCells wr C (0 + 0 * 10) (c0 c) vt vx vb vr
  unfold CnCells
  rw [e1, e2, e3, e4, e5, e6, ← hk]
  exact ⟨cell_of h 0, cell_of h 1, cell_of h 2, cell_of h 3, cell_of h 4, cell_of h 5, cell_of h 6, cell_of h 7, cell_of h 8, cell_of h 9⟩

set_option maxRecDepth 10000 in
set_option maxHeartbeats 2000000 in
theorem mayStand_any (c : Md.Cn) (vt vx vb vr : Value) (n : Nat) (w : World) (hC : CnAt w c vt vx vb vr) (hn : n ≤ 32) : Calls Tryz.prog 27 #[cnVal c vt vx vb vr, .int .i64 (n : Int)] w fun e w' => e = .returned (.bool (decide ((Md.check (stM c n)).2 = 0))) ∧ Below w.heap.size w w' := by
  obtain ⟨W, hW⟩ : ∃ W, w.alloc (.cells #[.int .i64 c.kind, .int .i64 c.op, vt, .int .i64 c.k, .int .i64 c.v, .int .i64 c.x, .int .i64 c.y, vx, vb, vr] 31) = W := ⟨_, rfl⟩
  have hb0 : Below w.heap.size w W := by rw [← hW]; exact (Below.refl _ _).alloc (Nat.le_refl _) _
  have g0 : W.heap[w.heap.size]? = some (.cells #[.int .i64 c.kind, .int .i64 c.op, vt, .int .i64 c.k, .int .i64 c.v, .int .i64 c.x, .int .i64 c.y, vx, vb, vr] 31 (0, 0)) := by rw [← hW]; exact heap_alloc_new w _
  have HG0 : Hid (W.heap[w.heap.size]? = some (.cells #[.int .i64 c.kind, .int .i64 c.op, vt, .int .i64 c.k, .int .i64 c.v, .int .i64 c.x, .int .i64 c.y, vx, vb, vr] 31 (0, 0))) := g0
  have HB0 : Hid (Below w.heap.size w W) := hb0
  have HC : Hid (CnAt w c vt vx vb vr) := hC
  have d0 : W.cell? ⟨w.heap.size, 0, none⟩ = some (.int .i64 c.kind) := cell_of g0 0
  have d3 : W.cell? ⟨w.heap.size, 3, none⟩ = some (.int .i64 c.k) := cell_of g0 3
  have dz : W.frozen? ⟨w.heap.size, 3, none⟩ = false := frozen_of g0 3
  have hcv : cnVal c vt vx vb vr = .agg #[.int .i64 c.kind, .int .i64 c.op, vt, .int .i64 c.k, .int .i64 c.v, .int .i64 c.x, .int .i64 c.y, vx, vb, vr] := rfl
  rw [hcv]
  obtain ⟨k0, hk0⟩ : ∃ k0, k0 = (if c.kind = 1 then 0 else c.k) := ⟨_, rfl⟩
  have HK0 : Hid (k0 = (if c.kind = 1 then 0 else c.k)) := hk0
  clear hcv hC hb0 g0 hk0
  go_enter Tryz.func27, Tryz.ntmps27
  go_upto_if 11 with fail
  go_cut [] from 11 to 40 (fun wx => Hid (wx.heap[w.heap.size]? = some (.cells #[.int .i64 c.kind, .int .i64 c.op, vt, .int .i64 k0, .int .i64 c.v, .int .i64 c.x, .int .i64 c.y, vx, vb, vr] 31 (0, 0))) ∧ Hid (Below w.heap.size w wx))
  case first =>
    by_cases hk : c.kind = 1
    · have e1 : (c.kind == 1) = true := by simpa using hk
      go_wp2_with fail
      go_meet
      refine ⟨?_, HB0.out.setCell (Nat.le_refl _) _⟩
      show _ = _
      rw [heap_setCell_same _ _ _ _ _ _ HG0.out, HK0.out, if_pos hk]
      rfl
    · have e1 : (c.kind == 1) = false := by simpa using hk
      go_wp2_with fail
      go_meet
      refine ⟨?_, HB0⟩
      show _ = _
      rw [HK0.out, if_neg hk]
      exact HG0.out
  case rest =>
  obtain ⟨HX, HBx⟩ := hcut
  rename World => wx
  go_upto_region 3 with fail
  have hmk := makeW n (by omega)
  go_cut [5] from 13 to 40 (fun s5 wy => StR w n #[.int .i64 c.kind, .int .i64 c.op, vt, .int .i64 k0, .int .i64 c.v, .int .i64 c.x, .int .i64 c.y, vx, vb, vr] s5 wy)
  case first =>
    have hz := (Array.getElem?_eq_some_iff.1 HX.out).1
    have x0 : wx.cell? ⟨w.heap.size, 0, none⟩ = some (.int .i64 c.kind) := cell_of HX.out 0
    have x1 : wx.cell? ⟨w.heap.size, 1, none⟩ = some (.int .i64 c.op) := cell_of HX.out 1
    have x2 : wx.cell? ⟨w.heap.size, 2, none⟩ = some vt := cell_of HX.out 2
    have x3 : wx.cell? ⟨w.heap.size, 3, none⟩ = some (.int .i64 k0) := cell_of HX.out 3
    have x4 : wx.cell? ⟨w.heap.size, 4, none⟩ = some (.int .i64 c.v) := cell_of HX.out 4
    have x5 : wx.cell? ⟨w.heap.size, 5, none⟩ = some (.int .i64 c.x) := cell_of HX.out 5
    have x6 : wx.cell? ⟨w.heap.size, 6, none⟩ = some (.int .i64 c.y) := cell_of HX.out 6
    have x7 : wx.cell? ⟨w.heap.size, 7, none⟩ = some vx := cell_of HX.out 7
    have x8 : wx.cell? ⟨w.heap.size, 8, none⟩ = some vb := cell_of HX.out 8
    have x9 : wx.cell? ⟨w.heap.size, 9, none⟩ = some vr := cell_of HX.out 9
    clear d0 d3 dz hW HG0 HB0 HC HX
    have hbx := HBx.out
    have hsx := hbx.size
    go_region
    all_goals (go_wp2_with fail; go_meet; unfold StR)
    all_goals first
      | exact ⟨_, _, _, rfl, (al3 hbx).1, (al3 hbx).2.1, (al3 hbx).2.2.1, ⟨by omega, by omega⟩, (al3 hbx).2.2.2⟩
      | exact ⟨_, _, _, rfl, (al3 hbx).1, (al3 hbx).2.2.1, (al3 hbx).2.1, ⟨by omega, by omega⟩, (al3 hbx).2.2.2⟩
      | exact ⟨_, _, _, rfl, (al3 hbx).2.1, (al3 hbx).1, (al3 hbx).2.2.1, ⟨by omega, by omega⟩, (al3 hbx).2.2.2⟩
      | exact ⟨_, _, _, rfl, (al3 hbx).2.1, (al3 hbx).2.2.1, (al3 hbx).1, ⟨by omega, by omega⟩, (al3 hbx).2.2.2⟩
      | exact ⟨_, _, _, rfl, (al3 hbx).2.2.1, (al3 hbx).1, (al3 hbx).2.1, ⟨by omega, by omega⟩, (al3 hbx).2.2.2⟩
      | exact ⟨_, _, _, rfl, (al3 hbx).2.2.1, (al3 hbx).2.1, (al3 hbx).1, ⟨by omega, by omega⟩, (al3 hbx).2.2.2⟩
  case rest =>
  obtain ⟨V, C, M, rfl, HV, HCc, HM, HLe, HBy⟩ := hcut
  rename World => wy
  have m0 : wy.cell? ⟨M, 0, none⟩ = some (.slice (some ⟨V, 0, none⟩) n n) := cell_of HM.out 0
  clear hmk d0 d3 dz hW HG0 HB0 HX HBx
  have hVC : V ≠ C := fun e => by
    have h1 := HV.out
    rw [e, HCc.out] at h1
    injection h1 with h1
    injection h1 with _ h2 _
    exact absurd h2 (by decide)
  have hVM : V ≠ M := fun e => by
    have h1 := HV.out
    rw [e, HM.out] at h1
    injection h1 with h1
    injection h1 with _ h2 _
    exact absurd h2 (by decide)
  go_wp2_with fail
  clear m0
  go_loopw [21] (fun iv wr => ∃ (k : Nat), iv = .int .i64 (k : Int) ∧ k ≤ n ∧ Hid (NmAt wr V n k) ∧ Hid (wr.heap[C]? = some (.cells #[.int .i64 c.kind, .int .i64 c.op, vt, .int .i64 k0, .int .i64 c.v, .int .i64 c.x, .int .i64 c.y, vx, vb, vr] 31 (0, 0))) ∧ Hid (wr.heap[M]? = some (.cells #[.slice (some ⟨V, 0, none⟩) n n, .slice (some ⟨C, 0, none⟩) 1 1, .bool false, .slice none 0 0] 26 (0, 0))) ∧ Hid (Below w.heap.size w wr)) (fun iv _ => n - (intOf iv).toNat)
  case atStart => exact ⟨0, rfl, Nat.zero_le _, NmAt.zero HV.out, HCc, HM, HBy⟩
  case round =>
  obtain ⟨k, rfl, hk, HNm, HCr, HMr, HBr⟩ := hrel
  clear HV HCc HM HBy
  by_cases hkn : k < n
  · have hkI : (k : Int) < (n : Int) := by omega
    have m0 : wr.cell? ⟨M, 0, none⟩ = some (.slice (some ⟨V, 0, none⟩) n n) := cell_of HMr.out 0
    obtain ⟨v0, dz⟩ := HNm.out.cell hkn
    have hsl : ∀ w', (Instr.slice 9 (.string { data := #[65, 66, 67, 68, 69, 70, 71, 72, 73, 74, 75, 76, 77, 78, 79, 80, 81, 82, 83, 84, 85, 86, 87, 88, 89, 90, 97, 98, 99, 100, 101, 102] }) (some (.int .i64 (k : Int))) (some (.int .i64 ((k : Int) + 1))) none).run Tryz.prog w' = .ok (.string (nmV k).name) w' := fun w' => by
      rw [run_slice_string_if _ _ _ _ _ _ _ (by kernel_rfl), if_pos (by constructor; omega; show (k : Int) + 1 ≤ 32; omega), if_pos (by omega)]
      rfl
    have hw1 : IntKind.i64.wrap ((k : Int) + 1) = (k : Int) + 1 := wrap_ok (by omega) (by omega)
    go_wp2_with fail
    go_region
    all_goals go_wp2_with fail
    exact ⟨⟨k + 1, by go_num, hkn, (show NmAt _ _ _ _ from HNm.out.next hkn), (show _ = _ from (heap_setCell_other _ _ _ _ hVC.symm).trans HCr.out), (show _ = _ from (heap_setCell_other _ _ _ _ hVM.symm).trans HMr.out), (HBr.out.setCell HLe.out.1 _).drew⟩, by simp [intOf]; omega⟩
  · have hke : k = n := by omega
    subst hke
    have hkI : ¬ (k : Int) < (k : Int) := by omega
    have m0 := box4 HMr.out
    have HMo : Hid (MoAt wr (stM c k) (.slice (some ⟨V, 0, none⟩) k k) (.slice (some ⟨C, 0, none⟩) 1 1) (.slice none 0 0)) :=
      { v := HNm.out.vars hn
        vcap := fun a n cp h => by injection h with _ h1 h2; omega
        c := cons_one (HC.out.below HBr.out) HK0.out HCr.out
        g := ⟨none, 0, rfl, Nat.zero_le _, fun h => absurd h (Nat.not_lt_zero _)⟩ }
    have HCk : Hid (Calls Tryz.prog 35 #[.agg #[.slice (some ⟨V, 0, none⟩) k k, .slice (some ⟨C, 0, none⟩) 1 1, .bool false, .slice none 0 0]] wr fun e w' => e = .returned (.tuple #[.int .i64 (Md.check (stM c k)).1, .int .i64 (Md.check (stM c k)).2]) ∧ Below wr.heap.size wr w') := check_any (stM c k) _ _ _ wr HMo.out
    obtain ⟨⟨m0, m1, m2, m3⟩, _⟩ := m0
    clear HMo HNm HCr HMr
    obtain ⟨r1, hr1⟩ : ∃ r, (Md.check (stM c k)).1 = r := ⟨_, rfl⟩
    obtain ⟨r2, hr2⟩ : ∃ r, (Md.check (stM c k)).2 = r := ⟨_, rfl⟩
    rw [hr1, hr2] at HCk
    have HR2 : Hid ((Md.check (stM c k)).2 = r2) := hr2
    clear hr1 hr2
    go_wp2_with (first | (go_at_call 35; refine calls_at HCk.out (by with_reducible rfl) (by with_reducible rfl) ?_; rintro e w5 ⟨rfl, hb5⟩))
    go_ret
    exact ⟨ret_bool (by rw [HR2.out]; by_cases h : r2 = 0 <;> simp [h]), HBr.out.trans (hb5.mono HBr.out.size)⟩
end Go.Proofs.YtlcegpnnanhloaaGreatDoor
