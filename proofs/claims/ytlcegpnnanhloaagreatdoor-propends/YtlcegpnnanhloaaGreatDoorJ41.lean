/-
  Put together: PpCountR, PpLawC.
-/
import Derived.Test.YtlcegpnnanhloaaGreatDoorJ38
import Derived.Test.YtlcegpnnanhloaaGreatDoorJ37
import Derived.Test.YtlcegpnnanhloaaGreatDoorJ34
import Derived.Test.YtlcegpnnanhloaaGreatDoorJ15
import Derived.Test.YtlcegpnnanhloaaGreatDoorMdFault
namespace Go.Proofs.YtlcegpnnanhloaaGreatDoor
open Go.RowKit

theorem CtC.of {N lp p B : Nat} {nv mv : Value} {s : St} {g : Nat} {Q : List Sq} {a0 a1 a2 a3 a4 a5 a6 a7 a8 a9 : Value} {X w' : World} (hN : X.heap[N]? = some (.cells #[a0, a1, a2, a3, a4, a5, a6, a7, a8, a9] 31 (0, 0))) (hL : LfQ B lp g p nv mv s Q X) (hk : Kq B X w') : w'.cell? ⟨N, 1, none⟩ = some a1 ∧ w'.cell? ⟨N, 3, none⟩ = some a3 ∧ w'.cell? ⟨N, 4, none⟩ = some a4 ∧ w'.cell? ⟨N, 7, none⟩ = some a7 ∧ w'.cell? ⟨lp, 0, none⟩ = some (.pointer (some ⟨p, 0, none⟩)) := by
  have h := hk.block hN (by decide) (by decide)
  exact ⟨cell_of h 1, cell_of h 3, cell_of h 4, cell_of h 7, hL.box hk⟩

set_option maxRecDepth 10000 in
set_option maxHeartbeats 4000000 in
theorem count_any (B lp g p : Nat) (nv mv : Value) (s : St) (Q : List Sq) (w : World) (h : LfQ B lp g p nv mv s Q w) (hts : ∀ q ∈ Q, q.ts.length ≤ 1000) (c : Md.Cn) (vt vx vb vr : Value) (hC : CnK B w c vt vx vb vr) (hx : ∀ x ∈ c.xs, 0 ≤ x ∧ x < (s.now.length : Int)) (hl : c.xs.length ≤ 64) (hk : -1000000000 ≤ c.k ∧ c.k ≤ 1000000000) : Calls Tryz.prog 52 #[.pointer (some ⟨lp, 0, none⟩), cnVal c vt vx vb vr] w (RlOut B lp g p nv mv s (countQ s.now c Q) w) := by
  have hBs := h.size
  have hn := h.n32
  obtain ⟨xa, xc, rfl, _⟩ := hC.at.x.form
  obtain ⟨W, hW⟩ : ∃ W, w.alloc (.cells #[.int .i64 c.kind, .int .i64 c.op, vt, .int .i64 c.k, .int .i64 c.v, .int .i64 c.x, .int .i64 c.y, .slice xa c.xs.length xc, vb, vr] 31) = W := ⟨_, rfl⟩
  have hb0 : Below w.heap.size w W := by rw [← hW]; exact (Below.refl _ _).alloc (Nat.le_refl _) _
  have g0 : W.heap[w.heap.size]? = some (.cells #[.int .i64 c.kind, .int .i64 c.op, vt, .int .i64 c.k, .int .i64 c.v, .int .i64 c.x, .int .i64 c.y, .slice xa c.xs.length xc, vb, vr] 31 (0, 0)) := by rw [← hW]; exact heap_alloc_new w _
  have HLW : Hid (LfQ B lp g p nv mv s Q W) := h.below hb0
  have HKW : Hid (Kq B w W) := Kq.of_below hb0 hBs
  have HG : Hid (∀ w', Kq B W w' → w'.cell? ⟨w.heap.size, 1, none⟩ = some (.int .i64 c.op) ∧ w'.cell? ⟨w.heap.size, 3, none⟩ = some (.int .i64 c.k) ∧ w'.cell? ⟨w.heap.size, 4, none⟩ = some (.int .i64 c.v) ∧ w'.cell? ⟨w.heap.size, 7, none⟩ = some (.slice xa c.xs.length xc) ∧ w'.cell? ⟨lp, 0, none⟩ = some (.pointer (some ⟨p, 0, none⟩))) := fun w' hk => CtC.of g0 HLW.out hk
  have HGb : Hid (∀ w', Kq B W w' → w'.heap[w.heap.size]? = some (.cells #[.int .i64 c.kind, .int .i64 c.op, vt, .int .i64 c.k, .int .i64 c.v, .int .i64 c.x, .int .i64 c.y, .slice xa c.xs.length xc, vb, vr] 31 (0, 0))) := fun w' hk => hk.block g0 (by decide) (by decide)
  have HXs : Hid (∀ k (hk : k < c.xs.length) w', Kq B W w' → ∃ b off, xa = some ⟨b, off, none⟩ ∧ w'.cell? ⟨b, off + k, none⟩ = some (.int .i64 c.xs[k])) := fun k hkl w' hk => by
    obtain ⟨a', c', e1, _, hcell⟩ := (hC w' ((hb0.mono hBs).trans hk.below)).x
    injection e1 with e1 _ _
    obtain ⟨b, off, ha, _, hcl⟩ := hcell (by omega)
    exact ⟨b, off, by rw [e1, ha], hcl k hkl⟩
  have HXb : Hid (∀ k (hk : k < c.xs.length), ∃ m : Nat, c.xs[k] = (m : Int) ∧ m < s.now.length) := fun k hk => ⟨c.xs[k].toNat, by have := hx c.xs[k] (List.getElem_mem hk); omega, by have := hx c.xs[k] (List.getElem_mem hk); omega⟩
  have HVr : Hid (Calls Tryz.prog 17 #[.pointer (some ⟨p, 0, none⟩)] W fun e w2 => e = .returned (.int .i64 (s.now.length : Int)) ∧ w2 = W) := HLW.out.vars (Below.refl _ _)
  have HHs : Hid (∀ (x : Nat) (hx : x < s.now.length) (v : Int) w', Kq B W w' → Calls Tryz.prog 87 #[.pointer (some ⟨p, 0, none⟩), .int .i64 (x : Int), .int .i64 v] w' fun e w2 => e = .returned (.bool (s.now[x].has v)) ∧ Below w'.heap.size w' w2) := fun x hx v w' hk => HLW.out.hass x hx v hk.below
  have HSz : Hid (∀ (x : Nat) (hx : x < s.now.length) w', Kq B W w' → Calls Tryz.prog 97 #[.pointer (some ⟨p, 0, none⟩), .int .i64 (x : Int)] w' fun e w2 => e = .returned (.int .i64 s.now[x].size) ∧ Below w'.heap.size w' w2) := fun x hx w' hk => HLW.out.sizes x hx hk.below
  have HKp : Hid (∀ (x : Nat) (_ : x < s.now.length) w' Q' (a b : Int), LfQ B lp g p nv mv s Q' w' → Calls Tryz.prog 90 #[.pointer (some ⟨lp, 0, none⟩), .int .i64 (x : Int), .agg #[.int .i64 a, .int .i64 b]] w' (KqOut B lp g p nv mv s (keepQ Q' x a b) w')) := fun x hx w' Q' a b hL => hL.keep x hx a b
  have HSm : Hid (∀ (x : Nat) (_ : x < s.now.length) w' Q', LfQ B lp g p nv mv s Q' w' → Kq B W w' → (∀ q ∈ Q', q.ts.length ≤ 100000) → Calls Tryz.prog 83 #[.pointer (some ⟨lp, 0, none⟩), .int .i64 (x : Int), .func (.func 98) #[] #[.pointer (some ⟨w.heap.size, 0, none⟩)]] w' (KqOut B lp g p nv mv s (someQ Q' x (fun u => u != c.v)) w')) := fun x hx w' Q' hL hk hl => hL.some x hx 98 #[.pointer (some ⟨w.heap.size, 0, none⟩)] (fun u => u != c.v) ⟨98, _, rfl, enters98, fun w2 hk2 u _ _ => ct1_any w.heap.size c.v u _ _ _ _ _ _ _ _ _ w2 (HGb.out w2 (hk.trans hk2))⟩ hl
  have HJu : Hid (∀ (v : Int) w', Calls Tryz.prog 92 #[.int .i64 v] w' fun e w2 => e = .returned (.agg #[.int .i64 v, .int .i64 v]) ∧ Below w'.heap.size w' w2) := fun v w' => just_any v w'
  have HTs : Hid (∀ q ∈ Q, q.ts.length ≤ 1000) := hts
  obtain ⟨n, hnn⟩ : ∃ n, s.now.length = n := ⟨_, rfl⟩
  rw [hnn] at hn HVr HXb
  have hmk := makeN n (by omega)
  obtain ⟨W1, hW1⟩ : ∃ W1, W.alloc (.cells (madeCells #[.int .i64 0] n) 3) = W1 := ⟨_, rfl⟩
  have hb1 : Below W.heap.size W W1 := by rw [← hW1]; exact (Below.refl _ _).alloc (Nat.le_refl _) _
  have HR0 : Hid (RowI W1 W.heap.size (plcL (c.xs.take 0) n)) := by
    show RowI _ _ _
    rw [List.take_zero]
    show RowI _ _ (coefL [] n)
    rw [coefL_nil]
    exact rowI_made W n hW1
  have HBs : Hid (B ≤ W.heap.size) := Nat.le_trans hBs hb0.size
  have HB1 : Hid (Below W.heap.size W W1) := hb1
  obtain ⟨c1, c3, c4, c7, cl⟩ := HG.out W (Kq.refl _ _)
  have HNn : Hid (s.now.length = n) := hnn
  obtain ⟨hk1, hk2⟩ := hk
  clear h hts hC hx hBs hb0 g0 hnn hb1
  unfold cnVal
  go_enter Tryz.func52, Tryz.ntmps52
  go_wp2_with fail
  refine calls_at HVr.out (by with_reducible rfl) (by with_reducible rfl) ?_
  rintro e wv ⟨rfl, hwv⟩
  rw [hwv]
  clear hwv
  have d7 : W1.cell? ⟨w.heap.size, 7, none⟩ = some (.slice xa c.xs.length xc) := (HG.out W1 (Kq.of_below HB1.out HBs.out)).2.2.2.1
  go_wp2_with fail
  try rw [hW1]
  clear c1 c3 c4 c7 cl hW hmk d7
  go_loopw [25] (fun iv wr => ∃ (k : Nat), iv = .int .i64 (k : Int) ∧ k ≤ c.xs.length ∧ Hid (RowI wr W.heap.size (plcL (c.xs.take k) n)) ∧ Hid (Below W.heap.size W wr)) (fun iv _ => c.xs.length - (intOf iv).toNat)
  case atStart => exact ⟨0, rfl, Nat.zero_le _, HR0, HB1⟩
  case round =>
  obtain ⟨k, rfl, hk, HR, HBr⟩ := hrel
  clear hW1
  by_cases hkn : k < c.xs.length
  · have hkI : (k : Int) < (c.xs.length : Int) := by omega
    obtain ⟨b, off, rfl, f0⟩ := HXs.out k hkn wr (Kq.of_below HBr.out HBs.out)
    obtain ⟨m, hm, hmn⟩ := HXb.out k hkn
    have hmL : m < (plcL (c.xs.take k) n).length := by rw [plcL_len]; exact hmn
    have hnx := plcL_next hkn hm hmL
    obtain ⟨hd0, hd1⟩ := plcL_bdk c.xs k n m hl hmL
    obtain ⟨d2, dz⟩ := HR.out.cell m hmL
    obtain ⟨z, hz⟩ : ∃ z, (plcL (c.xs.take k) n)[m] = z := ⟨_, rfl⟩
    rw [hm] at f0
    rw [hz] at hnx hd0 hd1 d2
    have HN : Hid (plcL (c.xs.take (k + 1)) n = (plcL (c.xs.take k) n).set m (z + 1)) := hnx
    have hmI : (m : Int) < (n : Int) := by omega
    clear hnx hz hm
    go_wp2_with fail
    have HR2 : Hid (RowI (wr.setCell ⟨W.heap.size, m, none⟩ (.int .i64 (z + 1))) W.heap.size (plcL (c.xs.take (k + 1)) n)) := by
      show RowI _ _ _
      rw [HN.out]
      exact HR.out.set m _
    have HB2 : Hid (Below W.heap.size W (wr.setCell ⟨W.heap.size, m, none⟩ (.int .i64 (z + 1)))) := HBr.out.setCell (Nat.le_refl _) _
    go_roundw
    case rel => exact ⟨k + 1, by go_num, hkn, HR2, HB2⟩
    case measure => simp [intOf]; omega
  have hke : k = c.xs.length := by omega
  subst hke
  have hkI : ¬ (c.xs.length : Int) < (c.xs.length : Int) := by omega
  rw [List.take_length] at HR
  rename World => wP
  have HKP : Hid (Kq B W wP) := Kq.of_below HBr.out HBs.out
  have HSP : Hid (B ≤ wP.heap.size) := Nat.le_trans HBs.out HBr.out.size
  have hD : s.now.length = n := HNn.out
  obtain ⟨zs, hzs⟩ : ∃ zs, (plcL c.xs n).zip s.now = zs := ⟨_, rfl⟩
  have hzl : zs.length = n := by rw [← hzs, List.length_zip, plcL_len, hD, Nat.min_self]
  have hz1 : ∀ k (hk : k < zs.length), ∃ (h1 : k < (plcL c.xs n).length) (h2 : k < s.now.length), zs[k] = ((plcL c.xs n)[k], s.now[k]) := fun k hk => by
    subst hzs
    rw [List.length_zip] at hk
    exact ⟨by omega, by omega, by rw [List.getElem_zip]⟩
  have HZ : Hid (∀ z ∈ zs, -64000000 ≤ z.1 ∧ z.1 ≤ 64000000) := fun z hz => by
    obtain ⟨k, hk, rfl⟩ := List.getElem_of_mem hz
    obtain ⟨h1, h2, e⟩ := hz1 k hk
    rw [e]
    have := plcL_bdk c.xs c.xs.length n k hl (by rw [List.take_length]; exact h1)
    simp only [List.take_length] at this
    exact this
  have HPc : Hid (∀ k (hk : k < zs.length) w', Kq B wP w' → w'.cell? ⟨W.heap.size, k, none⟩ = some (.int .i64 zs[k].1)) := fun k hk w' hkq => by
    obtain ⟨h1, h2, e⟩ := hz1 k hk
    rw [e]
    exact ((HR.out.kq hkq).cell k h1).1
  have HHz : Hid (∀ k (hk : k < zs.length) w', Kq B W w' → Calls Tryz.prog 87 #[.pointer (some ⟨p, 0, none⟩), .int .i64 (k : Int), .int .i64 c.v] w' fun e w2 => e = .returned (.bool (zs[k].2.has c.v)) ∧ Below w'.heap.size w' w2) := fun k hk w' hkq => by
    obtain ⟨h1, h2, e⟩ := hz1 k hk
    rw [e]
    exact HHs.out k h2 c.v w' hkq
  have HSzz : Hid (∀ k (hk : k < zs.length) w', Kq B W w' → Calls Tryz.prog 97 #[.pointer (some ⟨p, 0, none⟩), .int .i64 (k : Int)] w' fun e w2 => e = .returned (.int .i64 zs[k].2.size) ∧ Below w'.heap.size w' w2) := fun k hk w' hkq => by
    obtain ⟨h1, h2, e⟩ := hz1 k hk
    rw [e]
    exact HSz.out k h2 w' hkq
  have HLt : Hid (∀ k, k < zs.length → k < s.now.length) := fun k hk => by rw [hD, ← hzl]; exact hk
  have hz32 : zs.length ≤ 32 := by omega
  have HQ : Hid (countQ s.now c Q = if ((c.op != 3) && decide (c.k < sumZ (sure1 c.v) zs) || (c.op != 1) && decide (sumZ (may1 c.v) zs < c.k)) = true then none else some (ctQ (c.op != 3) (c.op != 1) c.v c.k (sumZ (sure1 c.v) zs) (sumZ (may1 c.v) zs) zs Q zs.length)) := by show _ = _; unfold countQ; rw [hD, hzs]
  obtain ⟨R, hR⟩ : ∃ R, countQ s.now c Q = R := ⟨_, rfl⟩
  rw [hR] at HQ
  have HRR : Hid (countQ s.now c Q = R) := hR
  have hnz : n = zs.length := hzl.symm
  have HB1 : Hid (∀ k, -3000000000 ≤ sumZ (sure1 c.v) (zs.take k) ∧ sumZ (sure1 c.v) (zs.take k) ≤ 3000000000) := fun k => sumZ_bd _ zs (fun z hz => by have := HZ.out z hz; unfold sure1; split <;> omega) hz32 k
  have HB2 : Hid (∀ k, -3000000000 ≤ sumZ (may1 c.v) (zs.take k) ∧ sumZ (may1 c.v) (zs.take k) ≤ 3000000000) := fun k => sumZ_bd _ zs (fun z hz => by have := HZ.out z hz; unfold may1; split <;> omega) hz32 k
  subst hnz
  clear hzs hzl hz1 hD hR HXs HXb hkn hk HVr HR0 HNn
  go_wp2_with fail
  go_loopw [8, 9, 38] (fun sv mv iv wr => ∃ (k : Nat), iv = .int .i64 (k : Int) ∧ sv = .int .i64 (sumZ (sure1 c.v) (zs.take k)) ∧ mv = .int .i64 (sumZ (may1 c.v) (zs.take k)) ∧ k ≤ zs.length ∧ Hid (Below wP.heap.size wP wr)) (fun _ _ iv _ => zs.length - (intOf iv).toNat)
  case atStart => exact ⟨0, rfl, rfl, rfl, Nat.zero_le _, Below.refl _ _⟩
  case round =>
  obtain ⟨k, rfl, rfl, rfl, hk, HBq⟩ := hrel
  rename World => wq
  have HKq : Hid (Kq B W wq) := HKP.out.next HBq.out HSP.out
  have HSQ : Hid (B ≤ wq.heap.size) := Nat.le_trans HSP.out HBq.out.size
  by_cases hkn : k < zs.length
  · have hkI : (k : Int) < (zs.length : Int) := by omega
    have f0 := HPc.out k hkn wq (Kq.of_below HBq.out HSP.out)
    have n1 := sumZ_next (sure1 c.v) zs k hkn
    have n2 := sumZ_next (may1 c.v) zs k hkn
    have hbz := HZ.out zs[k] (List.getElem_mem hkn)
    have hs1 := HB1.out k
    have hs2 := HB2.out k
    unfold sure1 at n1
    unfold may1 at n2
    have HHk := HHz.out k hkn
    have HSk := HSzz.out k hkn
    obtain ⟨z, hz⟩ : ∃ z, zs[k] = z := ⟨_, rfl⟩
    rw [hz] at f0 n1 n2 hbz HHk HSk
    obtain ⟨a1, ha1⟩ : ∃ x, sumZ (sure1 c.v) (zs.take k) = x := ⟨_, rfl⟩
    obtain ⟨a2, ha2⟩ : ∃ x, sumZ (may1 c.v) (zs.take k) = x := ⟨_, rfl⟩
    have n1' : sumZ (sure1 c.v) (zs.take (k + 1)) = a1 + (if (z.2.has c.v && z.2.size == 1) = true then z.1 else 0) := by rw [← ha1]; exact n1
    have n2' : sumZ (may1 c.v) (zs.take (k + 1)) = a2 + (if z.2.has c.v = true then z.1 else 0) := by rw [← ha2]; exact n2
    rw [ha1] at hs1
    rw [ha2] at hs2
    rw [ha1, ha2]
    have HN1 : Hid (sumZ (sure1 c.v) (zs.take (k + 1)) = a1 + (if (z.2.has c.v && z.2.size == 1) = true then z.1 else 0)) := n1'
    have HN2 : Hid (sumZ (may1 c.v) (zs.take (k + 1)) = a2 + (if z.2.has c.v = true then z.1 else 0)) := n2'
    obtain ⟨r, hr⟩ : ∃ r, z.2.has c.v = r := ⟨_, rfl⟩
    obtain ⟨m, hm⟩ : ∃ m, z.1 = m := ⟨_, rfl⟩
    obtain ⟨sz, hsz⟩ : ∃ m, z.2.size = m := ⟨_, rfl⟩
    rw [hr] at HN1 HN2 HHk
    rw [hm] at HN1 HN2 f0 hbz
    rw [hsz] at HN1 HSk
    have HHk' : Hid (Calls Tryz.prog 87 #[.pointer (some ⟨p, 0, none⟩), .int .i64 (k : Int), .int .i64 c.v] wq.drew fun e w2 => e = .returned (.bool r) ∧ Below wq.drew.heap.size wq.drew w2) := HHk wq.drew (HKq.out.next (Below.refl _ _).drew HSQ.out)
    have HSk' : Hid (∀ w', Kq B W w' → Calls Tryz.prog 97 #[.pointer (some ⟨p, 0, none⟩), .int .i64 (k : Int)] w' fun e w2 => e = .returned (.int .i64 sz) ∧ Below w'.heap.size w' w2) := HSk
    have HGq : Hid (∀ w', Below wq.heap.size wq w' → w'.cell? ⟨w.heap.size, 4, none⟩ = some (.int .i64 c.v) ∧ w'.cell? ⟨lp, 0, none⟩ = some (.pointer (some ⟨p, 0, none⟩))) := fun w' hb => ⟨(HG.out w' (HKq.out.next hb HSQ.out)).2.2.1, (HG.out w' (HKq.out.next hb HSQ.out)).2.2.2.2⟩
    clear n1 n2 n1' n2' hz ha1 ha2 hr hm hsz HHk HSk
    go_wp2_with fail
    go_region_held3 (fun w' => w'.cell? ⟨w.heap.size, 4, none⟩ = some (.int .i64 c.v) ∧ w'.cell? ⟨lp, 0, none⟩ = some (.pointer (some ⟨p, 0, none⟩)))
      (first | exact HGq.out _ (Below.refl _ _).drew | exact HGq.out _ HB4.out)
      (first | (go_at_call 87; refine calls_at HHk'.out (by with_reducible rfl) (by with_reducible rfl) ?_; rintro e w4 ⟨rfl, hb4⟩; (have HB4 : Hid (Below wq.heap.size wq w4) := (Below.refl _ _).drew.trans hb4); clear hb4))
    cases r with
    | false =>
      go_wp2_with fail
      go_roundw
      case rel => exact ⟨k + 1, by go_num, by rw [HN1.out]; simp, by rw [HN2.out]; simp, hkn, bl_next HBq.out HB4.out⟩
      case measure => simp [intOf]; omega
    | true =>
      have d0 : w4.cell? ⟨lp, 0, none⟩ = some (.pointer (some ⟨p, 0, none⟩)) := (HGq.out w4 HB4.out).2
      go_wp2_with fail
      refine calls_at (HSk'.out w4 (HKq.out.next HB4.out HSQ.out)) (by with_reducible rfl) (by with_reducible rfl) ?_
      rintro e w5 ⟨rfl, hb5⟩
      have HB5 : Hid (Below wq.heap.size wq w5) := HB4.out.trans (hb5.mono HB4.out.size)
      clear hb5 d0
      by_cases h1 : sz = 1
      · have e1 : (sz == 1) = true := by simpa using h1
        go_wp2_with fail
        go_roundw
        case rel => exact ⟨k + 1, by go_num, by rw [HN1.out, e1]; go_num, by rw [HN2.out]; go_num, hkn, bl_next HBq.out HB5.out⟩
        case measure => simp [intOf]; omega
      · have e1 : (sz == 1) = false := by simpa using h1
        go_wp2_with fail
        go_roundw
        case rel => exact ⟨k + 1, by go_num, by rw [HN1.out, e1]; simp, by rw [HN2.out]; go_num, hkn, bl_next HBq.out HB5.out⟩
        case measure => simp [intOf]; omega
  have hke : k = zs.length := by omega
  subst hke
  have hkI2 : ¬ (zs.length : Int) < (zs.length : Int) := by omega
  rw [List.take_length]
  have hs1 := HB1.out zs.length
  have hs2 := HB2.out zs.length
  rw [List.take_length] at hs1 hs2
  obtain ⟨su, hsu⟩ : ∃ x, sumZ (sure1 c.v) zs = x := ⟨_, rfl⟩
  obtain ⟨ma, hma⟩ : ∃ x, sumZ (may1 c.v) zs = x := ⟨_, rfl⟩
  rw [hsu] at hs1 HQ
  rw [hma] at hs2 HQ
  rw [hsu, hma]
  obtain ⟨am, ham⟩ : ∃ x, (c.op != 3) = x := ⟨_, rfl⟩
  obtain ⟨al, hal⟩ : ∃ x, (c.op != 1) = x := ⟨_, rfl⟩
  rw [ham, hal] at HQ
  obtain ⟨q1, q3, q4, q7, ql⟩ := HG.out wq HKq.out
  clear hsu hma HB1 HB2
  go_wp2_with fail
  go_quiet ((fail))
  rename_i nq _
  obtain ⟨wy, hwy⟩ : ∃ w2, wq.drewN nq = w2 := ⟨_, rfl⟩
  have hby : Below wq.heap.size wq wy := by rw [← hwy]; exact bl_drewN wq nq
  rw [hwy]
  have HKy : Hid (Kq B W wy) := HKq.out.next hby HSQ.out
  have HLy : Hid (LfQ B lp g p nv mv s Q wy) := (HLW.out.below (HBr.out.trans ((HBq.out.trans (hby.mono HBq.out.size)).mono HBr.out.size)))
  have HKPy : Hid (Kq B wP wy) := Kq.of_below (HBq.out.trans (hby.mono HBq.out.size)) HSP.out
  obtain ⟨y1, y3, y4, y7, yl⟩ := HG.out wy HKy.out
  clear hwy hby q1 q3 q4 q7 ql
  obtain ⟨fb, hfb⟩ : ∃ x, (am && decide (c.k < su) || al && decide (ma < c.k)) = x := ⟨_, rfl⟩
  rw [hfb] at HQ
  have HFb : Hid ((am && decide (c.k < su) || al && decide (ma < c.k)) = fb) := hfb
  clear hfb
  go_upto_region 17 with fail
  go_cut [86] from 71 to 144 (fun s86 wx => s86 = .bool fb ∧ wy = wx)
  case first =>
    have hF := HFb.out
    by_cases h1 : c.k < su
    · have e1 : decide (c.k < su) = true := by simpa using h1
      rw [e1] at hF
      by_cases h2 : ma < c.k
      · have e2 : decide (ma < c.k) = true := by simpa using h2
        rw [e2] at hF
        cases am <;> cases al <;> (simp at hF; subst hF; go_wp2_with fail; go_meet; exact ⟨rfl, rfl⟩)
      · have e2 : decide (ma < c.k) = false := by simpa using h2
        rw [e2] at hF
        cases am <;> cases al <;> (simp at hF; subst hF; go_wp2_with fail; go_meet; exact ⟨rfl, rfl⟩)
    · have e1 : decide (c.k < su) = false := by simpa using h1
      rw [e1] at hF
      by_cases h2 : ma < c.k
      · have e2 : decide (ma < c.k) = true := by simpa using h2
        rw [e2] at hF
        cases am <;> cases al <;> (simp at hF; subst hF; go_wp2_with fail; go_meet; exact ⟨rfl, rfl⟩)
      · have e2 : decide (ma < c.k) = false := by simpa using h2
        rw [e2] at hF
        cases am <;> cases al <;> (simp at hF; subst hF; go_wp2_with fail; go_meet; exact ⟨rfl, rfl⟩)
  case rest =>
  obtain ⟨rfl, hwy2⟩ := hcut
  rw [← hwy2]
  clear hwy2
  cases fb with
  | true =>
    have HRn : Hid (R = none) := by show _ = _; rw [HQ.out]; rfl
    go_wp2_with fail
    go_ret
    rw [HRR.out, HRn.out]
    exact ⟨rfl, (fun Q' h => by cases h), HKW.out.trans HKy.out⟩
  | false =>
  have HRs : Hid (R = some (ctQ am al c.v c.k su ma zs Q zs.length)) := by show _ = _; rw [HQ.out]; rfl
  clear HQ HFb y1 y3 y4 y7 yl ham hal
  go_wp2_with fail
  go_loopw [89] (fun iv wr => ∃ (k : Nat), iv = .int .i64 (k : Int) ∧ k ≤ zs.length ∧ Hid (LfQ B lp g p nv mv s (ctQ am al c.v c.k su ma zs Q k) wr) ∧ Hid (Kq B wP wr)) (fun iv _ => zs.length - (intOf iv).toNat)
  case atStart => exact ⟨0, rfl, Nat.zero_le _, HLy, HKPy⟩
  case round =>
  obtain ⟨k, rfl, hk, HLr, HKr⟩ := hrel
  rename World => wr
  have HKr2 : Hid (Kq B W wr) := HKP.out.trans HKr.out
  by_cases hkn : k < zs.length
  · have hkI : (k : Int) < (zs.length : Int) := by omega
    have f0 := HPc.out k hkn wr HKr.out
    have hnx := ctQ_next am al c.v c.k su ma zs Q k hkn
    have hbz := HZ.out zs[k] (List.getElem_mem hkn)
    have HHk := HHz.out k hkn
    have HSk := HSzz.out k hkn
    have hts := ctQ_ts HTs.out am al c.v c.k su ma zs k
    have hlt := HLt.out k hkn
    unfold ctStep at hnx
    obtain ⟨z, hz⟩ : ∃ z, zs[k] = z := ⟨_, rfl⟩
    rw [hz] at f0 hnx hbz HHk HSk
    obtain ⟨Qk, hQk⟩ : ∃ x, ctQ am al c.v c.k su ma zs Q k = x := ⟨_, rfl⟩
    rw [hQk] at hnx HLr hts
    obtain ⟨r, hr⟩ : ∃ r, z.2.has c.v = r := ⟨_, rfl⟩
    obtain ⟨m, hm⟩ : ∃ m, z.1 = m := ⟨_, rfl⟩
    obtain ⟨sz, hsz⟩ : ∃ m, z.2.size = m := ⟨_, rfl⟩
    rw [hr, hm, hsz] at hnx
    rw [hm] at f0 hbz
    rw [hr] at HHk
    rw [hsz] at HSk
    have HN : Hid (ctQ am al c.v c.k su ma zs Q (k + 1) = if m = 0 ∨ r = false then Qk else if (al && decide (ma - m < c.k)) = true then keepQ (if (am && decide (1 < sz) && decide (c.k < su + m)) = true then someQ Qk k (fun u => u != c.v) else Qk) k c.v c.v else (if (am && decide (1 < sz) && decide (c.k < su + m)) = true then someQ Qk k (fun u => u != c.v) else Qk)) := hnx
    have HHk' : Hid (Calls Tryz.prog 87 #[.pointer (some ⟨p, 0, none⟩), .int .i64 (k : Int), .int .i64 c.v] wr.drew fun e w2 => e = .returned (.bool r) ∧ Below wr.drew.heap.size wr.drew w2) := HHk wr.drew (HKr2.out.next (Below.refl _ _).drew HLr.out.size)
    have HSk' : Hid (∀ w', Kq B W w' → Calls Tryz.prog 97 #[.pointer (some ⟨p, 0, none⟩), .int .i64 (k : Int)] w' fun e w2 => e = .returned (.int .i64 sz) ∧ Below w'.heap.size w' w2) := HSk
    have HTk : Hid (∀ q ∈ Qk, q.ts.length ≤ 1000 + k) := hts
    have HGr : Hid (∀ w', Below wr.heap.size wr w' → w'.cell? ⟨w.heap.size, 4, none⟩ = some (.int .i64 c.v) ∧ w'.cell? ⟨lp, 0, none⟩ = some (.pointer (some ⟨p, 0, none⟩))) := fun w' hb => ⟨(HG.out w' (HKr2.out.next hb HLr.out.size)).2.2.1, (HG.out w' (HKr2.out.next hb HLr.out.size)).2.2.2.2⟩
    have HSmk := HSm.out k hlt
    have HKpk := HKp.out k hlt
    have HSmk' : Hid (∀ (w' : World) (Q' : List Sq), LfQ B lp g p nv mv s Q' w' → Kq B W w' → (∀ q ∈ Q', q.ts.length ≤ 100000) → Calls Tryz.prog 83 #[.pointer (some ⟨lp, 0, none⟩), .int .i64 (k : Int), .func (.func 98) #[] #[.pointer (some ⟨w.heap.size, 0, none⟩)]] w' (KqOut B lp g p nv mv s (someQ Q' k (fun u => u != c.v)) w')) := HSmk
    have HKpk' : Hid (∀ (w' : World) (Q' : List Sq) (a b : Int), LfQ B lp g p nv mv s Q' w' → Calls Tryz.prog 90 #[.pointer (some ⟨lp, 0, none⟩), .int .i64 (k : Int), .agg #[.int .i64 a, .int .i64 b]] w' (KqOut B lp g p nv mv s (keepQ Q' k a b) w')) := HKpk
    clear hnx hz hQk hr hm hsz HHk HSk hts HSmk HKpk
    by_cases hm0 : m = 0
    · have e0 : (m == 0) = true := by simpa using hm0
      have HN2 : Hid (ctQ am al c.v c.k su ma zs Q (k + 1) = Qk) := by show _ = _; rw [HN.out, if_pos (.inl hm0)]
      clear hm0
      go_wp2_with fail
      go_quiet ((fail))
      have HB9 : Hid (∀ n, Below wr.heap.size wr (wr.drewN n)) := fun n => bl_drewN wr n
      go_wp2_with fail
      go_roundw
      case rel => exact ⟨k + 1, by go_num, hkn, (by show LfQ _ _ _ _ _ _ _ _ _; rw [HN2.out]; exact HLr.out.below (HB9.out _)), HKr.out.next (HB9.out _) HLr.out.size⟩
      case measure => simp [intOf]; omega
    have e0 : (m == 0) = false := by simpa using hm0
    go_wp2_with fail
    go_region_held3 (fun w' => w'.cell? ⟨w.heap.size, 4, none⟩ = some (.int .i64 c.v) ∧ w'.cell? ⟨lp, 0, none⟩ = some (.pointer (some ⟨p, 0, none⟩)))
      (first | exact HGr.out _ (Below.refl _ _).drew | exact HGr.out _ HB4.out)
      (first | (go_at_call 87; refine calls_at HHk'.out (by with_reducible rfl) (by with_reducible rfl) ?_; rintro e w4 ⟨rfl, hb4⟩; (have HB4 : Hid (Below wr.heap.size wr w4) := (Below.refl _ _).drew.trans hb4); clear hb4))
    cases r with
    | false =>
      have HN2 : Hid (ctQ am al c.v c.k su ma zs Q (k + 1) = Qk) := by show _ = _; rw [HN.out, if_pos (.inr rfl)]
      go_wp2_with fail
      go_roundw
      case rel => exact ⟨k + 1, by go_num, hkn, (by show LfQ _ _ _ _ _ _ _ _ _; rw [HN2.out]; exact HLr.out.below HB4.out), HKr.out.next HB4.out HLr.out.size⟩
      case measure => simp [intOf]; omega
    | true =>
    have HL4 : Hid (LfQ B lp g p nv mv s Qk w4) := HLr.out.below HB4.out
    have HK4 : Hid (Kq B W w4) := HKr2.out.next HB4.out HLr.out.size
    have HK4p : Hid (Kq B wr w4) := Kq.of_below HB4.out HLr.out.size
    obtain ⟨Q1, hQ1⟩ : ∃ x, (if (am && decide (1 < sz) && decide (c.k < su + m)) = true then someQ Qk k (fun u => u != c.v) else Qk) = x := ⟨_, rfl⟩
    have HN3 : Hid (ctQ am al c.v c.k su ma zs Q (k + 1) = if (al && decide (ma - m < c.k)) = true then keepQ Q1 k c.v c.v else Q1) := by show _ = _; rw [HN.out, if_neg (by simp [hm0]), hQ1]
    have HQ1 : Hid ((if (am && decide (1 < sz) && decide (c.k < su + m)) = true then someQ Qk k (fun u => u != c.v) else Qk) = Q1) := hQ1
    clear HN hQ1 f0
    obtain ⟨b1, hb1⟩ : ∃ x, (am && decide (1 < sz) && decide (c.k < su + m)) = x := ⟨_, rfl⟩
    rw [hb1] at HQ1
    have HB1 : Hid ((am && decide (1 < sz) && decide (c.k < su + m)) = b1) := hb1
    clear hb1
    go_upto_region 23 with fail
    go_cut [124] from 107 to 144 (fun s124 wx => s124 = .bool b1 ∧ Hid (Below w4.heap.size w4 wx))
    case first =>
      have hF := HB1.out
      cases am with
      | false =>
        have hF2 : false = b1 := hF
        subst hF2
        go_wp2_with fail
        go_meet
        exact ⟨rfl, Below.refl _ _⟩
      | true =>
        have d0 : w4.cell? ⟨lp, 0, none⟩ = some (.pointer (some ⟨p, 0, none⟩)) := (HG.out w4 HK4.out).2.2.2.2
        go_wp2_with fail
        refine calls_at (HSk'.out w4 HK4.out) (by with_reducible rfl) (by with_reducible rfl) ?_
        rintro e w5 ⟨rfl, hb5⟩
        have HB5 : Hid (Below w4.heap.size w4 w5) := hb5
        have d3 : w5.cell? ⟨w.heap.size, 3, none⟩ = some (.int .i64 c.k) := (HG.out w5 (HK4.out.next hb5 HL4.out.size)).2.1
        clear hb5 d0
        by_cases h1 : 1 < sz
        · have e1 : decide (1 < sz) = true := by simpa using h1
          rw [e1] at hF
          by_cases h2 : c.k < su + m
          · have e2 : decide (c.k < su + m) = true := by simpa using h2
            rw [e2] at hF
            have hF2 : true = b1 := hF
            subst hF2
            go_wp2_with fail
            go_meet
            exact ⟨rfl, HB5⟩
          · have e2 : decide (c.k < su + m) = false := by simpa using h2
            rw [e2] at hF
            have hF2 : false = b1 := hF
            subst hF2
            go_wp2_with fail
            go_meet
            exact ⟨rfl, HB5⟩
        · have e1 : decide (1 < sz) = false := by simpa using h1
          rw [e1] at hF
          have hF2 : false = b1 := by rw [← hF]; cases decide (c.k < su + m) <;> rfl
          subst hF2
          go_wp2_with fail
          go_meet
          exact ⟨rfl, HB5⟩
    case rest =>
    obtain ⟨rfl, HBx⟩ := hcut
    rename World => w6
    have HL6 : Hid (LfQ B lp g p nv mv s Qk w6) := HL4.out.below HBx.out
    have HK6 : Hid (Kq B W w6) := HK4.out.next HBx.out HL4.out.size
    have HK6p : Hid (Kq B wr w6) := HK4p.out.next HBx.out HL4.out.size
    cases b1 with
    | false =>
      have hq : Qk = Q1 := HQ1.out
      subst hq
      obtain ⟨t1, t3, t4, _, _⟩ := HG.out w6 HK6.out
      cases al with
      | false =>
        have HN4 : Hid (ctQ am false c.v c.k su ma zs Q (k + 1) = Qk) := HN3.out
        go_wp2_with fail
        go_roundw
        case rel => exact ⟨k + 1, by go_num, hkn, (by show LfQ _ _ _ _ _ _ _ _ _; rw [HN4.out]; exact HL6.out), HKr.out.trans HK6p.out⟩
        case measure => simp [intOf]; omega
      | true =>
        by_cases hmk : ma - m < c.k
        · have HN4 : Hid (ctQ am true c.v c.k su ma zs Q (k + 1) = keepQ Qk k c.v c.v) := by show _ = _; rw [HN3.out, if_pos (by simpa using hmk)]
          go_wp2_with fail
          refine calls_at (HJu.out c.v w6) (by with_reducible rfl) (by with_reducible rfl) ?_
          rintro e w8 ⟨rfl, hb8⟩
          have HL8 : Hid (LfQ B lp g p nv mv s Qk w8) := HL6.out.below hb8
          have HK8 : Hid (Kq B wr w8) := HK6p.out.next hb8 HL6.out.size
          clear hb8
          go_wp2_with fail
          refine calls_at (HKpk'.out w8 Qk c.v c.v HL8.out) (by with_reducible rfl) (by with_reducible rfl) ?_
          rintro e w9 ⟨rfl, hL9, hk9⟩
          have HL9 : Hid (LfQ B lp g p nv mv s (keepQ Qk k c.v c.v) w9) := hL9
          have HK9 : Hid (Kq B wr w9) := HK8.out.trans hk9
          clear hL9 hk9
          go_wp2_with fail
          go_roundw
          case rel => exact ⟨k + 1, by go_num, hkn, (by show LfQ _ _ _ _ _ _ _ _ _; rw [HN4.out]; exact HL9.out), HKr.out.trans HK9.out⟩
          case measure => simp [intOf]; omega
        · have HN4 : Hid (ctQ am true c.v c.k su ma zs Q (k + 1) = Qk) := by show _ = _; rw [HN3.out, if_neg (by simpa using hmk)]
          go_wp2_with fail
          go_roundw
          case rel => exact ⟨k + 1, by go_num, hkn, (by show LfQ _ _ _ _ _ _ _ _ _; rw [HN4.out]; exact HL6.out), HKr.out.trans HK6p.out⟩
          case measure => simp [intOf]; omega
    | true =>
      have HQe : Hid (someQ Qk k (fun u => u != c.v) = Q1) := HQ1.out
      go_wp2_with fail
      refine calls_at (HSmk'.out w6 Qk HL6.out HK6.out (fun q hq => Nat.le_trans (HTk.out q hq) (by omega))) (by with_reducible rfl) (by with_reducible rfl) ?_
      rintro e w7 ⟨rfl, hL7, hk7⟩
      have HL7 : Hid (LfQ B lp g p nv mv s Q1 w7) := by show LfQ _ _ _ _ _ _ _ _ _; rw [← HQe.out]; exact hL7
      have HK7 : Hid (Kq B W w7) := HK6.out.trans hk7
      have HK7p : Hid (Kq B wr w7) := HK6p.out.trans hk7
      clear hL7 hk7
      obtain ⟨t1, t3, t4, _, _⟩ := HG.out w7 HK7.out
      cases al with
      | false =>
        have HN4 : Hid (ctQ am false c.v c.k su ma zs Q (k + 1) = Q1) := HN3.out
        go_wp2_with fail
        go_roundw
        case rel => exact ⟨k + 1, by go_num, hkn, (by show LfQ _ _ _ _ _ _ _ _ _; rw [HN4.out]; exact HL7.out), HKr.out.trans HK7p.out⟩
        case measure => simp [intOf]; omega
      | true =>
        by_cases hmk : ma - m < c.k
        · have HN4 : Hid (ctQ am true c.v c.k su ma zs Q (k + 1) = keepQ Q1 k c.v c.v) := by show _ = _; rw [HN3.out, if_pos (by simpa using hmk)]
          go_wp2_with fail
          refine calls_at (HJu.out c.v w7) (by with_reducible rfl) (by with_reducible rfl) ?_
          rintro e w8 ⟨rfl, hb8⟩
          have HL8 : Hid (LfQ B lp g p nv mv s Q1 w8) := HL7.out.below hb8
          have HK8 : Hid (Kq B wr w8) := HK7p.out.next hb8 HL7.out.size
          clear hb8
          go_wp2_with fail
          refine calls_at (HKpk'.out w8 Q1 c.v c.v HL8.out) (by with_reducible rfl) (by with_reducible rfl) ?_
          rintro e w9 ⟨rfl, hL9, hk9⟩
          have HL9 : Hid (LfQ B lp g p nv mv s (keepQ Q1 k c.v c.v) w9) := hL9
          have HK9 : Hid (Kq B wr w9) := HK8.out.trans hk9
          clear hL9 hk9
          go_wp2_with fail
          go_roundw
          case rel => exact ⟨k + 1, by go_num, hkn, (by show LfQ _ _ _ _ _ _ _ _ _; rw [HN4.out]; exact HL9.out), HKr.out.trans HK9.out⟩
          case measure => simp [intOf]; omega
        · have HN4 : Hid (ctQ am true c.v c.k su ma zs Q (k + 1) = Q1) := by show _ = _; rw [HN3.out, if_neg (by simpa using hmk)]
          go_wp2_with fail
          go_roundw
          case rel => exact ⟨k + 1, by go_num, hkn, (by show LfQ _ _ _ _ _ _ _ _ _; rw [HN4.out]; exact HL7.out), HKr.out.trans HK7p.out⟩
          case measure => simp [intOf]; omega
  · have hke : k = zs.length := by omega
    subst hke
    have hkI : ¬ (zs.length : Int) < (zs.length : Int) := by omega
    go_wp2_with fail
    go_ret
    rw [HRR.out, HRs.out]
    refine ⟨rfl, (fun Q' h => ?_), HKW.out.trans HKr2.out⟩
    injection h with h
    rw [← h]
    exact HLr.out
end Go.Proofs.YtlcegpnnanhloaaGreatDoor

namespace Go.Proofs.YtlcegpnnanhloaaGreatDoor
open Go.RowKit

def Ct.t (c : Ct) : Int × Int × Int := (c.k, c.x, c.v)
theorem Ct.t_inj {a b : Ct} (h : a.t = b.t) : a = b := by
  cases a; cases b
  simp [Ct.t] at h
  simp [h]
/-- Two lists of cuts are the same. -/
def sameB (L M : List Ct) : Bool := decide (L.map Ct.t = M.map Ct.t)
theorem sameB_iff (L M : List Ct) : sameB L M = true ↔ L = M := by
  unfold sameB
  rw [decide_eq_true_iff]
  constructor
  · intro h
    exact List.map_inj_right (fun _ _ h => Ct.t_inj h) |>.1 h
  · intro h; rw [h]
theorem sameB_no {L M : List Ct} (h : L ≠ M) : sameB L M = false := by
  rw [← Bool.not_eq_true, sameB_iff]; exact h
def smB (L M : List Ct) (n : Nat) : Prop := ∀ j (_ : j < L.length) (_ : j < M.length), j < n → L[j] = M[j]
theorem ct_part (a1 a2 a3 : Value) (w : World) : (part 3 #[a1, a2, a3] 0).run Tryz.prog w = .ok a1 w ∧ (part 3 #[a1, a2, a3] 1).run Tryz.prog w = .ok a2 w ∧ (part 3 #[a1, a2, a3] 2).run Tryz.prog w = .ok a3 w := ⟨by kernel_rfl, by kernel_rfl, by kernel_rfl⟩
theorem ct_fields : (Tryz.prog.fieldsOf 46).toList.map (fun f => (f.name, f.type, f.offset)) = [("Kind", 3, 0), ("X", 3, 1), ("V", 3, 2)] := by kernel_rfl
theorem ct_neq (a1 a2 a3 b1 b2 b3 : Int) (w : World) : (binOp .neq 46 (.agg #[.int .i64 a1, .int .i64 a2, .int .i64 a3]) (.agg #[.int .i64 b1, .int .i64 b2, .int .i64 b3])).run Tryz.prog w = .ok (.bool (!(a1 == b1 && a2 == b2 && a3 == b3))) w := by
  rw [run_neq_struct, run_equalIn_struct (d := 9999) (ht := by kernel_rfl) (hp := by kernel_rfl)]
  have hf := ct_fields
  generalize (Tryz.prog.fieldsOf 46).toList = l at *
  simp only [List.map_eq_cons_iff, List.map_eq_nil_iff, Prod.mk.injEq] at hf
  obtain ⟨f1, l1, rfl, ⟨n1, t1, o1⟩, f2, l2, rfl, ⟨n2, t2, o2⟩, f3, l3, rfl, ⟨n3, t3, o3⟩, rfl⟩ := hf
  have pa := ct_part (.int .i64 a1) (.int .i64 a2) (.int .i64 a3) w
  have pb := ct_part (.int .i64 b1) (.int .i64 b2) (.int .i64 b3) w
  have eq := fun a b => run_equalIn_int (P := Tryz.prog) w 9998 3 .i64 .i64 a b under3
  simp only [Op.eqFields, n1, n2, n3, t1, t2, t3, o1, o2, o3, Sem.run_bind, pa, pb, eq, Result.andThen_ok, Sem.run_ite, Sem.run_pure]
  cases a1 == b1 <;> cases a2 == b2 <;> cases a3 == b3 <;> simp [Result.andThen]

set_option maxRecDepth 10000 in
set_option maxHeartbeats 1000000 in
theorem sameCuts_any (a a2 : Option Addr) (cap cap2 : Nat) (L M : List Ct) (w : World) (h : CtsAt w a L) (h2 : CtsAt w a2 M) (hl : L.length ≤ 1000000) : Calls Tryz.prog 25 #[.slice a L.length cap, .slice a2 M.length cap2] w fun e w' => e = .returned (.bool (sameB L M)) ∧ Below w.heap.size w w' := by
  by_cases hlm : L.length = M.length
  case neg =>
    have e1 : ((L.length : Int) != (M.length : Int)) = true := by simp; omega
    have HE : Hid (sameB L M = false) := sameB_no (fun e => hlm (by rw [e]))
    go_enter Tryz.func25, Tryz.ntmps25
    go_wp2_with fail
    go_ret
    exact ⟨ret_bool (by rw [HE.out]), Below.refl _ _⟩
  case pos =>
    have HC : Hid (∀ w', Below w.heap.size w w' → CtsAt w' a L ∧ CtsAt w' a2 M) := fun w' hb => ⟨h.below hb, h2.below hb⟩
    have HL : Hid (L.length = M.length) := hlm
    obtain ⟨n, hn⟩ : ∃ n, L.length = n := ⟨_, rfl⟩
    have hm : M.length = n := by omega
    have HLn : Hid (L.length = n) := hn
    have HMn : Hid (M.length = n) := hm
    rw [hn] at hl ⊢
    rw [hm]
    clear h h2 hlm hn hm
    go_enter Tryz.func25, Tryz.ntmps25
    go_wp2_with fail
    go_loopw [5] (fun iv wr => ∃ (k : Nat), iv = .int .i64 (k : Int) ∧ k ≤ n ∧ Hid (smB L M k) ∧ Hid (Below w.heap.size w wr)) (fun iv _ => n - (intOf iv).toNat)
    case atStart => exact ⟨0, rfl, Nat.zero_le _, (fun _ _ _ h => absurd h (Nat.not_lt_zero _)), Below.refl _ _⟩
    case round =>
    obtain ⟨k, rfl, hk, HT, HBr⟩ := hrel
    by_cases hkn : k < n
    · have hkI : (k : Int) < (n : Int) := by omega
      have hkl : k < L.length := by rw [HLn.out]; exact hkn
      have hkm : k < M.length := by rw [HMn.out]; exact hkn
      obtain ⟨b, off, rfl, c0, c1, c2⟩ := (HC.out wr HBr.out).1 k hkl
      obtain ⟨b2, off2, rfl, d0, d1, d2⟩ := (HC.out wr HBr.out).2 k hkm
      have HN : Hid (L[k] = M[k] → smB L M (k + 1)) := fun he j h1 h2 hj => by
        by_cases hjk : j < k
        · exact HT.out j h1 h2 hjk
        · obtain rfl : j = k := by omega
          exact he
      have HF : Hid (L[k] ≠ M[k] → sameB L M = false) := fun he => sameB_no (fun e => he (by simp [e]))
      obtain ⟨⟨pk, px, pv⟩, hp⟩ : ∃ p, L[k] = p := ⟨_, rfl⟩
      obtain ⟨⟨qk, qx, qv⟩, hq⟩ : ∃ q, M[k] = q := ⟨_, rfl⟩
      rw [hp] at c0 c1 c2 HN HF
      rw [hq] at d0 d1 d2 HN HF
      dsimp only at c0 c1 c2 d0 d1 d2
      clear hp hq hkl hkm
      have hne := ct_neq pk px pv qk qx qv
      obtain ⟨r, hr⟩ : ∃ r, (pk == qk && px == qx && pv == qv) = r := ⟨_, rfl⟩
      rw [hr] at hne
      have HR : Hid ((pk == qk && px == qx && pv == qv) = r) := hr
      clear hr
      cases r with
      | true =>
        have HN2 : Hid (smB L M (k + 1)) := HN.out (by
          have := HR.out
          simp at this
          obtain ⟨⟨rfl, rfl⟩, rfl⟩ := this
          rfl)
        go_wp2_with fail
        go_quiet ((fail))
        rename_i nq _
        go_wp2_with fail
        go_roundw
        case rel => exact ⟨k + 1, by go_num, hkn, HN2, bl_next HBr.out (bl_drewN wr nq)⟩
        case measure => simp [intOf]; omega
      | false =>
        have HF2 : Hid (sameB L M = false) := HF.out (fun e => by
          injection e with e1 e2 e3
          have := HR.out
          simp [e1, e2, e3] at this)
        go_wp2_with fail
        go_quiet ((fail))
        rename_i nq _
        go_wp2_with fail
        go_ret
        exact ⟨ret_bool (by rw [HF2.out]), bl_next HBr.out (bl_drewN wr nq)⟩
    · have hke : k = n := by omega
      subst hke
      have hkI : ¬ (k : Int) < (k : Int) := by omega
      have HE : Hid (sameB L M = true) := (sameB_iff L M).2 (List.ext_getElem HL.out (fun j h1 h2 => HT.out j h1 h2 (by rw [← HLn.out]; exact h1)))
      go_wp2_with fail
      go_ret
      exact ⟨ret_bool (by rw [HE.out]), HBr.out⟩
end Go.Proofs.YtlcegpnnanhloaaGreatDoor
