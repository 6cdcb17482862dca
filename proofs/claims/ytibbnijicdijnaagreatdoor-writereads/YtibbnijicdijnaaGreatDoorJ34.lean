/-
  Put together: PfEqg, PfPrint, PfPsg, PfWr2.
-/
import Derived.Test.YtibbnijicdijnaaGreatDoorJ33
namespace Go.Proofs.YtibbnijicdijnaaGreatDoor
open Go.RowKit

theorem take_grow {α : Type} {L M : List α} {k : Nat} (h : L.take k = M.take k) (h1 : k < L.length) (h2 : k < M.length) (he : L[k] = M[k]) : L.take (k + 1) = M.take (k + 1) := by
  rw [List.take_succ_eq_append_getElem h1, List.take_succ_eq_append_getElem h2, h, he]
theorem take_all {α : Type} {L M : List α} {k : Nat} (h : L.take k = M.take k) (h1 : L.length ≤ k) (h2 : M.length ≤ k) : L = M := by
  rw [List.take_of_length_le h1, List.take_of_length_le h2] at h
  exact h
theorem get_ne {α : Type} {L M : List α} {k : Nat} (h1 : k < L.length) (h2 : k < M.length) (he : L[k] ≠ M[k]) : L ≠ M := fun e => by subst e; exact he rfl

set_option maxRecDepth 10000 in
set_option maxHeartbeats 1000000 in
theorem eq62g (L M : List PcL) (v v' : Value) (w : World) (h : RdAt w v L.length (pcsC L)) (h' : RdAt w v' M.length (pcsC M)) : Calls Tryz.prog 62 #[v, v'] w fun e w' => e = .returned (.bool (decide (L = M))) ∧ Below w.heap.size w w' := by
  obtain ⟨a, cap, rfl, hn, hc⟩ := h
  obtain ⟨a', cap', rfl, hn', hc'⟩ := h'
  by_cases hlen : L.length = M.length
  · have HC : Hid (∀ w', Below w.heap.size w w' → ∀ j (hj : j < L.length), ∃ g off, a = some ⟨g, off, none⟩ ∧ w'.cell? ⟨g, off + j * 2, none⟩ = some (.string (txtOf L[j].1)) ∧ w'.cell? ⟨g, off + j * 2 + 1, none⟩ = some (.int .i64 L[j].2)) := fun w' hb j hj => by
      obtain ⟨g, off, e1, e2, e3⟩ := hc (by omega)
      obtain ⟨p1, p2⟩ := pcs_get L j hj
      exact ⟨g, off, e1, (hb.cell (p := ⟨g, off + j * 2, none⟩) e2).trans (e3 _ _ p1), (hb.cell (p := ⟨g, off + j * 2 + 1, none⟩) e2).trans (e3 _ _ p2)⟩
    have HC' : Hid (∀ w', Below w.heap.size w w' → ∀ j (hj : j < M.length), ∃ g off, a' = some ⟨g, off, none⟩ ∧ w'.cell? ⟨g, off + j * 2, none⟩ = some (.string (txtOf M[j].1)) ∧ w'.cell? ⟨g, off + j * 2 + 1, none⟩ = some (.int .i64 M[j].2)) := fun w' hb j hj => by
      obtain ⟨g, off, e1, e2, e3⟩ := hc' (by omega)
      obtain ⟨p1, p2⟩ := pcs_get M j hj
      exact ⟨g, off, e1, (hb.cell (p := ⟨g, off + j * 2, none⟩) e2).trans (e3 _ _ p1), (hb.cell (p := ⟨g, off + j * 2 + 1, none⟩) e2).trans (e3 _ _ p2)⟩
    have HLen : Hid (L.length = M.length) := hlen
    rw [← hlen]
    clear hc hc' hlen hn'
    go_enter Tryz.func62, Tryz.ntmps62
    go_wp2_with fail
    go_loopw [13] (fun iv wr => ∃ k : Nat, iv = .int .i64 (k : Int) ∧ k ≤ L.length ∧ Hid (Below w.heap.size w wr ∧ L.take k = M.take k)) (fun iv _ => L.length - (intOf iv).toNat)
    case atStart => exact ⟨0, rfl, Nat.zero_le _, Below.refl _ _, rfl⟩
    case round =>
      obtain ⟨k, rfl, hk, HBr⟩ := hrel
      by_cases hkn : k < L.length
      · have hkI : (k : Int) < (L.length : Int) := by omega
        have hkm : k < M.length := by have := HLen.out; omega
        obtain ⟨g, off, rfl, x0, x1⟩ := HC.out wr HBr.out.1 k hkn
        obtain ⟨g', off', rfl, y0, y1⟩ := HC'.out wr HBr.out.1 k hkm
        by_cases hel : L[k] = M[k]
        · have HNx : Hid (L.take (k + 1) = M.take (k + 1)) := take_grow HBr.out.2 hkn hkm hel
          rw [← hel] at y0 y1
          obtain ⟨T, hT⟩ : ∃ T, txtOf L[k].1 = T := ⟨_, rfl⟩
          obtain ⟨n, hn2⟩ : ∃ n, L[k].2 = n := ⟨_, rfl⟩
          rw [hT] at x0 y0
          rw [hn2] at x1 y1
          have hne : ∀ W, (binOp .neq 82 (.agg #[.string T, .int .i64 n]) (.agg #[.string T, .int .i64 n])).run Tryz.prog W = .ok (.bool false) W := fun W => by rw [pc_neq]; simp
          clear hT hn2 hel
          go_wp2_with fail
          go_region
          have HBd : Hid (Below w.heap.size w wr.drew) := HBr.out.1.drew
          go_wp2_with fail
          go_roundw
          case rel => exact ⟨k + 1, by go_num, hkn, HBd.out, HNx.out⟩
          case measure => simp [intOf]; omega
        · have HNo : Hid (decide (L = M) = false) := decide_eq_false (get_ne hkn hkm hel)
          have hb : ((txtOf L[k].1).toList == (txtOf M[k].1).toList && L[k].2 == M[k].2) = false := by
            rw [txt_beq]
            cases hq : decide (L[k].1 = M[k].1) with
            | false => rfl
            | true =>
              have h2 : L[k].2 ≠ M[k].2 := fun e => hel (Prod.ext (of_decide_eq_true hq) e)
              simpa using h2
          obtain ⟨T, hT⟩ : ∃ T, txtOf L[k].1 = T := ⟨_, rfl⟩
          obtain ⟨n, hn2⟩ : ∃ n, L[k].2 = n := ⟨_, rfl⟩
          obtain ⟨T', hT'⟩ : ∃ T, txtOf M[k].1 = T := ⟨_, rfl⟩
          obtain ⟨n', hn3⟩ : ∃ n, M[k].2 = n := ⟨_, rfl⟩
          rw [hT] at x0 hb
          rw [hT'] at y0 hb
          rw [hn2] at x1 hb
          rw [hn3] at y1 hb
          have hne : ∀ W, (binOp .neq 82 (.agg #[.string T, .int .i64 n]) (.agg #[.string T', .int .i64 n'])).run Tryz.prog W = .ok (.bool true) W := fun W => by rw [pc_neq, hb]; rfl
          clear hT hn2 hT' hn3 hel hb
          go_wp2_with fail
          go_region
          have HBd : Hid (Below w.heap.size w wr.drew) := HBr.out.1.drew
          go_wp2_with fail
          go_ret
          exact ⟨by rw [HNo.out]; rfl, HBd.out⟩
      · have hkI : ¬ (k : Int) < (L.length : Int) := by omega
        have HYes : Hid (decide (L = M) = true) := decide_eq_true (take_all HBr.out.2 (by omega) (by have := HLen.out; omega))
        go_wp2_with fail
        go_ret
        exact ⟨by rw [HYes.out]; rfl, HBr.out.1⟩
  · have hlI : ¬ ((L.length : Int) = (M.length : Int)) := by omega
    have HNo : Hid (decide (L = M) = false) := decide_eq_false fun e => hlen (by rw [e])
    clear hc hc'
    go_enter Tryz.func62, Tryz.ntmps62
    go_wp2_with fail
    go_ret
    exact ⟨by rw [HNo.out]; rfl, Below.refl _ _⟩

set_option maxRecDepth 10000 in
set_option maxHeartbeats 1000000 in
theorem eq63g (L M : List OpL) (v v' : Value) (w : World) (h : RdAt w v L.length (opsC L)) (h' : RdAt w v' M.length (opsC M)) : Calls Tryz.prog 63 #[v, v'] w fun e w' => e = .returned (.bool (decide (L = M))) ∧ Below w.heap.size w w' := by
  obtain ⟨a, cap, rfl, hn, hc⟩ := h
  obtain ⟨a', cap', rfl, hn', hc'⟩ := h'
  by_cases hlen : L.length = M.length
  · have HC : Hid (∀ w', Below w.heap.size w w' → ∀ j (hj : j < L.length), ∃ g off, a = some ⟨g, off, none⟩ ∧ w'.cell? ⟨g, off + j * 3, none⟩ = some (.int .i64 L[j].1) ∧ w'.cell? ⟨g, off + j * 3 + 1, none⟩ = some (.string (txtOf L[j].2.1)) ∧ w'.cell? ⟨g, off + j * 3 + 2, none⟩ = some (.int .i64 L[j].2.2)) := fun w' hb j hj => by
      obtain ⟨g, off, e1, e2, e3⟩ := hc (by omega)
      obtain ⟨p1, p2, p3⟩ := ops_get L j hj
      exact ⟨g, off, e1, (hb.cell (p := ⟨g, off + j * 3, none⟩) e2).trans (e3 _ _ p1), (hb.cell (p := ⟨g, off + j * 3 + 1, none⟩) e2).trans (e3 _ _ p2), (hb.cell (p := ⟨g, off + j * 3 + 2, none⟩) e2).trans (e3 _ _ p3)⟩
    have HC' : Hid (∀ w', Below w.heap.size w w' → ∀ j (hj : j < M.length), ∃ g off, a' = some ⟨g, off, none⟩ ∧ w'.cell? ⟨g, off + j * 3, none⟩ = some (.int .i64 M[j].1) ∧ w'.cell? ⟨g, off + j * 3 + 1, none⟩ = some (.string (txtOf M[j].2.1)) ∧ w'.cell? ⟨g, off + j * 3 + 2, none⟩ = some (.int .i64 M[j].2.2)) := fun w' hb j hj => by
      obtain ⟨g, off, e1, e2, e3⟩ := hc' (by omega)
      obtain ⟨p1, p2, p3⟩ := ops_get M j hj
      exact ⟨g, off, e1, (hb.cell (p := ⟨g, off + j * 3, none⟩) e2).trans (e3 _ _ p1), (hb.cell (p := ⟨g, off + j * 3 + 1, none⟩) e2).trans (e3 _ _ p2), (hb.cell (p := ⟨g, off + j * 3 + 2, none⟩) e2).trans (e3 _ _ p3)⟩
    have HLen : Hid (L.length = M.length) := hlen
    rw [← hlen]
    clear hc hc' hlen hn'
    go_enter Tryz.func63, Tryz.ntmps63
    go_wp2_with fail
    go_loopw [13] (fun iv wr => ∃ k : Nat, iv = .int .i64 (k : Int) ∧ k ≤ L.length ∧ Hid (Below w.heap.size w wr ∧ L.take k = M.take k)) (fun iv _ => L.length - (intOf iv).toNat)
    case atStart => exact ⟨0, rfl, Nat.zero_le _, Below.refl _ _, rfl⟩
    case round =>
      obtain ⟨k, rfl, hk, HBr⟩ := hrel
      by_cases hkn : k < L.length
      · have hkI : (k : Int) < (L.length : Int) := by omega
        have hkm : k < M.length := by have := HLen.out; omega
        obtain ⟨g, off, rfl, x0, x1, x2⟩ := HC.out wr HBr.out.1 k hkn
        obtain ⟨g', off', rfl, y0, y1, y2⟩ := HC'.out wr HBr.out.1 k hkm
        by_cases hel : L[k] = M[k]
        · have HNx : Hid (L.take (k + 1) = M.take (k + 1)) := take_grow HBr.out.2 hkn hkm hel
          rw [← hel] at y0 y1 y2
          obtain ⟨T, hT⟩ : ∃ T, txtOf L[k].2.1 = T := ⟨_, rfl⟩
          obtain ⟨k1, hk1⟩ : ∃ n, L[k].1 = n := ⟨_, rfl⟩
          obtain ⟨k3, hk3⟩ : ∃ n, L[k].2.2 = n := ⟨_, rfl⟩
          rw [hT] at x1 y1
          rw [hk1] at x0 y0
          rw [hk3] at x2 y2
          have hne : ∀ W, (binOp .neq 84 (.agg #[.int .i64 k1, .string T, .int .i64 k3]) (.agg #[.int .i64 k1, .string T, .int .i64 k3])).run Tryz.prog W = .ok (.bool false) W := fun W => by rw [op_neq]; simp
          clear hT hk1 hk3 hel
          go_wp2_with fail
          go_region
          have HBd : Hid (Below w.heap.size w wr.drew) := HBr.out.1.drew
          go_wp2_with fail
          go_roundw
          case rel => exact ⟨k + 1, by go_num, hkn, HBd.out, HNx.out⟩
          case measure => simp [intOf]; omega
        · have HNo : Hid (decide (L = M) = false) := decide_eq_false (get_ne hkn hkm hel)
          have hb : (L[k].1 == M[k].1 && (txtOf L[k].2.1).toList == (txtOf M[k].2.1).toList && L[k].2.2 == M[k].2.2) = false := by
            rw [txt_beq]
            cases hq : decide (L[k].2.1 = M[k].2.1) with
            | false => simp
            | true =>
              by_cases h1 : L[k].1 = M[k].1
              · have h2 : L[k].2.2 ≠ M[k].2.2 := fun e => hel (Prod.ext h1 (Prod.ext (of_decide_eq_true hq) e))
                simp [h1]
                simpa using h2
              · have : (L[k].1 == M[k].1) = false := by simpa using h1
                rw [this]
                rfl
          obtain ⟨T, hT⟩ : ∃ T, txtOf L[k].2.1 = T := ⟨_, rfl⟩
          obtain ⟨k1, hk1⟩ : ∃ n, L[k].1 = n := ⟨_, rfl⟩
          obtain ⟨k3, hk3⟩ : ∃ n, L[k].2.2 = n := ⟨_, rfl⟩
          obtain ⟨T', hT'⟩ : ∃ T, txtOf M[k].2.1 = T := ⟨_, rfl⟩
          obtain ⟨k1', hk1'⟩ : ∃ n, M[k].1 = n := ⟨_, rfl⟩
          obtain ⟨k3', hk3'⟩ : ∃ n, M[k].2.2 = n := ⟨_, rfl⟩
          rw [hT] at x1 hb
          rw [hk1] at x0 hb
          rw [hk3] at x2 hb
          rw [hT'] at y1 hb
          rw [hk1'] at y0 hb
          rw [hk3'] at y2 hb
          have hne : ∀ W, (binOp .neq 84 (.agg #[.int .i64 k1, .string T, .int .i64 k3]) (.agg #[.int .i64 k1', .string T', .int .i64 k3'])).run Tryz.prog W = .ok (.bool true) W := fun W => by rw [op_neq, hb]; rfl
          clear hT hk1 hk3 hT' hk1' hk3' hel hb
          go_wp2_with fail
          go_region
          have HBd : Hid (Below w.heap.size w wr.drew) := HBr.out.1.drew
          go_wp2_with fail
          go_ret
          exact ⟨by rw [HNo.out]; rfl, HBd.out⟩
      · have hkI : ¬ (k : Int) < (L.length : Int) := by omega
        have HYes : Hid (decide (L = M) = true) := decide_eq_true (take_all HBr.out.2 (by omega) (by have := HLen.out; omega))
        go_wp2_with fail
        go_ret
        exact ⟨by rw [HYes.out]; rfl, HBr.out.1⟩
  · have hlI : ¬ ((L.length : Int) = (M.length : Int)) := by omega
    have HNo : Hid (decide (L = M) = false) := decide_eq_false fun e => hlen (by rw [e])
    clear hc hc'
    go_enter Tryz.func63, Tryz.ntmps63
    go_wp2_with fail
    go_ret
    exact ⟨by rw [HNo.out]; rfl, Below.refl _ _⟩

set_option maxRecDepth 10000 in
set_option maxHeartbeats 1000000 in
theorem eq64g (L M : List Int) (v v' : Value) (w : World) (h : RdAt w v L.length (L.map (.int .i64))) (h' : RdAt w v' M.length (M.map (.int .i64))) : Calls Tryz.prog 64 #[v, v'] w fun e w' => e = .returned (.bool (decide (L = M))) ∧ Below w.heap.size w w' := by
  obtain ⟨a, cap, rfl, hn, hc⟩ := h
  obtain ⟨a', cap', rfl, hn', hc'⟩ := h'
  by_cases hlen : L.length = M.length
  · have HC : Hid (∀ w', Below w.heap.size w w' → ∀ j (hj : j < L.length), ∃ g off, a = some ⟨g, off, none⟩ ∧ w'.cell? ⟨g, off + j, none⟩ = some (.int .i64 L[j])) := fun w' hb j hj => by
      obtain ⟨g, off, e1, e2, e3⟩ := hc (by omega)
      have p1 : (L.map (Value.int .i64))[j]? = some (.int .i64 L[j]) := by simp [hj]
      exact ⟨g, off, e1, (hb.cell (p := ⟨g, off + j, none⟩) e2).trans (e3 _ _ p1)⟩
    have HC' : Hid (∀ w', Below w.heap.size w w' → ∀ j (hj : j < M.length), ∃ g off, a' = some ⟨g, off, none⟩ ∧ w'.cell? ⟨g, off + j, none⟩ = some (.int .i64 M[j])) := fun w' hb j hj => by
      obtain ⟨g, off, e1, e2, e3⟩ := hc' (by omega)
      have p1 : (M.map (Value.int .i64))[j]? = some (.int .i64 M[j]) := by simp [hj]
      exact ⟨g, off, e1, (hb.cell (p := ⟨g, off + j, none⟩) e2).trans (e3 _ _ p1)⟩
    have HLen : Hid (L.length = M.length) := hlen
    rw [← hlen]
    clear hc hc' hlen hn'
    go_enter Tryz.func64, Tryz.ntmps64
    go_wp2_with fail
    go_loopw [13] (fun iv wr => ∃ k : Nat, iv = .int .i64 (k : Int) ∧ k ≤ L.length ∧ Hid (Below w.heap.size w wr ∧ L.take k = M.take k)) (fun iv _ => L.length - (intOf iv).toNat)
    case atStart => exact ⟨0, rfl, Nat.zero_le _, Below.refl _ _, rfl⟩
    case round =>
      obtain ⟨k, rfl, hk, HBr⟩ := hrel
      by_cases hkn : k < L.length
      · have hkI : (k : Int) < (L.length : Int) := by omega
        have hkm : k < M.length := by have := HLen.out; omega
        obtain ⟨g, off, rfl, x0⟩ := HC.out wr HBr.out.1 k hkn
        obtain ⟨g', off', rfl, y0⟩ := HC'.out wr HBr.out.1 k hkm
        by_cases hel : L[k] = M[k]
        · have HNx : Hid (L.take (k + 1) = M.take (k + 1)) := take_grow HBr.out.2 hkn hkm hel
          rw [← hel] at y0
          obtain ⟨z, hz⟩ : ∃ z, L[k] = z := ⟨_, rfl⟩
          rw [hz] at x0 y0
          clear hz hel
          go_wp2_with fail
          go_region
          have HBd : Hid (Below w.heap.size w wr.drew) := HBr.out.1.drew
          go_wp2_with fail
          go_roundw
          case rel => exact ⟨k + 1, by go_num, hkn, HBd.out, HNx.out⟩
          case measure => simp [intOf]; omega
        · have HNo : Hid (decide (L = M) = false) := decide_eq_false (get_ne hkn hkm hel)
          obtain ⟨z, hz⟩ : ∃ z, L[k] = z := ⟨_, rfl⟩
          obtain ⟨z', hz'⟩ : ∃ z, M[k] = z := ⟨_, rfl⟩
          rw [hz] at x0 hel
          rw [hz'] at y0 hel
          have hb : (z != z') = true := by simpa using hel
          clear hz hz' hel
          go_wp2_with fail
          go_region
          have HBd : Hid (Below w.heap.size w wr.drew) := HBr.out.1.drew
          go_wp2_with fail
          go_ret
          exact ⟨by rw [HNo.out]; rfl, HBd.out⟩
      · have hkI : ¬ (k : Int) < (L.length : Int) := by omega
        have HYes : Hid (decide (L = M) = true) := decide_eq_true (take_all HBr.out.2 (by omega) (by have := HLen.out; omega))
        go_wp2_with fail
        go_ret
        exact ⟨by rw [HYes.out]; rfl, HBr.out.1⟩
  · have hlI : ¬ ((L.length : Int) = (M.length : Int)) := by omega
    have HNo : Hid (decide (L = M) = false) := decide_eq_false fun e => hlen (by rw [e])
    clear hc hc'
    go_enter Tryz.func64, Tryz.ntmps64
    go_wp2_with fail
    go_ret
    exact ⟨by rw [HNo.out]; rfl, Below.refl _ _⟩

set_option maxRecDepth 10000 in
set_option maxHeartbeats 1000000 in
theorem eq65g (L M : List (List UInt8)) (v v' : Value) (w : World) (h : RdAt w v L.length (L.map fun x => .string (txtOf x))) (h' : RdAt w v' M.length (M.map fun x => .string (txtOf x))) : Calls Tryz.prog 65 #[v, v'] w fun e w' => e = .returned (.bool (decide (L = M))) ∧ Below w.heap.size w w' := by
  obtain ⟨a, cap, rfl, hn, hc⟩ := h
  obtain ⟨a', cap', rfl, hn', hc'⟩ := h'
  by_cases hlen : L.length = M.length
  · have HC : Hid (∀ w', Below w.heap.size w w' → ∀ j (hj : j < L.length), ∃ g off, a = some ⟨g, off, none⟩ ∧ w'.cell? ⟨g, off + j, none⟩ = some (.string (txtOf L[j]))) := fun w' hb j hj => by
      obtain ⟨g, off, e1, e2, e3⟩ := hc (by omega)
      have p1 : (L.map fun x => Value.string (txtOf x))[j]? = some (.string (txtOf L[j])) := by simp [hj]
      exact ⟨g, off, e1, (hb.cell (p := ⟨g, off + j, none⟩) e2).trans (e3 _ _ p1)⟩
    have HC' : Hid (∀ w', Below w.heap.size w w' → ∀ j (hj : j < M.length), ∃ g off, a' = some ⟨g, off, none⟩ ∧ w'.cell? ⟨g, off + j, none⟩ = some (.string (txtOf M[j]))) := fun w' hb j hj => by
      obtain ⟨g, off, e1, e2, e3⟩ := hc' (by omega)
      have p1 : (M.map fun x => Value.string (txtOf x))[j]? = some (.string (txtOf M[j])) := by simp [hj]
      exact ⟨g, off, e1, (hb.cell (p := ⟨g, off + j, none⟩) e2).trans (e3 _ _ p1)⟩
    have HLen : Hid (L.length = M.length) := hlen
    rw [← hlen]
    clear hc hc' hlen hn'
    go_enter Tryz.func65, Tryz.ntmps65
    go_wp2_with fail
    go_loopw [13] (fun iv wr => ∃ k : Nat, iv = .int .i64 (k : Int) ∧ k ≤ L.length ∧ Hid (Below w.heap.size w wr ∧ L.take k = M.take k)) (fun iv _ => L.length - (intOf iv).toNat)
    case atStart => exact ⟨0, rfl, Nat.zero_le _, Below.refl _ _, rfl⟩
    case round =>
      obtain ⟨k, rfl, hk, HBr⟩ := hrel
      by_cases hkn : k < L.length
      · have hkI : (k : Int) < (L.length : Int) := by omega
        have hkm : k < M.length := by have := HLen.out; omega
        obtain ⟨g, off, rfl, x0⟩ := HC.out wr HBr.out.1 k hkn
        obtain ⟨g', off', rfl, y0⟩ := HC'.out wr HBr.out.1 k hkm
        by_cases hel : L[k] = M[k]
        · have HNx : Hid (L.take (k + 1) = M.take (k + 1)) := take_grow HBr.out.2 hkn hkm hel
          rw [← hel] at y0
          have hq := txt_beq L[k] L[k]
          rw [decide_eq_true rfl] at hq
          obtain ⟨T, hT⟩ : ∃ T, txtOf L[k] = T := ⟨_, rfl⟩
          rw [hT] at x0 y0 hq
          clear hT hel
          go_wp2_with fail
          go_region
          have HBd : Hid (Below w.heap.size w wr.drew) := HBr.out.1.drew
          go_wp2_with fail
          go_roundw
          case rel => exact ⟨k + 1, by go_num, hkn, HBd.out, HNx.out⟩
          case measure => simp [intOf]; omega
        · have HNo : Hid (decide (L = M) = false) := decide_eq_false (get_ne hkn hkm hel)
          have hq := txt_beq L[k] M[k]
          rw [decide_eq_false hel] at hq
          obtain ⟨T, hT⟩ : ∃ T, txtOf L[k] = T := ⟨_, rfl⟩
          obtain ⟨T', hT'⟩ : ∃ T, txtOf M[k] = T := ⟨_, rfl⟩
          rw [hT] at x0 hq
          rw [hT'] at y0 hq
          clear hT hT' hel
          go_wp2_with fail
          go_region
          have HBd : Hid (Below w.heap.size w wr.drew) := HBr.out.1.drew
          go_wp2_with fail
          go_ret
          exact ⟨by rw [HNo.out]; rfl, HBd.out⟩
      · have hkI : ¬ (k : Int) < (L.length : Int) := by omega
        have HYes : Hid (decide (L = M) = true) := decide_eq_true (take_all HBr.out.2 (by omega) (by have := HLen.out; omega))
        go_wp2_with fail
        go_ret
        exact ⟨by rw [HYes.out]; rfl, HBr.out.1⟩
  · have hlI : ¬ ((L.length : Int) = (M.length : Int)) := by omega
    have HNo : Hid (decide (L = M) = false) := decide_eq_false fun e => hlen (by rw [e])
    clear hc hc'
    go_enter Tryz.func65, Tryz.ntmps65
    go_wp2_with fail
    go_ret
    exact ⟨by rw [HNo.out]; rfl, Below.refl _ _⟩
end Go.Proofs.YtibbnijicdijnaaGreatDoor

namespace Go.Proofs.YtibbnijicdijnaaGreatDoor
open Go.RowKit

theorem rd_of_own {w : World} {B : Nat} {e : TypeId} {m : Nat} {v : Value} {n : Nat} {xs : List Value} (h : w.ownsRow B e m v n xs) (hn : n ≤ 9223372036854775807) : RdAt w v n xs := by
  have hc := fun g hg => h.cells (g := g) hg
  rcases h.2 with ⟨rfl, rfl⟩ | ⟨g, cap, cur, rfl, _, hg, _⟩
  · exact ⟨none, 0, rfl, hn, fun h0 => absurd h0 (Nat.lt_irrefl _)⟩
  · refine ⟨_, _, rfl, hn, fun _ => ⟨g, 0, rfl, (Array.getElem?_eq_some_iff.1 hg).1, fun j u hu => ?_⟩⟩
    have := hc g rfl j u hu
    by_cases hj : j = 0
    · subst hj; simpa [Addr.add] using this
    · simpa [Addr.add, hj] using this
theorem RdAt.e {w : World} {v : Value} {n : Nat} {xs : List Value} (h : RdAt w v n xs) : RdE w.heap.size w v n xs := by
  obtain ⟨a, cap, h1, h2, h3⟩ := h
  refine ⟨a, cap, h1, h2, fun h0 => ?_⟩
  obtain ⟨g, off, e1, e2, e3⟩ := h3 h0
  exact ⟨g, off, e1, .inl e2, e2, e3⟩
theorem SlR.e {w : World} {d : SL} {vo vp vl vi : Value} (h : SlR w d vo vp vl vi) : SlE w.heap.size w d vo vp vl vi := ⟨h.o.e, h.p.e, h.l.e, h.i.e⟩
theorem SlR.few {w : World} {d : SL} {vo vp vl vi : Value} (h : SlR w d vo vp vl vi) : d.ops.length ≤ 9223372036854775807 ∧ d.pcs.length ≤ 9223372036854775807 ∧ d.lits.length ≤ 9223372036854775807 ∧ d.ids.length ≤ 9223372036854775807 := by
  obtain ⟨_, _, _, h1, _⟩ := h.o
  obtain ⟨_, _, _, h2, _⟩ := h.p
  obtain ⟨_, _, _, h3, _⟩ := h.l
  obtain ⟨_, _, _, h4, _⟩ := h.i
  exact ⟨h1, h2, h3, h4⟩

set_option maxRecDepth 10000 in
set_option maxHeartbeats 2000000 in
theorem print_eq {wf : FuncId → SL → List (List UInt8)} (d : SL) (hT : TabW formsL wf d.k) (vo vp vl vi : Value) (w : World) (hs : SlR w d vo vp vl vi) (hi : SlI d) (hl : tot (kindT formsL wf d.k d) ≤ 9000000) (x : List UInt8) (hx : wordsP (kindT formsL wf d.k d) [] = x) (hp : parseP x = (d, 0)) (hg : Gl w) (hB : 12 ≤ w.heap.size) : Calls Tryz.prog 13 #[.agg (slC d vo vp vl vi)] w fun e w' => e = .returned (.tuple #[.string (txtOf x), .int .i64 0]) ∧ Below w.heap.size w w' := by
  obtain ⟨W, hW⟩ : ∃ W, w.alloc (.cells (slC d vo vp vl vi) 45) = W := ⟨_, rfl⟩
  have hbW : Below w.heap.size w W := by rw [← hW]; exact (Below.refl _ _).alloc (Nat.le_refl _) _
  have gW : W.heap[w.heap.size]? = some (.cells (slC d vo vp vl vi) 45 (0, 0)) := by rw [← hW]; exact heap_alloc_new w _
  have hlt : w.heap.size < W.heap.size := (Array.getElem?_eq_some_iff.1 gW).1
  have hxl : x.length ≤ 9000000 := by
    have := words_len (kindT formsL wf d.k d) []
    rw [hx] at this
    simp at this
    omega
  have HWr : Hid (Calls Tryz.prog 40 #[.agg (slC d vo vp vl vi)] W fun e w' => e = .returned (.string (txtOf x)) ∧ Below W.heap.size W w') := by
    have := write_any d hT vo vp vl vi W (hs.below hbW).e hi (by omega) (Nat.le_refl _) (hg.next hbW) (by omega)
    rw [hx] at this
    exact this
  have HPa : Hid (∀ w', Below W.heap.size W w' → Calls Tryz.prog 18 #[.string (txtOf x)] w' fun e w2 => ∃ vo2 vp2 vl2 vi2, e = .returned (.tuple #[.agg (slC d vo2 vp2 vl2 vi2), .int .i64 0]) ∧ SlR w2 d vo2 vp2 vl2 vi2 ∧ Below w'.heap.size w' w2) := fun w' hb => by
    have := parse_any8 x w' hxl ((hg.next hbW).below hb (by omega))
    unfold PaOut at this
    rw [hp] at this
    refine this.mono fun e w2 hq => ?_
    obtain ⟨vo2, vp2, vl2, vi2, q1, q2, q3⟩ := hq
    have hf := hs.few
    exact ⟨vo2, vp2, vl2, vi2, q1, ⟨rd_of_own q2.o hf.1, rd_of_own q2.p hf.2.1, rd_of_own q2.l hf.2.2.1, rd_of_own q2.i hf.2.2.2⟩, q3⟩
  have HSm : Hid (∀ w' vo2 vp2 vl2 vi2, Below w.heap.size w w' → SlR w' d vo2 vp2 vl2 vi2 → Calls Tryz.prog 41 #[.agg (slC d vo2 vp2 vl2 vi2), .agg (slC d vo vp vl vi)] w' fun e w2 => e = .returned (.bool true) ∧ Below w'.heap.size w' w2) := fun w' vo2 vp2 vl2 vi2 hb h2 => psame_eq d _ _ _ _ _ _ _ _ w' h2 (hs.below hb)
  have HBW : Hid (Below w.heap.size w W) := hbW
  have HMx : Hid (∀ w', Below W.heap.size W w' → w'.heap[w.heap.size]? = some (.cells (slC d vo vp vl vi) 45 (0, 0))) := fun w' hb => (hb.block _ hlt).trans gW
  obtain ⟨oa, oc, rfl, _, _⟩ := id hs.o
  obtain ⟨pa, pc, rfl, _, _⟩ := id hs.p
  obtain ⟨la, lc, rfl, _, _⟩ := id hs.l
  obtain ⟨ia, ic, rfl, _, _⟩ := id hs.i
  unfold slC at hW HWr HMx gW
  have HM : Hid (∀ w', Below W.heap.size W w' → w'.cell? ⟨w.heap.size, 0, none⟩ = some (.int .i64 d.k) ∧ w'.cell? ⟨w.heap.size, 1, none⟩ = some (.string (txtOf d.n)) ∧ w'.cell? ⟨w.heap.size, 2, none⟩ = some (.slice oa d.ops.length oc) ∧ w'.cell? ⟨w.heap.size, 3, none⟩ = some (.slice pa d.pcs.length pc) ∧ w'.cell? ⟨w.heap.size, 4, none⟩ = some (.string (txtOf d.deg)) ∧ w'.cell? ⟨w.heap.size, 5, none⟩ = some (.slice la d.lits.length lc) ∧ w'.cell? ⟨w.heap.size, 6, none⟩ = some (.slice ia d.ids.length ic) ∧ w'.cell? ⟨w.heap.size, 7, none⟩ = some (.int .i64 d.ends) ∧ w'.cell? ⟨w.heap.size, 8, none⟩ = some (.string (txtOf d.low)) ∧ w'.cell? ⟨w.heap.size, 9, none⟩ = some (.string (txtOf d.high))) := fun w' hb => by
    have g := HMx.out w' hb
    exact ⟨cell_of g 0, cell_of g 1, cell_of g 2, cell_of g 3, cell_of g 4, cell_of g 5, cell_of g 6, cell_of g 7, cell_of g 8, cell_of g 9⟩
  unfold slC
  obtain ⟨m0, m1, m2, m3, m4, m5, m6, m7, m8, m9⟩ := HM.out W (Below.refl _ _)
  obtain ⟨X, hX⟩ : ∃ X, txtOf x = X := ⟨_, rfl⟩
  rw [hX] at HWr HPa
  rw [hX]
  clear hT hs hi hl hx hp hg hbW gW hlt hxl HMx hX
  go_enter Tryz.func13, Tryz.ntmps13
  go_wp2_with fail
  refine calls_at HWr.out (by with_reducible rfl) (by with_reducible rfl) ?_
  rintro e w1 ⟨rfl, hb1⟩
  have HB1 : Hid (Below W.heap.size W w1) := hb1
  clear hb1 m0 m1 m2 m3 m4 m5 m6 m7 m8 m9
  go_wp2_with fail
  refine calls_at (HPa.out w1 HB1.out) (by with_reducible rfl) (by with_reducible rfl) ?_
  rintro e w2 ⟨vo2, vp2, vl2, vi2, rfl, h2, hb2⟩
  have H2 : Hid (SlR w2 d vo2 vp2 vl2 vi2) := h2
  have HB2 : Hid (Below W.heap.size W w2) := bl_next HB1.out hb2
  obtain ⟨oa2, oc2, rfl, _, _⟩ := id h2.o
  obtain ⟨pa2, pc2, rfl, _, _⟩ := id h2.p
  obtain ⟨la2, lc2, rfl, _, _⟩ := id h2.l
  obtain ⟨ia2, ic2, rfl, _, _⟩ := id h2.i
  clear hb2 h2
  unfold slC
  obtain ⟨V, hV⟩ : ∃ V, w2.alloc (.cells #[.int .i64 d.k, .string (txtOf d.n), .slice oa2 d.ops.length oc2, .slice pa2 d.pcs.length pc2, .string (txtOf d.deg), .slice la2 d.lits.length lc2, .slice ia2 d.ids.length ic2, .int .i64 d.ends, .string (txtOf d.low), .string (txtOf d.high)] 45) = V := ⟨_, rfl⟩
  have hbV : Below w2.heap.size w2 V := by rw [← hV]; exact (Below.refl _ _).alloc (Nat.le_refl _) _
  have gV : V.heap[w2.heap.size]? = some (.cells #[.int .i64 d.k, .string (txtOf d.n), .slice oa2 d.ops.length oc2, .slice pa2 d.pcs.length pc2, .string (txtOf d.deg), .slice la2 d.lits.length lc2, .slice ia2 d.ids.length ic2, .int .i64 d.ends, .string (txtOf d.low), .string (txtOf d.high)] 45 (0, 0)) := by rw [← hV]; exact heap_alloc_new w2 _
  have HBV : Hid (Below W.heap.size W V) := bl_next HB2.out hbV
  obtain ⟨m0, m1, m2, m3, m4, m5, m6, m7, m8, m9⟩ := HM.out V HBV.out
  obtain ⟨n0, n1, n2, n3, n4, n5, n6, n7, n8, n9⟩ : V.cell? ⟨w2.heap.size, 0, none⟩ = some (.int .i64 d.k) ∧ V.cell? ⟨w2.heap.size, 1, none⟩ = some (.string (txtOf d.n)) ∧ V.cell? ⟨w2.heap.size, 2, none⟩ = some (.slice oa2 d.ops.length oc2) ∧ V.cell? ⟨w2.heap.size, 3, none⟩ = some (.slice pa2 d.pcs.length pc2) ∧ V.cell? ⟨w2.heap.size, 4, none⟩ = some (.string (txtOf d.deg)) ∧ V.cell? ⟨w2.heap.size, 5, none⟩ = some (.slice la2 d.lits.length lc2) ∧ V.cell? ⟨w2.heap.size, 6, none⟩ = some (.slice ia2 d.ids.length ic2) ∧ V.cell? ⟨w2.heap.size, 7, none⟩ = some (.int .i64 d.ends) ∧ V.cell? ⟨w2.heap.size, 8, none⟩ = some (.string (txtOf d.low)) ∧ V.cell? ⟨w2.heap.size, 9, none⟩ = some (.string (txtOf d.high)) := by
    have g := gV
    exact ⟨cell_of g 0, cell_of g 1, cell_of g 2, cell_of g 3, cell_of g 4, cell_of g 5, cell_of g 6, cell_of g 7, cell_of g 8, cell_of g 9⟩
  have HS2 : Hid (Calls Tryz.prog 41 #[.agg #[.int .i64 d.k, .string (txtOf d.n), .slice oa2 d.ops.length oc2, .slice pa2 d.pcs.length pc2, .string (txtOf d.deg), .slice la2 d.lits.length lc2, .slice ia2 d.ids.length ic2, .int .i64 d.ends, .string (txtOf d.low), .string (txtOf d.high)], .agg #[.int .i64 d.k, .string (txtOf d.n), .slice oa d.ops.length oc, .slice pa d.pcs.length pc, .string (txtOf d.deg), .slice la d.lits.length lc, .slice ia d.ids.length ic, .int .i64 d.ends, .string (txtOf d.low), .string (txtOf d.high)]] V fun e w2 => e = .returned (.bool true) ∧ Below V.heap.size V w2) := HSm.out V _ _ _ _ (HBW.out.trans (HBV.out.mono HBW.out.size)) (H2.out.below hbV)
  clear hbV gV
  go_wp2_with fail
  refine calls_at HS2.out (by with_reducible rfl) (by with_reducible rfl) ?_
  rintro e w3 ⟨rfl, hb3⟩
  have HB3 : Hid (Below W.heap.size W w3) := bl_next HBV.out hb3
  clear hb3 m0 m1 m2 m3 m4 m5 m6 m7 m8 m9 n0 n1 n2 n3 n4 n5 n6 n7 n8 n9
  go_wp2_with fail
  go_ret2
  exact ⟨rfl, HBW.out.trans (HB3.out.mono HBW.out.size)⟩
end Go.Proofs.YtibbnijicdijnaaGreatDoor

namespace Go.Proofs.YtibbnijicdijnaaGreatDoor
open Go.RowKit

def sameB (d f : SL) : Bool := decide (d.k = f.k) && decide (d.n = f.n) && decide (d.ends = f.ends) && decide (d.low = f.low) && decide (d.high = f.high) && decide (d.deg = f.deg) && decide (d.pcs = f.pcs) && decide (d.ops = f.ops) && decide (d.lits = f.lits) && decide (d.ids = f.ids)
theorem sameB_iff (d f : SL) : sameB d f = true ↔ d = f := by
  unfold sameB
  simp only [Bool.and_eq_true, decide_eq_true_eq]
  constructor
  · rintro ⟨⟨⟨⟨⟨⟨⟨⟨⟨h1, h2⟩, h3⟩, h4⟩, h5⟩, h6⟩, h7⟩, h8⟩, h9⟩, h10⟩
    obtain ⟨a1, a2, a3, a4, a5, a6, a7, a8, a9, a10⟩ := d
    obtain ⟨b1, b2, b3, b4, b5, b6, b7, b8, b9, b10⟩ := f
    simp only [] at h1 h2 h3 h4 h5 h6 h7 h8 h9 h10
    subst h1 h2 h3 h4 h5 h6 h7 h8 h9 h10
    rfl
  · rintro rfl
    exact ⟨⟨⟨⟨⟨⟨⟨⟨⟨rfl, rfl⟩, rfl⟩, rfl⟩, rfl⟩, rfl⟩, rfl⟩, rfl⟩, rfl⟩, rfl⟩
theorem sameB_no {d f : SL} (h : d ≠ f) : sameB d f = false := by
  cases hs : sameB d f with
  | false => rfl
  | true => exact absurd ((sameB_iff d f).1 hs) h

set_option maxRecDepth 10000 in
set_option maxHeartbeats 4000000 in
theorem psame_any (d f : SL) (vo vp vl vi vo2 vp2 vl2 vi2 : Value) (w : World) (h : SlR w d vo vp vl vi) (h' : SlR w f vo2 vp2 vl2 vi2) : Calls Tryz.prog 41 #[.agg (slC d vo vp vl vi), .agg (slC f vo2 vp2 vl2 vi2)] w fun e w' => e = .returned (.bool (sameB d f)) ∧ Below w.heap.size w w' := by
  obtain ⟨oa, oc, rfl, ho, _⟩ := id h.o
  obtain ⟨oa2, oc2, rfl, _, _⟩ := id h'.o
  obtain ⟨pa, pc, rfl, hp, _⟩ := id h.p
  obtain ⟨pa2, pc2, rfl, _, _⟩ := id h'.p
  obtain ⟨la, lc, rfl, hl, _⟩ := id h.l
  obtain ⟨la2, lc2, rfl, _, _⟩ := id h'.l
  obtain ⟨ia, ic, rfl, hi, _⟩ := id h.i
  obtain ⟨ia2, ic2, rfl, _, _⟩ := id h'.i
  unfold slC
  have H62 : Hid (∀ w', Below w.heap.size w w' → Calls Tryz.prog 62 #[.slice pa d.pcs.length pc, .slice pa2 f.pcs.length pc2] w' fun e w2 => e = .returned (.bool (decide (d.pcs = f.pcs))) ∧ Below w'.heap.size w' w2) := fun w' hb => eq62g d.pcs f.pcs _ _ w' (h.below hb).p (h'.below hb).p
  have H63 : Hid (∀ w', Below w.heap.size w w' → Calls Tryz.prog 63 #[.slice oa d.ops.length oc, .slice oa2 f.ops.length oc2] w' fun e w2 => e = .returned (.bool (decide (d.ops = f.ops))) ∧ Below w'.heap.size w' w2) := fun w' hb => eq63g d.ops f.ops _ _ w' (h.below hb).o (h'.below hb).o
  have H64 : Hid (∀ w', Below w.heap.size w w' → Calls Tryz.prog 64 #[.slice la d.lits.length lc, .slice la2 f.lits.length lc2] w' fun e w2 => e = .returned (.bool (decide (d.lits = f.lits))) ∧ Below w'.heap.size w' w2) := fun w' hb => eq64g d.lits f.lits _ _ w' (h.below hb).l (h'.below hb).l
  have H65 : Hid (∀ w', Below w.heap.size w w' → Calls Tryz.prog 65 #[.slice ia d.ids.length ic, .slice ia2 f.ids.length ic2] w' fun e w2 => e = .returned (.bool (decide (d.ids = f.ids))) ∧ Below w'.heap.size w' w2) := fun w' hb => eq65g d.ids f.ids _ _ w' (h.below hb).i (h'.below hb).i
  have b1 := txt_beq d.n f.n
  have b2 := txt_beq d.low f.low
  have b3 := txt_beq d.high f.high
  have b4 := txt_beq d.deg f.deg
  obtain ⟨XN, hXN⟩ : ∃ N, txtOf d.n = N := ⟨_, rfl⟩
  obtain ⟨XD, hXD⟩ : ∃ N, txtOf d.deg = N := ⟨_, rfl⟩
  obtain ⟨XLo, hXLo⟩ : ∃ N, txtOf d.low = N := ⟨_, rfl⟩
  obtain ⟨XHi, hXHi⟩ : ∃ N, txtOf d.high = N := ⟨_, rfl⟩
  obtain ⟨YN, hYN⟩ : ∃ N, txtOf f.n = N := ⟨_, rfl⟩
  obtain ⟨YD, hYD⟩ : ∃ N, txtOf f.deg = N := ⟨_, rfl⟩
  obtain ⟨YLo, hYLo⟩ : ∃ N, txtOf f.low = N := ⟨_, rfl⟩
  obtain ⟨YHi, hYHi⟩ : ∃ N, txtOf f.high = N := ⟨_, rfl⟩
  rw [hXN, hYN] at b1
  rw [hXLo, hYLo] at b2
  rw [hXHi, hYHi] at b3
  rw [hXD, hYD] at b4
  rw [hXN, hXD, hXLo, hXHi, hYN, hYD, hYLo, hYHi]
  obtain ⟨W, hW⟩ : ∃ W, (w.alloc (.cells #[.int .i64 d.k, .string XN, .slice oa d.ops.length oc, .slice pa d.pcs.length pc, .string XD, .slice la d.lits.length lc, .slice ia d.ids.length ic, .int .i64 d.ends, .string XLo, .string XHi] 45)).alloc (.cells #[.int .i64 f.k, .string YN, .slice oa2 f.ops.length oc2, .slice pa2 f.pcs.length pc2, .string YD, .slice la2 f.lits.length lc2, .slice ia2 f.ids.length ic2, .int .i64 f.ends, .string YLo, .string YHi] 45) = W := ⟨_, rfl⟩
  have hb0 : Below w.heap.size w W := by rw [← hW]; exact ((Below.refl _ _).alloc (Nat.le_refl _) _).alloc (by simp) _
  have g0 : W.heap[w.heap.size]? = some (.cells #[.int .i64 d.k, .string XN, .slice oa d.ops.length oc, .slice pa d.pcs.length pc, .string XD, .slice la d.lits.length lc, .slice ia d.ids.length ic, .int .i64 d.ends, .string XLo, .string XHi] 45 (0, 0)) := by rw [← hW, heap_alloc_old (w.alloc _) _ (by simp)]; exact heap_alloc_new w _
  have g1 : W.heap[w.heap.size + 1]? = some (.cells #[.int .i64 f.k, .string YN, .slice oa2 f.ops.length oc2, .slice pa2 f.pcs.length pc2, .string YD, .slice la2 f.lits.length lc2, .slice ia2 f.ids.length ic2, .int .i64 f.ends, .string YLo, .string YHi] 45 (0, 0)) := by rw [← hW]; exact heap_alloc2_new w _ _
  have hl0 := (Array.getElem?_eq_some_iff.1 g0).1
  have hl1 := (Array.getElem?_eq_some_iff.1 g1).1
  have HB : Hid (Below w.heap.size w W) := hb0
  have HM : Hid (∀ w', Below W.heap.size W w' → (w'.cell? ⟨w.heap.size, 0, none⟩ = some (.int .i64 d.k) ∧ w'.cell? ⟨w.heap.size, 1, none⟩ = some (.string XN) ∧ w'.cell? ⟨w.heap.size, 2, none⟩ = some (.slice oa d.ops.length oc) ∧ w'.cell? ⟨w.heap.size, 3, none⟩ = some (.slice pa d.pcs.length pc) ∧ w'.cell? ⟨w.heap.size, 4, none⟩ = some (.string XD) ∧ w'.cell? ⟨w.heap.size, 5, none⟩ = some (.slice la d.lits.length lc) ∧ w'.cell? ⟨w.heap.size, 6, none⟩ = some (.slice ia d.ids.length ic) ∧ w'.cell? ⟨w.heap.size, 7, none⟩ = some (.int .i64 d.ends) ∧ w'.cell? ⟨w.heap.size, 8, none⟩ = some (.string XLo) ∧ w'.cell? ⟨w.heap.size, 9, none⟩ = some (.string XHi)) ∧ (w'.cell? ⟨w.heap.size + 1, 0, none⟩ = some (.int .i64 f.k) ∧ w'.cell? ⟨w.heap.size + 1, 1, none⟩ = some (.string YN) ∧ w'.cell? ⟨w.heap.size + 1, 2, none⟩ = some (.slice oa2 f.ops.length oc2) ∧ w'.cell? ⟨w.heap.size + 1, 3, none⟩ = some (.slice pa2 f.pcs.length pc2) ∧ w'.cell? ⟨w.heap.size + 1, 4, none⟩ = some (.string YD) ∧ w'.cell? ⟨w.heap.size + 1, 5, none⟩ = some (.slice la2 f.lits.length lc2) ∧ w'.cell? ⟨w.heap.size + 1, 6, none⟩ = some (.slice ia2 f.ids.length ic2) ∧ w'.cell? ⟨w.heap.size + 1, 7, none⟩ = some (.int .i64 f.ends) ∧ w'.cell? ⟨w.heap.size + 1, 8, none⟩ = some (.string YLo) ∧ w'.cell? ⟨w.heap.size + 1, 9, none⟩ = some (.string YHi))) := fun w' hb => by
    have f0 := (hb.block _ hl0).trans g0
    have f1 := (hb.block _ hl1).trans g1
    exact ⟨⟨cell_of f0 0, cell_of f0 1, cell_of f0 2, cell_of f0 3, cell_of f0 4, cell_of f0 5, cell_of f0 6, cell_of f0 7, cell_of f0 8, cell_of f0 9⟩, cell_of f1 0, cell_of f1 1, cell_of f1 2, cell_of f1 3, cell_of f1 4, cell_of f1 5, cell_of f1 6, cell_of f1 7, cell_of f1 8, cell_of f1 9⟩
  obtain ⟨⟨m0, m1, m2, m3, m4, m5, m6, m7, m8, m9⟩, n0, n1, n2, n3, n4, n5, n6, n7, n8, n9⟩ := HM.out W (Below.refl _ _)
  have HF : Hid (d ≠ f → sameB d f = false) := sameB_no
  have HT : Hid (d = f → sameB d f = true) := (sameB_iff d f).2
  clear hb0 g0 g1 hl0 hl1 h h' hXN hXD hXLo hXHi hYN hYD hYLo hYHi
  by_cases hk : d.k = f.k
  case neg =>
    have hkB : (d.k == f.k) = false := by simpa using hk
    have HNo : Hid (sameB d f = false) := HF.out fun e => hk (by rw [e])
    clear hk
    go_enter Tryz.func41, Tryz.ntmps41
    dsimp only [List.append]
    go_wp2_with fail
    go_ret
    exact ⟨by rw [HNo.out]; rfl, HB.out⟩
  have hkB : (d.k == f.k) = true := by simpa using hk
  have Hhk : Hid (d.k = f.k) := hk
  clear hk
  by_cases hn : d.n = f.n
  case neg =>
    rw [decide_eq_false hn] at b1
    have HNo : Hid (sameB d f = false) := HF.out fun e => hn (by rw [e])
    clear hn
    go_enter Tryz.func41, Tryz.ntmps41
    dsimp only [List.append]
    go_wp2_with fail
    go_ret
    exact ⟨by rw [HNo.out]; rfl, HB.out⟩
  rw [decide_eq_true hn] at b1
  have Hhn : Hid (d.n = f.n) := hn
  clear hn
  by_cases he : d.ends = f.ends
  case neg =>
    have heB : (d.ends == f.ends) = false := by simpa using he
    have HNo : Hid (sameB d f = false) := HF.out fun e => he (by rw [e])
    clear he
    go_enter Tryz.func41, Tryz.ntmps41
    dsimp only [List.append]
    go_wp2_with fail
    go_ret
    exact ⟨by rw [HNo.out]; rfl, HB.out⟩
  have heB : (d.ends == f.ends) = true := by simpa using he
  have Hhe : Hid (d.ends = f.ends) := he
  clear he
  by_cases hlo : d.low = f.low
  case neg =>
    rw [decide_eq_false hlo] at b2
    have HNo : Hid (sameB d f = false) := HF.out fun e => hlo (by rw [e])
    clear hlo
    go_enter Tryz.func41, Tryz.ntmps41
    dsimp only [List.append]
    go_wp2_with fail
    go_ret
    exact ⟨by rw [HNo.out]; rfl, HB.out⟩
  rw [decide_eq_true hlo] at b2
  have Hhlo : Hid (d.low = f.low) := hlo
  clear hlo
  by_cases hhi : d.high = f.high
  case neg =>
    rw [decide_eq_false hhi] at b3
    have HNo : Hid (sameB d f = false) := HF.out fun e => hhi (by rw [e])
    clear hhi
    go_enter Tryz.func41, Tryz.ntmps41
    dsimp only [List.append]
    go_wp2_with fail
    go_ret
    exact ⟨by rw [HNo.out]; rfl, HB.out⟩
  rw [decide_eq_true hhi] at b3
  have Hhhi : Hid (d.high = f.high) := hhi
  clear hhi
  by_cases hdg : d.deg = f.deg
  case neg =>
    rw [decide_eq_false hdg] at b4
    have HNo : Hid (sameB d f = false) := HF.out fun e => hdg (by rw [e])
    clear hdg
    go_enter Tryz.func41, Tryz.ntmps41
    dsimp only [List.append]
    go_wp2_with fail
    go_ret
    exact ⟨by rw [HNo.out]; rfl, HB.out⟩
  rw [decide_eq_true hdg] at b4
  have Hhdg : Hid (d.deg = f.deg) := hdg
  clear hdg
  go_enter Tryz.func41, Tryz.ntmps41
  dsimp only [List.append]
  go_wp2_with fail
  refine calls_at (H62.out W HB.out) (by with_reducible rfl) (by with_reducible rfl) ?_
  rintro e w1 ⟨rfl, hb1⟩
  have HB1 : Hid (Below W.heap.size W w1) := hb1
  clear hb1 m0 m1 m2 m3 m4 m5 m6 m7 m8 m9 n0 n1 n2 n3 n4 n5 n6 n7 n8 n9
  by_cases hpcs : d.pcs = f.pcs
  case neg =>
    rw [decide_eq_false hpcs]
    have HNo : Hid (sameB d f = false) := HF.out fun e => hpcs (by rw [e])
    clear hpcs
    go_wp2_with fail
    go_ret
    exact ⟨by rw [HNo.out]; rfl, HB.out.trans (HB1.out.mono HB.out.size)⟩
  rw [decide_eq_true hpcs]
  have Hhpcs : Hid (d.pcs = f.pcs) := hpcs
  clear hpcs
  obtain ⟨⟨_, _, ma, _, _, _, _, _, _, _⟩, _, _, mb, _, _, _, _, _, _, _⟩ := HM.out w1 HB1.out
  go_wp2_with fail
  refine calls_at (H63.out w1 (HB.out.trans (HB1.out.mono HB.out.size))) (by with_reducible rfl) (by with_reducible rfl) ?_
  rintro e w2 ⟨rfl, hb2⟩
  have HB2 : Hid (Below W.heap.size W w2) := bl_next HB1.out hb2
  clear hb2
  clear ma mb
  by_cases hops : d.ops = f.ops
  case neg =>
    rw [decide_eq_false hops]
    have HNo : Hid (sameB d f = false) := HF.out fun e => hops (by rw [e])
    clear hops
    go_wp2_with fail
    go_ret
    exact ⟨by rw [HNo.out]; rfl, HB.out.trans (HB2.out.mono HB.out.size)⟩
  rw [decide_eq_true hops]
  have Hhops : Hid (d.ops = f.ops) := hops
  clear hops
  obtain ⟨⟨_, _, _, _, _, ma, _, _, _, _⟩, _, _, _, _, _, mb, _, _, _, _⟩ := HM.out w2 HB2.out
  go_wp2_with fail
  refine calls_at (H64.out w2 (HB.out.trans (HB2.out.mono HB.out.size))) (by with_reducible rfl) (by with_reducible rfl) ?_
  rintro e w3 ⟨rfl, hb3⟩
  have HB3 : Hid (Below W.heap.size W w3) := bl_next HB2.out hb3
  clear hb3
  clear ma mb
  by_cases hlits : d.lits = f.lits
  case neg =>
    rw [decide_eq_false hlits]
    have HNo : Hid (sameB d f = false) := HF.out fun e => hlits (by rw [e])
    clear hlits
    go_wp2_with fail
    go_ret
    exact ⟨by rw [HNo.out]; rfl, HB.out.trans (HB3.out.mono HB.out.size)⟩
  rw [decide_eq_true hlits]
  have Hhlits : Hid (d.lits = f.lits) := hlits
  clear hlits
  obtain ⟨⟨_, _, _, _, _, _, ma, _, _, _⟩, _, _, _, _, _, _, mb, _, _, _⟩ := HM.out w3 HB3.out
  go_wp2_with fail
  refine calls_at (H65.out w3 (HB.out.trans (HB3.out.mono HB.out.size))) (by with_reducible rfl) (by with_reducible rfl) ?_
  rintro e w4 ⟨rfl, hb4⟩
  have HB4 : Hid (Below W.heap.size W w4) := bl_next HB3.out hb4
  clear hb4
  clear ma mb
  by_cases hids : d.ids = f.ids
  case neg =>
    rw [decide_eq_false hids]
    have HNo : Hid (sameB d f = false) := HF.out fun e => hids (by rw [e])
    clear hids
    go_wp2_with fail
    go_ret
    exact ⟨by rw [HNo.out]; rfl, HB.out.trans (HB4.out.mono HB.out.size)⟩
  rw [decide_eq_true hids]
  have Hhids : Hid (d.ids = f.ids) := hids
  clear hids
  go_wp2_with fail
  have HYes : Hid (sameB d f = true) := HT.out (by
    obtain ⟨a1, a2, a3, a4, a5, a6, a7, a8, a9, a10⟩ := d
    obtain ⟨b1, b2, b3, b4, b5, b6, b7, b8, b9, b10⟩ := f
    have e1 := Hhk.out; have e2 := Hhn.out; have e3 := Hhe.out; have e4 := Hhlo.out; have e5 := Hhhi.out; have e6 := Hhdg.out; have e7 := Hhpcs.out; have e8 := Hhops.out; have e9 := Hhlits.out; have e10 := Hhids.out
    simp only [] at e1 e2 e3 e4 e5 e6 e7 e8 e9 e10
    rw [e1, e2, e3, e4, e5, e6, e7, e8, e9, e10])
  go_ret
  exact ⟨by rw [HYes.out]; rfl, HB.out.trans (HB4.out.mono HB.out.size)⟩
end Go.Proofs.YtibbnijicdijnaaGreatDoor

namespace Go.Proofs.YtibbnijicdijnaaGreatDoor
open Go.RowKit

set_option maxRecDepth 10000 in
theorem wrt_nothing : Wrt 82 fun _ => [] := by
  intro B b l d vo vp vl vi w h hs hi hl hBw hg hB
  have hbW : Below w.heap.size w (w.alloc (.cells (slC d vo vp vl vi) 45)) := (Below.refl _ _).alloc (Nat.le_refl _) _
  have HE : Hid (PageAt B b l (w.alloc (.cells (slC d vo vp vl vi) 45)) ∧ Kq B w (w.alloc (.cells (slC d vo vp vl vi) 45))) := ⟨page_below h hbW, Kq.of_below hbW hBw⟩
  have HE2 : Hid (PageAt B b l w ∧ Kq B w w) := ⟨h, Kq.refl _ _⟩
  obtain ⟨ao, co, rfl, _, _⟩ := hs.o
  obtain ⟨ap, cp, rfl, _, _⟩ := hs.p
  obtain ⟨al, cl, rfl, _, _⟩ := hs.l
  obtain ⟨ai, ci, rfl, _, _⟩ := hs.i
  unfold slC at HE
  unfold WrO slC
  clear h hs hi hl hg hbW
  go_enter Tryz.func82, Tryz.ntmps82
  go_wp2_with fail
  go_end0
  first | exact ⟨rfl, HE.out⟩ | exact ⟨rfl, HE2.out⟩
set_option maxRecDepth 10000 in
set_option maxHeartbeats 2000000 in
theorem wrt_size : Wrt 84 fun d => [d.n] := by
  intro B b l d vo vp vl vi w h hs hi hl hBw hg hB
  obtain ⟨W, hW⟩ : ∃ W, w.alloc (.cells (slC d vo vp vl vi) 45) = W := ⟨_, rfl⟩
  have hbW : Below w.heap.size w W := by rw [← hW]; exact (Below.refl _ _).alloc (Nat.le_refl _) _
  have kW : Kq B w W := Kq.of_below hbW hBw
  have hBW : B ≤ W.heap.size := Nat.le_trans hBw hbW.size
  have gW : W.heap[w.heap.size]? = some (.cells (slC d vo vp vl vi) 45 (0, 0)) := by rw [← hW]; exact heap_alloc_new w _
  have HKW : Hid (Kq B w W) := kW
  have c0 := cell_of gW 1
  have HC : Hid (Calls Tryz.prog 80 #[.pointer (some ⟨b, 0, none⟩), .slice (some ⟨W.heap.size, 0, none⟩) 1 1] (W.alloc (.cells #[.string (txtOf d.n)] 9)) fun e w' => e = .returned (.pointer (some ⟨b, 0, none⟩)) ∧ PageAt B b (wordsP [d.n] l) w' ∧ Kq B W w') := words_one d.n W (page_below h hbW) (by simpa [tot] using hl) hBW
  obtain ⟨ao, co, rfl, _, _⟩ := hs.o
  obtain ⟨ap, cp, rfl, _, _⟩ := hs.p
  obtain ⟨al, cl, rfl, _, _⟩ := hs.l
  obtain ⟨ai, ci, rfl, _, _⟩ := hs.i
  unfold slC at hW
  unfold WrO slC
  simp only [slC] at c0
  dsimp at c0
  clear h hs hi hl hg hbW kW gW
  go_enter Tryz.func84, Tryz.ntmps84
  go_wp2_with fail
  refine calls_at HC.out (by with_reducible rfl) (by with_reducible rfl) ?_
  rintro e w2 ⟨rfl, hp2, hk2⟩
  have H2 : Hid (PageAt B b (wordsP ([d.n]) l) w2 ∧ Kq B w w2) := ⟨hp2, HKW.out.trans hk2⟩
  clear hp2 hk2
  go_wp2_with fail
  go_end0
  exact ⟨rfl, H2.out⟩
set_option maxRecDepth 10000 in
set_option maxHeartbeats 2000000 in
theorem wrt_lits : Wrt 92 fun d => d.lits.map litT := by
  intro B b l d vo vp vl vi w h hs hi hl hBw hg hB
  obtain ⟨W, hW⟩ : ∃ W, w.alloc (.cells (slC d vo vp vl vi) 45) = W := ⟨_, rfl⟩
  have hbW : Below w.heap.size w W := by rw [← hW]; exact (Below.refl _ _).alloc (Nat.le_refl _) _
  have kW : Kq B w W := Kq.of_below hbW hBw
  have hBW : B ≤ W.heap.size := Nat.le_trans hBw hbW.size
  have gW : W.heap[w.heap.size]? = some (.cells (slC d vo vp vl vi) 45 (0, 0)) := by rw [← hW]; exact heap_alloc_new w _
  have HKW : Hid (Kq B w W) := kW
  have c0 := cell_of gW 5
  have HC : Hid (Calls Tryz.prog 128 #[.pointer (some ⟨b, 0, none⟩), vl] W fun e w' => e = .returned (.pointer (some ⟨b, 0, none⟩)) ∧ PageAt B b (wordsP (d.lits.map litT) l) w' ∧ Kq B W w') := literals_any d.lits vl W (page_below h hbW) (hs.l.next kW) hl hi.l hBW (hg.kq kW hB) hB
  obtain ⟨ao, co, rfl, _, _⟩ := hs.o
  obtain ⟨ap, cp, rfl, _, _⟩ := hs.p
  obtain ⟨al, cl, rfl, _, _⟩ := hs.l
  obtain ⟨ai, ci, rfl, _, _⟩ := hs.i
  unfold slC at hW
  unfold WrO slC
  simp only [slC] at c0
  dsimp at c0
  clear h hs hi hl hg hbW kW gW
  go_enter Tryz.func92, Tryz.ntmps92
  go_wp2_with fail
  refine calls_at HC.out (by with_reducible rfl) (by with_reducible rfl) ?_
  rintro e w2 ⟨rfl, hp2, hk2⟩
  have H2 : Hid (PageAt B b (wordsP (d.lits.map litT) l) w2 ∧ Kq B w w2) := ⟨hp2, HKW.out.trans hk2⟩
  clear hp2 hk2
  go_wp2_with fail
  go_end0
  exact ⟨rfl, H2.out⟩
set_option maxRecDepth 10000 in
set_option maxHeartbeats 2000000 in
theorem wrt_del : Wrt 94 fun d => d.ids := by
  intro B b l d vo vp vl vi w h hs hi hl hBw hg hB
  obtain ⟨W, hW⟩ : ∃ W, w.alloc (.cells (slC d vo vp vl vi) 45) = W := ⟨_, rfl⟩
  have hbW : Below w.heap.size w W := by rw [← hW]; exact (Below.refl _ _).alloc (Nat.le_refl _) _
  have kW : Kq B w W := Kq.of_below hbW hBw
  have hBW : B ≤ W.heap.size := Nat.le_trans hBw hbW.size
  have gW : W.heap[w.heap.size]? = some (.cells (slC d vo vp vl vi) 45 (0, 0)) := by rw [← hW]; exact heap_alloc_new w _
  have HKW : Hid (Kq B w W) := kW
  have c0 := cell_of gW 6
  have HC : Hid (Calls Tryz.prog 80 #[.pointer (some ⟨b, 0, none⟩), vi] W fun e w' => e = .returned (.pointer (some ⟨b, 0, none⟩)) ∧ PageAt B b (wordsP d.ids l) w' ∧ Kq B W w') := words_any d.ids vi W (page_below h hbW) (hs.i.next kW) hl hBW
  obtain ⟨ao, co, rfl, _, _⟩ := hs.o
  obtain ⟨ap, cp, rfl, _, _⟩ := hs.p
  obtain ⟨al, cl, rfl, _, _⟩ := hs.l
  obtain ⟨ai, ci, rfl, _, _⟩ := hs.i
  unfold slC at hW
  unfold WrO slC
  simp only [slC] at c0
  dsimp at c0
  clear h hs hi hl hg hbW kW gW
  go_enter Tryz.func94, Tryz.ntmps94
  go_wp2_with fail
  refine calls_at HC.out (by with_reducible rfl) (by with_reducible rfl) ?_
  rintro e w2 ⟨rfl, hp2, hk2⟩
  have H2 : Hid (PageAt B b (wordsP (d.ids) l) w2 ∧ Kq B w w2) := ⟨hp2, HKW.out.trans hk2⟩
  clear hp2 hk2
  go_wp2_with fail
  go_end0
  exact ⟨rfl, H2.out⟩
end Go.Proofs.YtibbnijicdijnaaGreatDoor
