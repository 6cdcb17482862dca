/-
  Put together: PpLawW, PpReif.
-/
import Derived.Test.YtlcegpnnanhloaaGreatDoorPpCutsL
import Derived.Test.YtlcegpnnanhloaaGreatDoorJ15
import Derived.Test.YtlcegpnnanhloaaGreatDoorJ38
namespace Go.Proofs.YtlcegpnnanhloaaGreatDoor
open Go.RowKit

set_option maxRecDepth 10000 in
set_option maxHeartbeats 1000000 in
theorem placeL_any (v : Int) (n : Nat) (hn : 0 < n) (hn2 : n ≤ 1000) (w : World) : Calls Tryz.prog 26 #[.int .i64 v, .int .i64 (n : Int)] w fun e w' => e = .returned (.int .i64 (plc v n)) ∧ w' = w := by
  have h0 : ¬ (n : Int) = 0 := by omega
  have h1 := Int.tmod_lt_of_pos v (b := (n : Int)) (by omega)
  have h2 := Int.lt_tmod_of_pos v (b := (n : Int)) (by omega)
  have hw1 : IntKind.i64.wrap (v.tmod (n : Int)) = v.tmod (n : Int) := by rw [IntKind.wrap_i64]; omega
  unfold plc
  obtain ⟨t, ht⟩ : ∃ t, v.tmod (n : Int) = t := ⟨_, rfl⟩
  rw [ht] at h1 h2 hw1 ⊢
  have hw2 : IntKind.i64.wrap (t + (n : Int)) = t + (n : Int) := by rw [IntKind.wrap_i64]; omega
  by_cases hl : t < 0
  · rw [if_pos hl]
    go_enter Tryz.func26, Tryz.ntmps26
    go_wp2_with fail
    go_ret
    exact ⟨rfl, rfl⟩
  · rw [if_neg hl]
    go_enter Tryz.func26, Tryz.ntmps26
    go_wp2_with fail
    go_ret
    exact ⟨rfl, rfl⟩
/-- One value of a variable. -/
def wi1 (d : Dm) (ins : List Int) (k : Nat) : List Int := if 0 < d.all.length then [d.all.getD (if k < ins.length then (plc (ins.getD k 0) d.all.length).toNat else 0) 0] else []
def wiL (D : List Dm) (ins : List Int) : Nat → List Int
  | 0 => []
  | k + 1 => wiL D ins k ++ (match D[k]? with | some d => wi1 d ins k | none => [])
theorem wiL_len (D : List Dm) (ins : List Int) (k : Nat) : (wiL D ins k).length ≤ k := by
  induction k with
  | zero => exact Nat.le_refl _
  | succ k ih =>
    unfold wiL
    rw [List.length_append]
    have : (match D[k]? with | some d => wi1 d ins k | none => []).length ≤ 1 := by
      split
      · unfold wi1
        split <;> simp
      · simp
    omega
theorem src_int {w : World} {b : Nat} {u : Int} (h : w.heap[b]? = some (.cells #[.int .i64 u] 3 (0, 0))) : SrcAt w (.slice (some ⟨b, 0, none⟩) 1 1) 1 1 [.int .i64 u] := src_one h rfl

set_option maxRecDepth 10000 in
set_option maxHeartbeats 4000000 in
theorem within_any (B p : Nat) (nv mv : Value) (s : St) (w : World) (h : StAt B w p nv mv s) (hT : Tz w) (hs : 0 < w.heap.size) (vi : Value) (ins : List Int) (hi : IntsAt w vi ins) : Calls Tryz.prog 9 #[.pointer (some ⟨p, 0, none⟩), vi] w (VsOut (wiL s.now ins s.now.length) w) := by
  have hn := h.n32
  obtain ⟨ia, ic, rfl, hil, hic⟩ := hi
  have HVr : Hid (∀ w', Below w.heap.size w w' → Calls Tryz.prog 17 #[.pointer (some ⟨p, 0, none⟩)] w' fun e w2 => e = .returned (.int .i64 (s.now.length : Int)) ∧ w2 = w') := fun w' hb => vars_any B p nv mv s w' (h.below hb)
  have HVs : Hid (∀ w' (k : Nat) (hk : k < s.now.length), Below w.heap.size w w' → Calls Tryz.prog 18 #[.pointer (some ⟨p, 0, none⟩), .int .i64 (k : Int)] w' (VsOut s.now[k].all w')) := fun w' k hk hb => values_in B p nv mv s k hk w' (h.below hb) (hT.below hb hs)
  have HIc : Hid (∀ w' (k : Nat) (hk : k < ins.length), Below w.heap.size w w' → ∃ b off, ia = some ⟨b, off, none⟩ ∧ w'.cell? ⟨b, off + k, none⟩ = some (.int .i64 ins[k])) := fun w' k hk hb => by
    obtain ⟨b, off, e, hlt, hcl⟩ := hic (by omega)
    exact ⟨b, off, e, (hb.cell (p := ⟨b, _, none⟩) hlt).trans (hcl k hk)⟩
  have HPl : Hid (∀ (v : Int) (n : Nat) w', 0 < n → n ≤ 1000 → Calls Tryz.prog 26 #[.int .i64 v, .int .i64 (n : Int)] w' fun e w2 => e = .returned (.int .i64 (plc v n)) ∧ w2 = w') := fun v n w' h1 h2 => placeL_any v n h1 h2 w'
  have HOu : Hid (∀ v w', w'.ownsRow w.heap.size 3 1 v (wiL s.now ins s.now.length).length ((wiL s.now ins s.now.length).map (.int .i64)) → Below w.heap.size w w' → VsOut (wiL s.now ins s.now.length) w (.returned v) w') := fun v w' h1 h2 => ⟨v, rfl, h1, h2⟩
  have hile : ins.length ≤ 9223372036854775807 := hil
  clear h hT hic hs hil
  go_enter Tryz.func9, Tryz.ntmps9
  go_wp2_with fail
  go_loopw [5, 6] (fun v5 iv wr => ∃ (k : Nat) (oa : Option Addr) (oc : Nat), v5 = .slice oa (wiL s.now ins k).length oc ∧ iv = .int .i64 (k : Int) ∧ k ≤ s.now.length ∧ Hid (wr.ownsRow w.heap.size 3 1 (.slice oa (wiL s.now ins k).length oc) (wiL s.now ins k).length ((wiL s.now ins k).map (.int .i64))) ∧ Hid (Below w.heap.size w wr)) (fun _ iv _ => s.now.length - (intOf iv).toNat)
  case atStart => exact ⟨0, none, 0, rfl, rfl, Nat.zero_le _, World.ownsRow_nil _ _ _ _, Below.refl _ _⟩
  case round =>
  obtain ⟨k, oa, oc, rfl, rfl, hk, HO, HBr⟩ := hrel
  have HVk : Hid (Calls Tryz.prog 17 #[.pointer (some ⟨p, 0, none⟩)] wr fun e w2 => e = .returned (.int .i64 (s.now.length : Int)) ∧ w2 = wr) := HVr.out wr HBr.out
  by_cases hkn : k < s.now.length
  · have hkI : (k : Int) < (s.now.length : Int) := by omega
    have hAl := dAll_len s.now[k]
    have HNx : Hid (wiL s.now ins (k + 1) = wiL s.now ins k ++ wi1 s.now[k] ins k) := by
      show _ = _
      rw [wiL, List.getElem?_eq_getElem hkn]
    have HVsk := HVs.out wr k hkn HBr.out
    have hwl := wiL_len s.now ins k
    unfold wi1 at HNx
    obtain ⟨A, hA⟩ : ∃ A, s.now[k].all = A := ⟨_, rfl⟩
    rw [hA] at hAl HNx HVsk
    have HVsk : Hid (Calls Tryz.prog 18 #[.pointer (some ⟨p, 0, none⟩), .int .i64 (k : Int)] wr (VsOut A wr)) := HVsk
    obtain ⟨T, hTt⟩ : ∃ T, wiL s.now ins k = T := ⟨_, rfl⟩
    rw [hTt] at HNx HO hwl ⊢
    obtain ⟨N, hN⟩ : ∃ N, T.length = N := ⟨_, rfl⟩
    rw [hN] at HO hwl ⊢
    have HTN : Hid (T.length = N) := hN
    clear hA hTt hN
    by_cases hv0 : 0 < A.length
    case neg =>
      have hA0 : A.length = 0 := by omega
      have HN2 : Hid (wiL s.now ins (k + 1) = T) := by show _ = _; rw [HNx.out, if_neg hv0, List.append_nil]
      by_cases hki : (k : Int) < (ins.length : Int) <;>
      · go_wp2_with (first | (go_at_call 17; refine calls_at HVk.out (by with_reducible rfl) (by with_reducible rfl) ?_; rintro e w1 ⟨rfl, hw1⟩; rw [hw1]; clear hw1) | (go_at_call 18; refine calls_at HVsk.out (by with_reducible rfl) (by with_reducible rfl) ?_; rintro e w3 ⟨v7, rfl, ho3, hb3⟩; (obtain ⟨va, vcap, rfl⟩ := own_slice ho3)))
        go_roundw
        case rel => exact ⟨k + 1, oa, oc, by rw [HN2.out, HTN.out], by go_num, hkn, (by show World.ownsRow _ _ _ _ _ _ _; rw [HN2.out, HTN.out]; exact own_below HO.out hb3), bl_next HBr.out hb3⟩
        case measure => simp [intOf]; omega
    case pos =>
      have hA0 : (0 : Int) < (A.length : Int) := by omega
      have HCe : Hid (∀ (w3 : World) (va : Option Addr) (vcap : Nat), w3.ownsRow wr.heap.size 3 1 (.slice va A.length vcap) A.length (A.map (.int .i64)) → ∃ g, va = some ⟨g, 0, none⟩ ∧ ∀ j (hj : j < A.length), w3.cell? ⟨g, j, none⟩ = some (.int .i64 A[j])) := fun w3 va vcap ho => by
        rcases own_cells ho with ⟨_, hn⟩ | ⟨g, c2, hv, _, _, _, hc⟩
        · omega
        · injection hv with e1 _ _
          refine ⟨g, e1, fun j hj => hc j _ ?_⟩
          rw [List.getElem?_map, List.getElem?_eq_getElem hj]
          rfl
      have HV2 : Hid (∀ (z : Int) w3, Below wr.heap.size wr w3 → ∃ V, w3.alloc (.cells #[.int .i64 z] 3) = V ∧ Hid (SrcAt V (.slice (some ⟨w3.heap.size, 0, none⟩) 1 1) 1 1 [.int .i64 z]) ∧ Hid (V.ownsRow w.heap.size 3 1 (.slice oa N oc) N (T.map (.int .i64))) ∧ Hid (Below w.heap.size w V)) := fun z w3 hb3 => by
        obtain ⟨V, hV⟩ : ∃ V, w3.alloc (.cells #[.int .i64 z] 3) = V := ⟨_, rfl⟩
        have hbV : Below w3.heap.size w3 V := by rw [← hV]; exact (Below.refl _ _).alloc (Nat.le_refl _) _
        have gV : V.heap[w3.heap.size]? = some (.cells #[.int .i64 z] 3 (0, 0)) := by rw [← hV]; exact heap_alloc_new w3 _
        exact ⟨V, hV, src_int gV, own_below (own_below HO.out hb3) hbV, bl_next (bl_next HBr.out hb3) hbV⟩
      have HEnd : Hid (∀ z, wiL s.now ins (k + 1) = T ++ [z] → ∀ (w4 : World) aa4 ac4, w4.ownsRow w.heap.size 3 1 (.slice aa4 (N + 1) ac4) (N + 1) (T.map (.int .i64) ++ [.int .i64 z]) → (wiL s.now ins (k + 1)).length = N + 1 ∧ w4.ownsRow w.heap.size 3 1 (.slice aa4 (N + 1) ac4) (N + 1) ((wiL s.now ins (k + 1)).map (.int .i64))) := fun z hz w4 aa4 ac4 ho => by
        rw [hz, List.length_append, HTN.out, List.map_append]
        exact ⟨rfl, ho⟩
      by_cases hki : k < ins.length
      · have hkiI : (k : Int) < (ins.length : Int) := by omega
        obtain ⟨j, hj⟩ : ∃ j : Nat, plc (ins.getD k 0) A.length = (j : Int) := ⟨(plc (ins.getD k 0) A.length).toNat, by have := plc_in (ins.getD k 0) A.length hA0; omega⟩
        have hjA : j < A.length := by have := plc_in (ins.getD k 0) A.length hA0; omega
        have hjI : (j : Int) < (A.length : Int) := by omega
        have HPk := HPl.out (ins.getD k 0) A.length
        rw [hj] at HPk
        have hz1 : wiL s.now ins (k + 1) = T ++ [A[j]] := by rw [HNx.out, if_pos hv0, if_pos hki, hj, Int.toNat_natCast, List.getD_eq_getElem?_getD, List.getElem?_eq_getElem hjA]; rfl
        have hgd : ins.getD k 0 = ins[k] := by rw [List.getD_eq_getElem?_getD, List.getElem?_eq_getElem hki]; rfl
        rw [hgd] at HPk
        obtain ⟨u, hu⟩ : ∃ u, ins[k] = u := ⟨_, rfl⟩
        have HIk := fun w' hb => HIc.out w' k hki hb
        rw [hu] at HPk HIk
        obtain ⟨ib, io, rfl, _⟩ := HIk wr HBr.out
        have HIk2 : Hid (∀ w', Below wr.heap.size wr w' → w'.cell? ⟨ib, io + k, none⟩ = some (.int .i64 u)) := fun w' hb => by
          obtain ⟨b', o', e, hc⟩ := HIk w' (bl_next HBr.out hb)
          injection e with e
          injection e with e1 e2
          subst e1 e2
          exact hc
        have HPk2 : Hid (∀ w', Calls Tryz.prog 26 #[.int .i64 u, .int .i64 (A.length : Int)] w' fun e w2 => e = .returned (.int .i64 (j : Int)) ∧ w2 = w') := fun w' => HPk w' hv0 (by omega)
        obtain ⟨z, hz⟩ : ∃ z, A[j] = z := ⟨_, rfl⟩
        rw [hz] at hz1
        have HZ1 : Hid (wiL s.now ins (k + 1) = T ++ [z]) := hz1
        have HCj : Hid (∀ (w3 : World) (va : Option Addr) (vcap : Nat), w3.ownsRow wr.heap.size 3 1 (.slice va A.length vcap) A.length (A.map (.int .i64)) → ∃ g, va = some ⟨g, 0, none⟩ ∧ w3.cell? ⟨g, j, none⟩ = some (.int .i64 z)) := fun w3 va vcap ho => by
          obtain ⟨g, e, hc⟩ := HCe.out w3 va vcap ho
          exact ⟨g, e, by rw [← hz]; exact hc j hjA⟩
        clear hj HPk hz1 hgd hu HIk hz HCe HNx
        go_wp2_with (first | (go_at_call 17; refine calls_at HVk.out (by with_reducible rfl) (by with_reducible rfl) ?_; rintro e w1 ⟨rfl, hw1⟩; rw [hw1]; clear hw1) | (go_at_call 18; refine calls_at HVsk.out (by with_reducible rfl) (by with_reducible rfl) ?_; rintro e w3 ⟨v7, rfl, ho3, hb3⟩; (obtain ⟨va, vcap, rfl⟩ := own_slice ho3); (obtain ⟨g7, rfl, cj⟩ := HCj.out w3 va vcap ho3); (obtain ⟨V, hV, HSc, HOV, HBV⟩ := HV2.out z w3 hb3); (have fi := HIk2.out w3 hb3); clear hb3 ho3) | (go_at_call 26; refine calls_at (HPk2.out _) (by with_reducible rfl) (by with_reducible rfl) ?_; rintro e w1 ⟨rfl, hw1⟩; rw [hw1]; clear hw1) | (at_builtin; (try rw [hV]); refine append_src V rfl (.tmp 37) (.tmp 42) 28 3 (.int .i64 0) 1 8 rfl und28 info3 rfl (by decide) w.heap.size _ _ N 1 _ [.int .i64 z] (by rfl) (by rfl) HOV.out HSc.out (by unfold maxLen; omega) (by omega) HBV.out.size ?_; intro v4 w4 g1 g2 g3; (obtain ⟨aa4, ac4, rfl⟩ := own_slice g1)))
        go_roundw
        case rel =>
          obtain ⟨e1, e2⟩ := HEnd.out z HZ1.out w4 aa4 ac4 g1
          exact ⟨k + 1, aa4, ac4, by rw [e1], by go_num, hkn, (by show World.ownsRow _ _ _ _ _ _ _; rw [e1]; exact e2), HBV.out.grown g2 HBV.out.size (fun g hg => (HOV.out.lt g hg).1)⟩
        case measure => simp [intOf]; omega
      · have hkiI : ¬ (k : Int) < (ins.length : Int) := by omega
        have hz1 : wiL s.now ins (k + 1) = T ++ [A[0]] := by rw [HNx.out, if_pos hv0, if_neg hki, List.getD_eq_getElem?_getD, List.getElem?_eq_getElem hv0]; rfl
        obtain ⟨z, hz⟩ : ∃ z, A[0] = z := ⟨_, rfl⟩
        rw [hz] at hz1
        have HZ1 : Hid (wiL s.now ins (k + 1) = T ++ [z]) := hz1
        have HCj : Hid (∀ (w3 : World) (va : Option Addr) (vcap : Nat), w3.ownsRow wr.heap.size 3 1 (.slice va A.length vcap) A.length (A.map (.int .i64)) → ∃ g, va = some ⟨g, 0, none⟩ ∧ w3.cell? ⟨g, 0, none⟩ = some (.int .i64 z)) := fun w3 va vcap ho => by
          obtain ⟨g, e, hc⟩ := HCe.out w3 va vcap ho
          exact ⟨g, e, by rw [← hz]; exact hc 0 hv0⟩
        clear hz1 hz HCe HNx
        go_wp2_with (first | (go_at_call 17; refine calls_at HVk.out (by with_reducible rfl) (by with_reducible rfl) ?_; rintro e w1 ⟨rfl, hw1⟩; rw [hw1]; clear hw1) | (go_at_call 18; refine calls_at HVsk.out (by with_reducible rfl) (by with_reducible rfl) ?_; rintro e w3 ⟨v7, rfl, ho3, hb3⟩; (obtain ⟨va, vcap, rfl⟩ := own_slice ho3); (obtain ⟨g7, rfl, cj⟩ := HCj.out w3 va vcap ho3); (obtain ⟨V, hV, HSc, HOV, HBV⟩ := HV2.out z w3 hb3); clear hb3 ho3) | (at_builtin; (try rw [hV]); refine append_src V rfl (.tmp 37) (.tmp 42) 28 3 (.int .i64 0) 1 8 rfl und28 info3 rfl (by decide) w.heap.size _ _ N 1 _ [.int .i64 z] (by rfl) (by rfl) HOV.out HSc.out (by unfold maxLen; omega) (by omega) HBV.out.size ?_; intro v4 w4 g1 g2 g3; (obtain ⟨aa4, ac4, rfl⟩ := own_slice g1)))
        go_roundw
        case rel =>
          obtain ⟨e1, e2⟩ := HEnd.out z HZ1.out w4 aa4 ac4 g1
          exact ⟨k + 1, aa4, ac4, by rw [e1], by go_num, hkn, (by show World.ownsRow _ _ _ _ _ _ _; rw [e1]; exact e2), HBV.out.grown g2 HBV.out.size (fun g hg => (HOV.out.lt g hg).1)⟩
        case measure => simp [intOf]; omega
  · have hke : k = s.now.length := by omega
    subst hke
    have hkI : ¬ (s.now.length : Int) < (s.now.length : Int) := by omega
    go_wp2_with (go_at_call 17; refine calls_at HVk.out (by with_reducible rfl) (by with_reducible rfl) ?_; rintro e w1 ⟨rfl, hw1⟩; rw [hw1]; clear hw1)
    go_ret
    exact HOu.out _ _ HO.out HBr.out
end Go.Proofs.YtlcegpnnanhloaaGreatDoor

namespace Go.Proofs.YtlcegpnnanhloaaGreatDoor
open Go.RowKit

/-- The rule of Reif, behind its test. -/
def rf3Q (D : List Dm) (cs : List Int) (k : Int) (x : Nat) (Q : List Sq) : List Sq :=
  if k < leastZ false (cs.zip D) then keepQ (if -(leastZ true (cs.zip D)) ≤ k then keepQ (keepQ Q x 0 1) x 1 1 else keepQ Q x 0 1) x 0 0 else (if -(leastZ true (cs.zip D)) ≤ k then keepQ (keepQ Q x 0 1) x 1 1 else keepQ Q x 0 1)
def reifQ (D : List Dm) (c : Md.Cn) (Q : List Sq) : Option (List Sq) :=
  if (dAt D c.x).has 0 = false ∧ (dAt D c.x).has 1 = false then none
  else if (dAt D c.x).one = false then some (rf3Q D (coefL c.terms D.length) c.k c.x.toNat Q)
  else if (dAt D c.x).lo = 1 then atMostQ false D (coefL c.terms D.length) c.k (rf3Q D (coefL c.terms D.length) c.k c.x.toNat Q)
  else atMostQ true D (coefL c.terms D.length) (c.k + 1) (rf3Q D (coefL c.terms D.length) c.k c.x.toNat Q)
theorem RfC.of {N lp p B : Nat} {nv mv : Value} {s : St} {g : Nat} {Q : List Sq} {a0 a1 a2 a3 a4 a5 a6 a7 a8 a9 : Value} {X w' : World} (hN : X.heap[N]? = some (.cells #[a0, a1, a2, a3, a4, a5, a6, a7, a8, a9] 31 (0, 0))) (hL : LfQ B lp g p nv mv s Q X) (hk : Kq B X w') : w'.cell? ⟨N, 2, none⟩ = some a2 ∧ w'.cell? ⟨N, 3, none⟩ = some a3 ∧ w'.cell? ⟨N, 5, none⟩ = some a5 ∧ w'.cell? ⟨lp, 0, none⟩ = some (.pointer (some ⟨p, 0, none⟩)) := by
  have h := hk.block hN (by decide) (by decide)
  exact ⟨cell_of h 2, cell_of h 3, cell_of h 5, hL.box hk⟩

set_option maxRecDepth 10000 in
set_option maxHeartbeats 4000000 in
theorem reif_any (B lp g p : Nat) (nv mv : Value) (s : St) (Q : List Sq) (w : World) (h : LfQ B lp g p nv mv s Q w) (c : Md.Cn) (vt vx vb vr : Value) (hC : CnK B w c vt vx vb vr) (hx : 0 ≤ c.x ∧ c.x < (s.now.length : Int)) (hl : c.terms.length ≤ 64) (hc : ∀ q ∈ c.terms, -1000000 ≤ q.1 ∧ q.1 ≤ 1000000) (htx : ∀ q ∈ c.terms, 0 ≤ q.2 ∧ q.2 < (s.now.length : Int)) (hk : -1000000000 ≤ c.k ∧ c.k ≤ 1000000000) : Calls Tryz.prog 50 #[.pointer (some ⟨lp, 0, none⟩), cnVal c vt vx vb vr] w (RlOut B lp g p nv mv s (reifQ s.now c Q) w) := by
  have hBs := h.size
  obtain ⟨x, hxe, hxn⟩ : ∃ x : Nat, c.x = (x : Int) ∧ x < s.now.length := ⟨c.x.toNat, by omega, by omega⟩
  obtain ⟨ta, tc, rfl, _⟩ := hC.at.t.form
  obtain ⟨W, hW⟩ : ∃ W, w.alloc (.cells #[.int .i64 c.kind, .int .i64 c.op, .slice ta c.terms.length tc, .int .i64 c.k, .int .i64 c.v, .int .i64 (x : Int), .int .i64 c.y, vx, vb, vr] 31) = W := ⟨_, rfl⟩
  have hb0 : Below w.heap.size w W := by rw [← hW]; exact (Below.refl _ _).alloc (Nat.le_refl _) _
  have g0 : W.heap[w.heap.size]? = some (.cells #[.int .i64 c.kind, .int .i64 c.op, .slice ta c.terms.length tc, .int .i64 c.k, .int .i64 c.v, .int .i64 (x : Int), .int .i64 c.y, vx, vb, vr] 31 (0, 0)) := by rw [← hW]; exact heap_alloc_new w _
  have HLW : Hid (LfQ B lp g p nv mv s Q W) := h.below hb0
  have HKW : Hid (Kq B w W) := Kq.of_below hb0 hBs
  have HG : Hid (∀ w', Kq B W w' → w'.cell? ⟨w.heap.size, 2, none⟩ = some (.slice ta c.terms.length tc) ∧ w'.cell? ⟨w.heap.size, 3, none⟩ = some (.int .i64 c.k) ∧ w'.cell? ⟨w.heap.size, 5, none⟩ = some (.int .i64 (x : Int)) ∧ w'.cell? ⟨lp, 0, none⟩ = some (.pointer (some ⟨p, 0, none⟩))) := fun w' hk => RfC.of g0 HLW.out hk
  have HTm : Hid (∀ w', Kq B W w' → TermsAt w' (.slice ta c.terms.length tc) c.terms) := fun w' hk => (hC w' ((hb0.mono hBs).trans hk.below)).t
  have HCf : Hid (∀ w' Q', LfQ B lp g p nv mv s Q' w' → Kq B W w' → Calls Tryz.prog 78 #[.pointer (some ⟨lp, 0, none⟩), .slice ta c.terms.length tc] w' (CfOut B c.terms s.now.length w')) := fun w' Q' hL hk => coefs_any B lp g p nv mv s Q' w' hL _ c.terms (HTm.out w' hk) hl hc htx
  have HAm : Hid (∀ (t : Bool) (kk : Int) (w' : World) (Q' : List Sq) (v : Value), LfQ B lp g p nv mv s Q' w' → IntsK B w' v (coefL c.terms s.now.length) → Calls Tryz.prog 80 #[.agg #[.pointer (some ⟨lp, 0, none⟩), .bool t], v, .int .i64 kk] w' (RlOut B lp g p nv mv s (atMostQ t s.now (coefL c.terms s.now.length) kk Q') w')) := fun t kk w' Q' v hL hI => atMost_any B lp g p nv mv s Q' t w' hL v _ hI (coefL_len _ _) (coef_mem hc hl) kk
  have HLs : Hid (∀ (t : Bool) (w' : World) (Q' : List Sq) (v : Value), LfQ B lp g p nv mv s Q' w' → IntsK B w' v (coefL c.terms s.now.length) → Calls Tryz.prog 91 #[.agg #[.pointer (some ⟨lp, 0, none⟩), .bool t], v] w' fun e w2 => e = .returned (.int .i64 (leastZ t ((coefL c.terms s.now.length).zip s.now))) ∧ Below w'.heap.size w' w2) := fun t w' Q' v hL hI => least_any B lp g p nv mv s Q' t w' hL v _ hI.at (coefL_len _ _) (coef_mem hc hl)
  have HU : Hid (∀ w', Calls Tryz.prog 79 #[.pointer (some ⟨lp, 0, none⟩)] w' fun e w2 => e = .returned (.agg #[.pointer (some ⟨lp, 0, none⟩), .bool false]) ∧ Below w'.heap.size w' w2) := fun w' => upright_any lp w'
  have HTn : Hid (∀ w', Calls Tryz.prog 81 #[.pointer (some ⟨lp, 0, none⟩)] w' fun e w2 => e = .returned (.agg #[.pointer (some ⟨lp, 0, none⟩), .bool true]) ∧ Below w'.heap.size w' w2) := fun w' => turnedL_any lp w'
  have HHs : Hid (∀ (v : Int) w', Kq B W w' → Calls Tryz.prog 87 #[.pointer (some ⟨p, 0, none⟩), .int .i64 (x : Int), .int .i64 v] w' fun e w2 => e = .returned (.bool (s.now[x].has v)) ∧ Below w'.heap.size w' w2) := fun v w' hk => HLW.out.hass x hxn v hk.below
  have HOn : Hid (∀ w' Q', LfQ B lp g p nv mv s Q' w' → Calls Tryz.prog 82 #[.pointer (some ⟨lp, 0, none⟩), .int .i64 (x : Int)] w' fun e w2 => e = .returned (.tuple #[.int .i64 (oneV s.now[x]), .bool s.now[x].one]) ∧ Below w'.heap.size w' w2) := fun w' Q' hL => hL.one x hxn
  have HKp : Hid (∀ w' Q' (a b : Int), LfQ B lp g p nv mv s Q' w' → Calls Tryz.prog 90 #[.pointer (some ⟨lp, 0, none⟩), .int .i64 (x : Int), .agg #[.int .i64 a, .int .i64 b]] w' (KqOut B lp g p nv mv s (keepQ Q' x a b) w')) := fun w' Q' a b hL => hL.keep x hxn a b
  have HJu : Hid (∀ (v : Int) w', Calls Tryz.prog 92 #[.int .i64 v] w' fun e w2 => e = .returned (.agg #[.int .i64 v, .int .i64 v]) ∧ Below w'.heap.size w' w2) := fun v w' => just_any v w'
  have hzb : ∀ t, -4096000000000000000 ≤ leastZ t ((coefL c.terms s.now.length).zip s.now) ∧ leastZ t ((coefL c.terms s.now.length).zip s.now) ≤ 4096000000000000000 := fun t => by
    have hg := h.good
    have hn := h.n32
    have := leastZ_bdk t ((coefL c.terms s.now.length).zip s.now) ((coefL c.terms s.now.length).zip s.now).length (fun z hz => by
      have h1 := coef_mem (n := s.now.length) hc hl z.1 (List.of_mem_zip hz).1
      exact ⟨h1.1, h1.2, hg z.2 (List.of_mem_zip hz).2⟩) (by rw [List.length_zip, coefL_len]; omega)
    rwa [List.take_length] at this
  have HQ : Hid (reifQ s.now c Q = if s.now[x].has 0 = false ∧ s.now[x].has 1 = false then none else if s.now[x].one = false then some (rf3Q s.now (coefL c.terms s.now.length) c.k x Q) else if s.now[x].lo = 1 then atMostQ false s.now (coefL c.terms s.now.length) c.k (rf3Q s.now (coefL c.terms s.now.length) c.k x Q) else atMostQ true s.now (coefL c.terms s.now.length) (c.k + 1) (rf3Q s.now (coefL c.terms s.now.length) c.k x Q)) := by
    show _ = _
    unfold reifQ
    rw [hxe, dAt_get hxn, Int.toNat_natCast]
  have hb1 := hzb false
  have hb2 := hzb true
  have HR3 : Hid (rf3Q s.now (coefL c.terms s.now.length) c.k x Q = if c.k < leastZ false ((coefL c.terms s.now.length).zip s.now) then keepQ (if -(leastZ true ((coefL c.terms s.now.length).zip s.now)) ≤ c.k then keepQ (keepQ Q x 0 1) x 1 1 else keepQ Q x 0 1) x 0 0 else (if -(leastZ true ((coefL c.terms s.now.length).zip s.now)) ≤ c.k then keepQ (keepQ Q x 0 1) x 1 1 else keepQ Q x 0 1)) := rfl
  obtain ⟨Q3, hQ3⟩ : ∃ Q3, rf3Q s.now (coefL c.terms s.now.length) c.k x Q = Q3 := ⟨_, rfl⟩
  rw [hQ3] at HQ HR3
  have HL1 := HLs.out true
  have HL0 := HLs.out false
  obtain ⟨l1, hl1⟩ : ∃ l, leastZ true ((coefL c.terms s.now.length).zip s.now) = l := ⟨_, rfl⟩
  obtain ⟨l0, hl0⟩ : ∃ l, leastZ false ((coefL c.terms s.now.length).zip s.now) = l := ⟨_, rfl⟩
  rw [hl1] at HL1 HR3 hb2
  rw [hl0] at HL0 HR3 hb1
  have HLt : Hid (∀ (w' : World) (Q' : List Sq) (v : Value), LfQ B lp g p nv mv s Q' w' → IntsK B w' v (coefL c.terms s.now.length) → Calls Tryz.prog 91 #[.agg #[.pointer (some ⟨lp, 0, none⟩), .bool true], v] w' fun e w2 => e = .returned (.int .i64 l1) ∧ Below w'.heap.size w' w2) := HL1
  have HLf : Hid (∀ (w' : World) (Q' : List Sq) (v : Value), LfQ B lp g p nv mv s Q' w' → IntsK B w' v (coefL c.terms s.now.length) → Calls Tryz.prog 91 #[.agg #[.pointer (some ⟨lp, 0, none⟩), .bool false], v] w' fun e w2 => e = .returned (.int .i64 l0) ∧ Below w'.heap.size w' w2) := HL0
  obtain ⟨d, hd⟩ : ∃ d, s.now[x] = d := ⟨_, rfl⟩
  rw [hd] at HHs HOn HQ
  obtain ⟨r0, hr0⟩ : ∃ r, d.has 0 = r := ⟨_, rfl⟩
  obtain ⟨r1, hr1⟩ : ∃ r, d.has 1 = r := ⟨_, rfl⟩
  have HH0 := HHs.out 0
  have HH1 := HHs.out 1
  rw [hr0] at HH0 HQ
  rw [hr1] at HH1 HQ
  have HH0' : Hid (∀ w', Kq B W w' → Calls Tryz.prog 87 #[.pointer (some ⟨p, 0, none⟩), .int .i64 (x : Int), .int .i64 0] w' fun e w2 => e = .returned (.bool r0) ∧ Below w'.heap.size w' w2) := HH0
  have HH1' : Hid (∀ w', Kq B W w' → Calls Tryz.prog 87 #[.pointer (some ⟨p, 0, none⟩), .int .i64 (x : Int), .int .i64 1] w' fun e w2 => e = .returned (.bool r1) ∧ Below w'.heap.size w' w2) := HH1
  obtain ⟨R, hR⟩ : ∃ R, reifQ s.now c Q = R := ⟨_, rfl⟩
  rw [hR] at HQ ⊢
  obtain ⟨cs, hcs⟩ : ∃ cs, coefL c.terms s.now.length = cs := ⟨_, rfl⟩
  rw [hcs] at HAm HLt HLf HQ
  have HCf' : Hid (∀ w' Q', LfQ B lp g p nv mv s Q' w' → Kq B W w' → Calls Tryz.prog 78 #[.pointer (some ⟨lp, 0, none⟩), .slice ta c.terms.length tc] w' fun e w2 => ∃ v, e = .returned v ∧ IntsK B w2 v cs ∧ Below w'.heap.size w' w2) := fun w' Q' hL hk => by
    have := HCf.out w' Q' hL hk
    unfold CfOut at this
    rw [hcs] at this
    exact this
  have HBs : Hid (B ≤ W.heap.size) := Nat.le_trans hBs hb0.size
  obtain ⟨hb1a, hb1b⟩ := hb1
  obtain ⟨hb2a, hb2b⟩ := hb2
  obtain ⟨hk1, hk2⟩ := hk
  have hcv : cnVal c (.slice ta c.terms.length tc) vx vb vr = .agg #[.int .i64 c.kind, .int .i64 c.op, .slice ta c.terms.length tc, .int .i64 c.k, .int .i64 c.v, .int .i64 (x : Int), .int .i64 c.y, vx, vb, vr] := by unfold cnVal; rw [hxe]
  rw [hcv]
  clear h hC hx hc htx hBs hb0 g0 hxe hR hd hr0 hr1 hcs hl0 hl1 hQ3 HL0 HL1 HH0 HH1 hcv HCf HLs HHs hzb hxn hl
  go_enter Tryz.func50, Tryz.ntmps50
  go_wp2_with fail
  go_cut [26] from 9 to 87 (fun s26 wx => s26 = .bool (!r0 && !r1) ∧ Hid (Below W.heap.size W wx))
  case first =>
    have HGd : Hid (∀ w', Below W.heap.size W w' → w'.cell? ⟨w.heap.size, 5, none⟩ = some (.int .i64 (x : Int)) ∧ w'.cell? ⟨lp, 0, none⟩ = some (.pointer (some ⟨p, 0, none⟩))) := fun w' hb => ⟨(HG.out w' (Kq.of_below hb HBs.out)).2.2.1, (HG.out w' (Kq.of_below hb HBs.out)).2.2.2⟩
    cases r0 with
    | true =>
      refine wp_region_T (fun w' => w'.cell? ⟨w.heap.size, 5, none⟩ = some (.int .i64 (x : Int)) ∧ w'.cell? ⟨lp, 0, none⟩ = some (.pointer (some ⟨p, 0, none⟩))) (fun _ => True) [] (by kernel_rfl) ⟨HGd.out _ (Below.refl _ _).drew, trivial⟩ (fun hHeld => ?_)
      refine wpAnyT_takeB (i := 0) (oi := ⟨some 9, .move (.tmp 0), _, _, _, _⟩) (v := ?vR1c1x0) rfl (by kernel_rfl) (by kernel_rfl) (by kernel_rfl) (by kernel_rfl) (fun _ _ _ h => h) (Or.inl ⟨by rfl, ?hyR1c1x0⟩) (by assumption) ?restR1c1x0
      case hyR1c1x0 => (intro w hSw; (try dsimp only at hSw); go_simp; try (with_reducible rfl))
      try simp only [Act.put, List.setIfInBounds_toArray, List.set_cons_zero, List.set_cons_succ]
      refine wpAnyT_takeB (i := 1) (oi := ⟨some 10, .nilCheck (.tmp 9), _, _, _, _⟩) (v := ?vR1c1x1) rfl (by kernel_rfl) (by kernel_rfl) (by kernel_rfl) (by kernel_rfl) (fun _ _ _ h => h) (Or.inl ⟨by rfl, ?hyR1c1x1⟩) (by assumption) ?restR1c1x1
      case hyR1c1x1 => (intro w hSw; (try dsimp only at hSw); go_simp; try (with_reducible rfl))
      try simp only [Act.put, List.setIfInBounds_toArray, List.set_cons_zero, List.set_cons_succ]
      refine wpAnyT_takeB (i := 2) (oi := ⟨some 11, .fieldAddr 99 (.tmp 10) 0, _, _, _, _⟩) (v := ?vR1c1x2) rfl (by kernel_rfl) (by kernel_rfl) (by kernel_rfl) (by kernel_rfl) (fun _ _ _ h => h) (Or.inl ⟨by rfl, ?hyR1c1x2⟩) (by assumption) ?restR1c1x2
      case hyR1c1x2 => (intro w hSw; (try dsimp only at hSw); go_simp; try (with_reducible rfl))
      try simp only [Act.put, List.setIfInBounds_toArray, List.set_cons_zero, List.set_cons_succ]
      refine wpAnyT_takeB (i := 3) (oi := ⟨some 12, .load 34 (.tmp 11), _, _, _, _⟩) (v := ?vR1c1x3) rfl (by kernel_rfl) (by kernel_rfl) (by kernel_rfl) (by kernel_rfl) (fun _ _ _ h => h) (Or.inl ⟨by rfl, ?hyR1c1x3⟩) (by assumption) ?restR1c1x3
      case hyR1c1x3 => (intro w hSw; (try dsimp only at hSw); go_simp; try (with_reducible rfl))
      try simp only [Act.put, List.setIfInBounds_toArray, List.set_cons_zero, List.set_cons_succ]
      refine wpAnyT_takeB (i := 4) (oi := ⟨some 13, .fieldAddr 31 (.tmp 3) 5, _, _, _, _⟩) (v := ?vR1c1x4) rfl (by kernel_rfl) (by kernel_rfl) (by kernel_rfl) (by kernel_rfl) (fun _ _ _ h => h) (Or.inl ⟨by rfl, ?hyR1c1x4⟩) (by assumption) ?restR1c1x4
      case hyR1c1x4 => (intro w hSw; (try dsimp only at hSw); go_simp; try (with_reducible rfl))
      try simp only [Act.put, List.setIfInBounds_toArray, List.set_cons_zero, List.set_cons_succ]
      refine wpAnyT_takeB (i := 5) (oi := ⟨some 14, .load 3 (.tmp 13), _, _, _, _⟩) (v := ?vR1c1x5) rfl (by kernel_rfl) (by kernel_rfl) (by kernel_rfl) (by kernel_rfl) (fun _ _ _ h => h) (Or.inl ⟨by rfl, ?hyR1c1x5⟩) (by assumption) ?restR1c1x5
      case hyR1c1x5 => (intro w hSw; (try dsimp only at hSw); go_simp; try (with_reducible rfl))
      try simp only [Act.put, List.setIfInBounds_toArray, List.set_cons_zero, List.set_cons_succ]
      refine wpAnyT_one (i := 6) (o := ⟨some 15, .call { callee := .value (.func 87), args := #[(.tmp 12), (.tmp 14), (.const (.int .i64 0))], argTypes := #[34, 3, 3] }, _, _, _, _⟩) (by kernel_rfl) rfl (fun K hK => ?_)
      go_simp
      refine calls_at (HH0'.out _ (Kq.of_below (Below.refl _ _).drew HBs.out)) (by with_reducible rfl) (by with_reducible rfl) ?_
      rintro e w2 ⟨rfl, hb2⟩
      go_wp2_with fail
      have HB2 : Hid (Below W.heap.size W w2) := (Below.refl _ _).drew.trans hb2
      clear hb2 hHeld
      have hHeld := (⟨HGd.out _ HB2.out, trivial⟩ : _ ∧ True)
      refine hK.out _ _ ⟨hHeld.1, fun _ => trivial⟩ ?_
      clear hK K
      refine wpAnyT_takeB (i := 7) (oi := ⟨some 16, .unOp .not 4 (.tmp 15), _, _, _, _⟩) (v := ?vR1c1x7) rfl (by kernel_rfl) (by kernel_rfl) (by kernel_rfl) (by kernel_rfl) (fun _ _ _ h => h) (Or.inl ⟨by rfl, ?hyR1c1x7⟩) (by assumption) ?restR1c1x7
      case hyR1c1x7 => (intro w hSw; (try dsimp only at hSw); go_simp; try (with_reducible rfl))
      try simp only [Act.put, List.setIfInBounds_toArray, List.set_cons_zero, List.set_cons_succ]
      refine wpAnyT_takeB (i := 8) (oi := ⟨some 17, .move (.tmp 16), _, _, _, _⟩) (v := ?vR1c1x8) rfl (by kernel_rfl) (by kernel_rfl) (by kernel_rfl) (by kernel_rfl) (fun _ _ _ h => h) (Or.inl ⟨by rfl, ?hyR1c1x8⟩) (by assumption) ?restR1c1x8
      case hyR1c1x8 => (intro w hSw; (try dsimp only at hSw); go_simp; try (with_reducible rfl))
      try simp only [Act.put, List.setIfInBounds_toArray, List.set_cons_zero, List.set_cons_succ]
      refine wpAnyT_takeB (i := 9) (oi := ⟨some 18, .move (.tmp 0), _, _, _, _⟩) (v := undef) rfl (by kernel_rfl) (by kernel_rfl) (by kernel_rfl) (by kernel_rfl) (fun _ _ _ h => h) (Or.inr ⟨by rfl, rfl⟩) (by assumption) ?restR1c1x9
      try simp only [Act.put, List.setIfInBounds_toArray, List.set_cons_zero, List.set_cons_succ]
      refine wpAnyT_takeB (i := 10) (oi := ⟨some 19, .nilCheck (.tmp 18), _, _, _, _⟩) (v := undef) rfl (by kernel_rfl) (by kernel_rfl) (by kernel_rfl) (by kernel_rfl) (fun _ _ _ h => h) (Or.inr ⟨by rfl, rfl⟩) (by assumption) ?restR1c1x10
      try simp only [Act.put, List.setIfInBounds_toArray, List.set_cons_zero, List.set_cons_succ]
      refine wpAnyT_takeB (i := 11) (oi := ⟨some 20, .fieldAddr 99 (.tmp 19) 0, _, _, _, _⟩) (v := undef) rfl (by kernel_rfl) (by kernel_rfl) (by kernel_rfl) (by kernel_rfl) (fun _ _ _ h => h) (Or.inr ⟨by rfl, rfl⟩) (by assumption) ?restR1c1x11
      try simp only [Act.put, List.setIfInBounds_toArray, List.set_cons_zero, List.set_cons_succ]
      refine wpAnyT_takeB (i := 12) (oi := ⟨some 21, .load 34 (.tmp 20), _, _, _, _⟩) (v := undef) rfl (by kernel_rfl) (by kernel_rfl) (by kernel_rfl) (by kernel_rfl) (fun _ _ _ h => h) (Or.inr ⟨by rfl, rfl⟩) (by assumption) ?restR1c1x12
      try simp only [Act.put, List.setIfInBounds_toArray, List.set_cons_zero, List.set_cons_succ]
      refine wpAnyT_takeB (i := 13) (oi := ⟨some 22, .fieldAddr 31 (.tmp 3) 5, _, _, _, _⟩) (v := undef) rfl (by kernel_rfl) (by kernel_rfl) (by kernel_rfl) (by kernel_rfl) (fun _ _ _ h => h) (Or.inr ⟨by rfl, rfl⟩) (by assumption) ?restR1c1x13
      try simp only [Act.put, List.setIfInBounds_toArray, List.set_cons_zero, List.set_cons_succ]
      refine wpAnyT_takeB (i := 14) (oi := ⟨some 23, .load 3 (.tmp 22), _, _, _, _⟩) (v := undef) rfl (by kernel_rfl) (by kernel_rfl) (by kernel_rfl) (by kernel_rfl) (fun _ _ _ h => h) (Or.inr ⟨by rfl, rfl⟩) (by assumption) ?restR1c1x14
      try simp only [Act.put, List.setIfInBounds_toArray, List.set_cons_zero, List.set_cons_succ]
      refine wpAnyT_takeB (i := 15) (oi := ⟨some 24, .call { callee := .value (.func 87), args := #[(.tmp 21), (.tmp 23), (.const (.int .i64 1))], argTypes := #[34, 3, 3] }, _, _, _, _⟩) (v := undef) rfl (by kernel_rfl) (by kernel_rfl) (by kernel_rfl) (by kernel_rfl) (fun _ _ _ h => h) (Or.inr ⟨by rfl, rfl⟩) (by assumption) ?restR1c1x15
      try simp only [Act.put, List.setIfInBounds_toArray, List.set_cons_zero, List.set_cons_succ]
      refine wpAnyT_takeB (i := 16) (oi := ⟨some 25, .unOp .not 4 (.tmp 24), _, _, _, _⟩) (v := undef) rfl (by kernel_rfl) (by kernel_rfl) (by kernel_rfl) (by kernel_rfl) (fun _ _ _ h => h) (Or.inr ⟨by rfl, rfl⟩) (by assumption) ?restR1c1x16
      try simp only [Act.put, List.setIfInBounds_toArray, List.set_cons_zero, List.set_cons_succ]
      refine wpAnyT_takeB (i := 17) (oi := ⟨some 26, .pick (.tmp 17) (.tmp 25) ((.const (.bool false))), _, _, _, _⟩) (v := ?vR1c1x17) rfl (by kernel_rfl) (by kernel_rfl) (by kernel_rfl) (by kernel_rfl) (fun _ _ _ h => h) (Or.inl ⟨by rfl, ?hyR1c1x17⟩) (by assumption) ?restR1c1x17
      case hyR1c1x17 => (intro w hSw; (try dsimp only at hSw); go_simp; try (with_reducible rfl))
      try simp only [Act.put, List.setIfInBounds_toArray, List.set_cons_zero, List.set_cons_succ]
      refine wpAnyT_done (by kernel_rfl) ?_ _
      go_wp2_with fail
      go_meet
      exact ⟨rfl, HB2⟩
    | false =>
      have HKd : Hid (Kq B W W.drew) := Kq.of_below (Below.refl _ _).drew HBs.out
      go_region_held3 (fun w' => w'.cell? ⟨w.heap.size, 5, none⟩ = some (.int .i64 (x : Int)) ∧ w'.cell? ⟨lp, 0, none⟩ = some (.pointer (some ⟨p, 0, none⟩)))
        (first | exact HGd.out _ HB5.out | exact HGd.out _ HB4.out | exact HGd.out _ (Below.refl _ _).drew)
        (first | (go_at_call 87; refine calls_at (HH0'.out _ HKd.out) (by with_reducible rfl) (by with_reducible rfl) ?_; rintro e w4 ⟨rfl, hb4⟩; (have HB4 : Hid (Below W.heap.size W w4) := (Below.refl _ _).drew.trans hb4); clear hb4) | (go_at_call 87; refine calls_at (HH1'.out _ (Kq.of_below HB4.out HBs.out)) (by with_reducible rfl) (by with_reducible rfl) ?_; rintro e w5 ⟨rfl, hb5⟩; (have HB5 : Hid (Below W.heap.size W w5) := bl_next HB4.out hb5); clear hb5))
      go_wp2_with fail
      go_meet
      exact ⟨rfl, HB5⟩
  case rest =>
  obtain ⟨rfl, HBx⟩ := hcut
  rename World => wx
  have HLx : Hid (LfQ B lp g p nv mv s Q wx) := HLW.out.below HBx.out
  have HKx : Hid (Kq B W wx) := Kq.of_below HBx.out HBs.out
  by_cases hrr : r0 = false ∧ r1 = false
  · obtain ⟨rfl, rfl⟩ := hrr
    have HRn : Hid (R = none) := by show _ = _; rw [HQ.out, if_pos ⟨rfl, rfl⟩]
    go_wp2_with fail
    go_ret
    rw [HRn.out]
    exact ⟨rfl, (fun Q' h => by cases h), HKW.out.trans HKx.out⟩
  have hbf : (!r0 && !r1) = false := by cases r0 <;> cases r1 <;> simp_all
  rw [hbf]
  have HQ2 : Hid (R = if d.one = false then some Q3 else if d.lo = 1 then atMostQ false s.now cs c.k Q3 else atMostQ true s.now cs (c.k + 1) Q3) := by show _ = _; rw [HQ.out, if_neg hrr]
  clear HQ hbf hrr HH0' HH1'
  obtain ⟨x2, x3, x5, xl⟩ := HG.out wx HKx.out
  go_wp2_with fail
  refine calls_at (HCf'.out wx Q HLx.out HKx.out) (by with_reducible rfl) (by with_reducible rfl) ?_
  rintro e w1 ⟨v, rfl, hI1, hb1⟩
  have HI1 : Hid (IntsK B w1 v cs) := hI1
  have HL1 : Hid (LfQ B lp g p nv mv s Q w1) := HLx.out.below hb1
  have HK1 : Hid (Kq B W w1) := HKx.out.next hb1 HLx.out.size
  clear hI1 hb1 x2 x3 x5 xl hW
  obtain ⟨_, _, y5, _⟩ := HG.out w1 HK1.out
  go_wp2_with fail
  refine calls_at (HKp.out w1 Q 0 1 HL1.out) (by with_reducible rfl) (by with_reducible rfl) ?_
  rintro e w2 ⟨rfl, hL2, hk2⟩
  have HL2 : Hid (LfQ B lp g p nv mv s (keepQ Q x 0 1) w2) := hL2
  have HK2 : Hid (Kq B W w2) := HK1.out.trans hk2
  have HI2 : Hid (IntsK B w2 v cs) := HI1.out.kq hk2
  clear hL2 hk2 y5
  go_wp2_with fail
  refine calls_at (HTn.out w2) (by with_reducible rfl) (by with_reducible rfl) ?_
  rintro e w3 ⟨rfl, hb3⟩
  have HL3 : Hid (LfQ B lp g p nv mv s (keepQ Q x 0 1) w3) := HL2.out.below hb3
  have HK3 : Hid (Kq B W w3) := HK2.out.next hb3 HL2.out.size
  have HI3 : Hid (IntsK B w3 v cs) := HI2.out.kq (Kq.of_below hb3 HL2.out.size)
  clear hb3
  go_wp2_with fail
  refine calls_at (HLt.out w3 _ v HL3.out HI3.out) (by with_reducible rfl) (by with_reducible rfl) ?_
  rintro e w4 ⟨rfl, hb4⟩
  have HL4 : Hid (LfQ B lp g p nv mv s (keepQ Q x 0 1) w4) := HL3.out.below hb4
  have HK4 : Hid (Kq B W w4) := HK3.out.next hb4 HL3.out.size
  have HI4 : Hid (IntsK B w4 v cs) := HI3.out.kq (Kq.of_below hb4 HL3.out.size)
  clear hb4
  obtain ⟨_, y3, _, _⟩ := HG.out w4 HK4.out
  obtain ⟨Q2, hQ2⟩ : ∃ Q2, (if -l1 ≤ c.k then keepQ (keepQ Q x 0 1) x 1 1 else keepQ Q x 0 1) = Q2 := ⟨_, rfl⟩
  rw [hQ2] at HR3
  have HQ2e : Hid ((if -l1 ≤ c.k then keepQ (keepQ Q x 0 1) x 1 1 else keepQ Q x 0 1) = Q2) := hQ2
  clear hQ2
  go_upto_if 44 with fail
  go_cut [] from 44 to 87 (fun wy => Hid (LfQ B lp g p nv mv s Q2 wy) ∧ Hid (Kq B W wy) ∧ Hid (IntsK B wy v cs))
  case first =>
    by_cases hc1 : -l1 ≤ c.k
    · have HQf : Hid (keepQ (keepQ Q x 0 1) x 1 1 = Q2) := (if_pos hc1).symm.trans HQ2e.out
      have HLd : Hid (LfQ B lp g p nv mv s (keepQ Q x 0 1) w4.drew) := HL4.out.below (Below.refl _ _).drew
      have HKd : Hid (Kq B W w4.drew) := HK4.out.next (Below.refl _ _).drew HL4.out.size
      have HId : Hid (IntsK B w4.drew v cs) := HI4.out.kq (Kq.of_below (Below.refl _ _).drew HL4.out.size)
      go_wp2_with fail
      go_region_held3 (fun w' => w'.cell? ⟨w.heap.size, 2, none⟩ = some (.slice ta c.terms.length tc) ∧ w'.cell? ⟨w.heap.size, 3, none⟩ = some (.int .i64 c.k) ∧ w'.cell? ⟨w.heap.size, 5, none⟩ = some (.int .i64 (x : Int)) ∧ w'.cell? ⟨lp, 0, none⟩ = some (.pointer (some ⟨p, 0, none⟩)))
        (first | exact HG.out _ HK6.out | exact HG.out _ HK5.out | exact HG.out _ HKd.out)
        (first | (go_at_call 92; refine calls_at (HJu.out 1 _) (by with_reducible rfl) (by with_reducible rfl) ?_; rintro e w5 ⟨rfl, hb5⟩; (have HL5 : Hid (LfQ B lp g p nv mv s (keepQ Q x 0 1) w5) := HLd.out.below hb5); (have HK5 : Hid (Kq B W w5) := HKd.out.next hb5 HLd.out.size); (have HI5 : Hid (IntsK B w5 v cs) := HId.out.kq (Kq.of_below hb5 HLd.out.size)); clear hb5) | (go_at_call 90; refine calls_at (HKp.out w5 _ 1 1 HL5.out) (by with_reducible rfl) (by with_reducible rfl) ?_; rintro e w6 ⟨rfl, hL6, hk6⟩; (have HL6 : Hid (LfQ B lp g p nv mv s Q2 w6) := (by show LfQ _ _ _ _ _ _ _ _ _; rw [← HQf.out]; exact hL6)); (have HK6 : Hid (Kq B W w6) := HK5.out.trans hk6); (have HI6 : Hid (IntsK B w6 v cs) := HI5.out.kq hk6); clear hL6 hk6))
      go_wp2_with fail
      go_meet
      exact ⟨HL6, HK6, HI6⟩
    · have HQf : Hid (keepQ Q x 0 1 = Q2) := (if_neg hc1).symm.trans HQ2e.out
      go_wp2_with fail
      go_meet
      exact ⟨(by show LfQ _ _ _ _ _ _ _ _ _; rw [← HQf.out]; exact HL4.out), HK4, HI4⟩
  case rest =>
  obtain ⟨HLy, HKy, HIy⟩ := hcut
  rename World => wy
  have HLyd : Hid (LfQ B lp g p nv mv s Q2 wy.drew) := HLy.out.below (Below.refl _ _).drew
  have HKyd : Hid (Kq B W wy.drew) := HKy.out.next (Below.refl _ _).drew HLy.out.size
  have HIyd : Hid (IntsK B wy.drew v cs) := HIy.out.kq (Kq.of_below (Below.refl _ _).drew HLy.out.size)
  go_wp2_with fail
  go_region_held3 (fun w' => w'.cell? ⟨w.heap.size, 2, none⟩ = some (.slice ta c.terms.length tc) ∧ w'.cell? ⟨w.heap.size, 3, none⟩ = some (.int .i64 c.k) ∧ w'.cell? ⟨w.heap.size, 5, none⟩ = some (.int .i64 (x : Int)) ∧ w'.cell? ⟨lp, 0, none⟩ = some (.pointer (some ⟨p, 0, none⟩)))
    (first | exact HG.out _ HK8.out | exact HG.out _ HK7.out | exact HG.out _ HKyd.out)
    (first | (go_at_call 79; refine calls_at (HU.out _) (by with_reducible rfl) (by with_reducible rfl) ?_; rintro e w7 ⟨rfl, hb7⟩; (have HL7 : Hid (LfQ B lp g p nv mv s Q2 w7) := HLyd.out.below hb7); (have HK7 : Hid (Kq B W w7) := HKyd.out.next hb7 HLyd.out.size); (have HI7 : Hid (IntsK B w7 v cs) := HIyd.out.kq (Kq.of_below hb7 HLyd.out.size)); clear hb7) | (go_at_call 91; refine calls_at (HLf.out w7 _ v HL7.out HI7.out) (by with_reducible rfl) (by with_reducible rfl) ?_; rintro e w8 ⟨rfl, hb8⟩; (have HL8 : Hid (LfQ B lp g p nv mv s Q2 w8) := HL7.out.below hb8); (have HK8 : Hid (Kq B W w8) := HK7.out.next hb8 HL7.out.size); (have HI8 : Hid (IntsK B w8 v cs) := HI7.out.kq (Kq.of_below hb8 HL7.out.size)); clear hb8))
  go_upto_if 56 with fail
  go_cut [] from 56 to 87 (fun wz => Hid (LfQ B lp g p nv mv s Q3 wz) ∧ Hid (Kq B W wz) ∧ Hid (IntsK B wz v cs))
  case first =>
    by_cases hc1 : c.k < l0
    · have HQf : Hid (keepQ Q2 x 0 0 = Q3) := by show _ = _; rw [HR3.out, if_pos hc1]
      have HLd : Hid (LfQ B lp g p nv mv s Q2 w8.drew) := HL8.out.below (Below.refl _ _).drew
      have HKd : Hid (Kq B W w8.drew) := HK8.out.next (Below.refl _ _).drew HL8.out.size
      have HId : Hid (IntsK B w8.drew v cs) := HI8.out.kq (Kq.of_below (Below.refl _ _).drew HL8.out.size)
      go_wp2_with fail
      go_region_held3 (fun w' => w'.cell? ⟨w.heap.size, 2, none⟩ = some (.slice ta c.terms.length tc) ∧ w'.cell? ⟨w.heap.size, 3, none⟩ = some (.int .i64 c.k) ∧ w'.cell? ⟨w.heap.size, 5, none⟩ = some (.int .i64 (x : Int)) ∧ w'.cell? ⟨lp, 0, none⟩ = some (.pointer (some ⟨p, 0, none⟩)))
        (first | exact HG.out _ HK6.out | exact HG.out _ HK5.out | exact HG.out _ HKd.out)
        (first | (go_at_call 92; refine calls_at (HJu.out 0 _) (by with_reducible rfl) (by with_reducible rfl) ?_; rintro e w5 ⟨rfl, hb5⟩; (have HL5 : Hid (LfQ B lp g p nv mv s Q2 w5) := HLd.out.below hb5); (have HK5 : Hid (Kq B W w5) := HKd.out.next hb5 HLd.out.size); (have HI5 : Hid (IntsK B w5 v cs) := HId.out.kq (Kq.of_below hb5 HLd.out.size)); clear hb5) | (go_at_call 90; refine calls_at (HKp.out w5 _ 0 0 HL5.out) (by with_reducible rfl) (by with_reducible rfl) ?_; rintro e w6 ⟨rfl, hL6, hk6⟩; (have HL6 : Hid (LfQ B lp g p nv mv s Q3 w6) := (by show LfQ _ _ _ _ _ _ _ _ _; rw [← HQf.out]; exact hL6)); (have HK6 : Hid (Kq B W w6) := HK5.out.trans hk6); (have HI6 : Hid (IntsK B w6 v cs) := HI5.out.kq hk6); clear hL6 hk6))
      go_wp2_with fail
      go_meet
      exact ⟨HL6, HK6, HI6⟩
    · have HQf : Hid (Q2 = Q3) := by show _ = _; rw [HR3.out, if_neg hc1]
      go_wp2_with fail
      go_meet
      exact ⟨(by show LfQ _ _ _ _ _ _ _ _ _; rw [← HQf.out]; exact HL8.out), HK8, HI8⟩
  case rest =>
  obtain ⟨HLz, HKz, HIz⟩ := hcut
  rename World => wz
  obtain ⟨_, _, z5, _⟩ := HG.out wz HKz.out
  have HOw := HOn.out wz Q3 HLz.out
  obtain ⟨ov, hov⟩ : ∃ o, oneV d = o := ⟨_, rfl⟩
  obtain ⟨ob, hob⟩ : ∃ o, d.one = o := ⟨_, rfl⟩
  rw [hov, hob] at HOw
  have HOw' : Hid (Calls Tryz.prog 82 #[.pointer (some ⟨lp, 0, none⟩), .int .i64 (x : Int)] wz fun e w2 => e = .returned (.tuple #[.int .i64 ov, .bool ob]) ∧ Below wz.heap.size wz w2) := HOw
  have HOv : Hid (ob = true → ov = d.lo) := fun ht => by rw [← hov]; unfold oneV; rw [hob, ht]; rfl
  rw [hob] at HQ2
  clear HOw hov hob
  go_wp2_with fail
  refine calls_at HOw'.out (by with_reducible rfl) (by with_reducible rfl) ?_
  rintro e wo ⟨rfl, hbo⟩
  have HLo : Hid (LfQ B lp g p nv mv s Q3 wo) := HLz.out.below hbo
  have HKo : Hid (Kq B W wo) := HKz.out.next hbo HLz.out.size
  have HIo : Hid (IntsK B wo v cs) := HIz.out.kq (Kq.of_below hbo HLz.out.size)
  clear hbo z5
  cases ob with
  | false =>
    have HRf : Hid (R = some Q3) := HQ2.out
    go_wp2_with fail
    go_ret
    rw [HRf.out]
    exact ⟨rfl, (fun Q' h => by injection h with h; rw [← h]; exact HLo.out), HKW.out.trans HKo.out⟩
  | true =>
  have hov : ov = d.lo := HOv.out rfl
  have HQ3 : Hid (R = if ov = 1 then atMostQ false s.now cs c.k Q3 else atMostQ true s.now cs (c.k + 1) Q3) := by show _ = _; rw [HQ2.out, hov]; rfl
  clear hov HQ2 HOv
  have HLod : Hid (LfQ B lp g p nv mv s Q3 wo.drew) := HLo.out.below (Below.refl _ _).drew
  have HKod : Hid (Kq B W wo.drew) := HKo.out.next (Below.refl _ _).drew HLo.out.size
  have HIod : Hid (IntsK B wo.drew v cs) := HIo.out.kq (Kq.of_below (Below.refl _ _).drew HLo.out.size)
  by_cases ho1 : ov = 1
  · have e1 : (ov == 1) = true := by simpa using ho1
    obtain ⟨Ra, hRa⟩ : ∃ r, atMostQ false s.now cs c.k Q3 = r := ⟨_, rfl⟩
    have HRf : Hid (R = Ra) := by show _ = _; rw [HQ3.out, if_pos ho1, hRa]
    clear ho1
    go_wp2_with fail
    go_region_held3 (fun w' => w'.cell? ⟨w.heap.size, 2, none⟩ = some (.slice ta c.terms.length tc) ∧ w'.cell? ⟨w.heap.size, 3, none⟩ = some (.int .i64 c.k) ∧ w'.cell? ⟨w.heap.size, 5, none⟩ = some (.int .i64 (x : Int)) ∧ w'.cell? ⟨lp, 0, none⟩ = some (.pointer (some ⟨p, 0, none⟩)))
      (first | exact HG.out _ HK6.out | exact HG.out _ HK5.out | exact HG.out _ HKod.out)
      (first | (go_at_call 79; refine calls_at (HU.out _) (by with_reducible rfl) (by with_reducible rfl) ?_; rintro e w5 ⟨rfl, hb5⟩; (have HL5 : Hid (LfQ B lp g p nv mv s Q3 w5) := HLod.out.below hb5); (have HK5 : Hid (Kq B W w5) := HKod.out.next hb5 HLod.out.size); (have HI5 : Hid (IntsK B w5 v cs) := HIod.out.kq (Kq.of_below hb5 HLod.out.size)); clear hb5) | (go_at_call 80; refine calls_at (HAm.out false c.k w5 Q3 v HL5.out HI5.out) (by with_reducible rfl) (by with_reducible rfl) ?_; rintro e w6 ⟨he, hL6, hk6⟩; rw [hRa] at he hL6; subst he; (have HL6 : Hid (∀ Q', Ra = some Q' → LfQ B lp g p nv mv s Q' w6) := hL6); (have HK6 : Hid (Kq B W w6) := HK5.out.trans hk6); clear hL6 hk6))
    cases Ra with
    | none =>
      go_wp2_with fail
      go_ret
      rw [HRf.out]
      exact ⟨rfl, (fun Q' h => by cases h), HKW.out.trans HK6.out⟩
    | some Qb =>
      go_wp2_with fail
      go_ret
      rw [HRf.out]
      exact ⟨rfl, (fun Q' h => HL6.out Q' h), HKW.out.trans HK6.out⟩
  · have e1 : (ov == 1) = false := by simpa using ho1
    obtain ⟨Ra, hRa⟩ : ∃ r, atMostQ true s.now cs (c.k + 1) Q3 = r := ⟨_, rfl⟩
    have HRf : Hid (R = Ra) := by show _ = _; rw [HQ3.out, if_neg ho1, hRa]
    have ek : IntKind.i64.wrap (c.k + 1) = c.k + 1 := wrap_ok (by omega) (by omega)
    clear ho1
    go_wp2_with fail
    go_region_held3 (fun w' => w'.cell? ⟨w.heap.size, 2, none⟩ = some (.slice ta c.terms.length tc) ∧ w'.cell? ⟨w.heap.size, 3, none⟩ = some (.int .i64 c.k) ∧ w'.cell? ⟨w.heap.size, 5, none⟩ = some (.int .i64 (x : Int)) ∧ w'.cell? ⟨lp, 0, none⟩ = some (.pointer (some ⟨p, 0, none⟩)))
      (first | exact HG.out _ HK6.out | exact HG.out _ HK5.out | exact HG.out _ HKod.out)
      (first | (go_at_call 81; refine calls_at (HTn.out _) (by with_reducible rfl) (by with_reducible rfl) ?_; rintro e w5 ⟨rfl, hb5⟩; (have HL5 : Hid (LfQ B lp g p nv mv s Q3 w5) := HLod.out.below hb5); (have HK5 : Hid (Kq B W w5) := HKod.out.next hb5 HLod.out.size); (have HI5 : Hid (IntsK B w5 v cs) := HIod.out.kq (Kq.of_below hb5 HLod.out.size)); clear hb5) | (go_at_call 80; refine calls_at (HAm.out true (c.k + 1) w5 Q3 v HL5.out HI5.out) (by with_reducible rfl) (by with_reducible rfl) ?_; rintro e w6 ⟨he, hL6, hk6⟩; rw [hRa] at he hL6; subst he; (have HL6 : Hid (∀ Q', Ra = some Q' → LfQ B lp g p nv mv s Q' w6) := hL6); (have HK6 : Hid (Kq B W w6) := HK5.out.trans hk6); clear hL6 hk6))
    cases Ra with
    | none =>
      go_wp2_with fail
      go_ret
      rw [HRf.out]
      exact ⟨rfl, (fun Q' h => by cases h), HKW.out.trans HK6.out⟩
    | some Qb =>
      go_wp2_with fail
      go_ret
      rw [HRf.out]
      exact ⟨rfl, (fun Q' h => HL6.out Q' h), HKW.out.trans HK6.out⟩
end Go.Proofs.YtlcegpnnanhloaaGreatDoor
