/-
  Put together: DmBackM, PpLawW.
-/
import Derived.Test.YtemnbcilmbojhaaGreatDoorJ34
namespace Go.Proofs.YtemnbcilmbojhaaGreatDoor
open Go.RowKit

/-- Behind a mark: what was noted up to it stands. -/
structure Since (a s : St) : Prop where
  n : s.now.length = a.now.length
  m : a.marks + 1 ≤ s.marks
  t : s.noted.take (a.noted.length + a.now.length) = a.noted ++ a.now
  l : s.noted.length = s.marks * s.now.length
theorem cut_len (s : St) (k x v : Int) : (s.cut k x v).now.length = s.now.length ∧ (s.cut k x v).noted = s.noted ∧ (s.cut k x v).marks = s.marks := by
  unfold St.cut
  split
  · exact ⟨rfl, rfl, rfl⟩
  · split
    · exact ⟨List.length_set, rfl, rfl⟩
    · exact ⟨rfl, rfl, rfl⟩
theorem since_does {a s : St} (hl : a.noted.length = a.marks * a.now.length) (h : Since a s) (o : Cl) : Since a (s.does o ((a.marks : Int) + 1)) := by
  unfold St.does
  split
  · obtain ⟨e1, e2, e3⟩ := cut_len s o.ck o.cx o.cv
    exact ⟨e1.trans h.n, by rw [e3]; exact h.m, by rw [e2]; exact h.t, by rw [e2, e3, e1]; exact h.l⟩
  · split
    · have hle : a.noted.length + a.now.length ≤ s.noted.length := by
        have h1 := congrArg List.length h.t
        rw [List.length_take, List.length_append] at h1
        omega
      refine ⟨h.n, Nat.le_succ_of_le h.m, ?_, ?_⟩
      · show (s.noted ++ s.now).take _ = _
        rw [List.take_append_of_le_length hle]
        exact h.t
      · show (s.noted ++ s.now).length = (s.marks + 1) * s.now.length
        rw [List.length_append, h.l, Nat.add_mul, Nat.one_mul]
    · split
      · split
        · rename_i hn
          unfold St.back
          split
          · rename_i hb
            have hb' : 0 ≤ o.n ∧ o.n < (s.marks : Int) := by simpa [St.backB] using hb
            obtain ⟨q, hq⟩ : ∃ q : Nat, o.n = (q : Int) := ⟨o.n.toNat, by omega⟩
            have hq1 : a.marks + 1 ≤ q := by omega
            have hq2 : q < s.marks := by omega
            rw [hq, Int.toNat_natCast]
            have hmul : a.noted.length + a.now.length ≤ q * s.now.length := by
              rw [hl, h.n]
              have := Nat.mul_le_mul_right a.now.length hq1
              rw [Nat.add_mul, Nat.one_mul] at this
              exact this
            have hlen : q * s.now.length + s.now.length ≤ s.noted.length := by
              rw [h.l]
              have := Nat.mul_le_mul_right s.now.length hq2
              rw [Nat.succ_mul] at this
              exact this
            have hn1 : ((s.noted.drop (q * s.now.length)).take s.now.length).length = s.now.length := by rw [List.length_take, List.length_drop]; omega
            refine ⟨hn1.trans h.n, hq1, ?_, ?_⟩
            · show (s.noted.take (q * s.now.length)).take _ = _
              rw [List.take_take, Nat.min_eq_left hmul]
              exact h.t
            · show (s.noted.take (q * s.now.length)).length = q * ((s.noted.drop (q * s.now.length)).take s.now.length).length
              rw [hn1, List.length_take]
              omega
          · exact h
        · exact h
      · exact h
theorem since_mark {a : St} (hl : a.noted.length = a.marks * a.now.length) : Since a a.mark :=
  ⟨rfl, Nat.le_refl _, by show (a.noted ++ a.now).take _ = _; rw [← List.length_append, List.take_length], by show (a.noted ++ a.now).length = (a.marks + 1) * a.now.length; rw [List.length_append, hl, Nat.add_mul, Nat.one_mul]⟩
/-- Back to the mark: all is as it was; and the mark stands no more. -/
theorem since_back {a s : St} (hl : a.noted.length = a.marks * a.now.length) (h : Since a s) : s.backB (a.marks : Int) = true ∧ (s.back (a.marks : Int)).now = a.now ∧ (s.back (a.marks : Int)).backB (a.marks : Int) = false := by
  have h1 : s.backB (a.marks : Int) = true := by
    have := h.m
    simp [St.backB]
    omega
  have hlen := congrArg List.length h.t
  rw [List.length_take, List.length_append] at hlen
  refine ⟨h1, ?_, ?_⟩
  · unfold St.back
    rw [h1, if_pos rfl, Int.toNat_natCast]
    show (s.noted.drop (a.marks * s.now.length)).take s.now.length = a.now
    rw [h.n, ← hl]
    have e : (s.noted.take (a.noted.length + a.now.length)).drop a.noted.length = a.now := by rw [h.t, List.drop_left]
    rw [List.drop_take] at e
    rw [show a.noted.length + a.now.length - a.noted.length = a.now.length by omega] at e
    exact e
  · unfold St.back
    rw [h1, if_pos rfl, Int.toNat_natCast]
    simp [St.backB]
/-- A call makes at most one mark. -/
theorem does_marks (s : St) (o : Cl) (l : Int) : (s.does o l).marks ≤ s.marks + 1 := by
  unfold St.does
  split
  · rw [(cut_len s o.ck o.cx o.cv).2.2]; omega
  · split
    · exact Nat.le_refl _
    · split
      · split
        · unfold St.back
          split
          · rename_i hb
            have hb' : 0 ≤ o.n ∧ o.n < (s.marks : Int) := by simpa [St.backB] using hb
            show o.n.toNat ≤ _
            omega
          · omega
        · omega
      · omega
end Go.Proofs.YtemnbcilmbojhaaGreatDoor

namespace Go.Proofs.YtemnbcilmbojhaaGreatDoor
open Go.RowKit

set_option maxRecDepth 10000 in
set_option maxHeartbeats 1000000 in
theorem placeL_any (v : Int) (n : Nat) (hn : 0 < n) (hn2 : n ≤ 1000) (w : World) : Calls Tryz.prog 38 #[.int .i64 v, .int .i64 (n : Int)] w fun e w' => e = .returned (.int .i64 (plc v n)) ∧ w' = w := by
  have h0 : ¬ (n : Int) = 0 := by omega
  have h1 := Int.tmod_lt_of_pos v (b := (n : Int)) (by omega)
  have h2 := Int.lt_tmod_of_pos v (b := (n : Int)) (by omega)
  have hw1 : IntKind.i64.wrap (v.tmod (n : Int)) = v.tmod (n : Int) := by rw [IntKind.wrap_i64]; omega
  unfold plc
  obtain ⟨t, ht⟩ : ∃ t, v.tmod (n : Int) = t := ⟨_, rfl⟩
  rw [ht] at h1 h2 hw1 ⊢
  have hw2 : IntKind.i64.wrap (t + (n : Int)) = t + (n : Int) := by rw [IntKind.wrap_i64]; omega
  by_cases hl : t < 0
  · rw [if_pos hl]
    go_enter Tryz.func38, Tryz.ntmps38
    go_wp2_with fail
    go_ret
    exact ⟨rfl, rfl⟩
  · rw [if_neg hl]
    go_enter Tryz.func38, Tryz.ntmps38
    go_wp2_with fail
    go_ret
    exact ⟨rfl, rfl⟩
/-- One value of a variable. -/
def wi1 (d : Dm) (ins : List Int) (k : Nat) : List Int := if 0 < d.all.length then [d.all.getD (if k < ins.length then (plc (ins.getD k 0) d.all.length).toNat else 0) 0] else []
def wiL (D : List Dm) (ins : List Int) : Nat → List Int
  | 0 => []
  | k + 1 => wiL D ins k ++ (match D[k]? with | some d => wi1 d ins k | none => [])
theorem wiL_len (D : List Dm) (ins : List Int) (k : Nat) : (wiL D ins k).length ≤ k := by
  induction k with
  | zero => exact Nat.le_refl _
  | succ k ih =>
    unfold wiL
    rw [List.length_append]
    have : (match D[k]? with | some d => wi1 d ins k | none => []).length ≤ 1 := by
      split
      · unfold wi1
        split <;> simp
      · simp
    omega
theorem src_int {w : World} {b : Nat} {u : Int} (h : w.heap[b]? = some (.cells #[.int .i64 u] 3 (0, 0))) : SrcAt w (.slice (some ⟨b, 0, none⟩) 1 1) 1 1 [.int .i64 u] := src_one h rfl

set_option maxRecDepth 10000 in
set_option maxHeartbeats 4000000 in
theorem within_any (B p : Nat) (nv mv : Value) (s : St) (w : World) (h : StAt B w p nv mv s) (hT : Tz w) (hs : 0 < w.heap.size) (vi : Value) (ins : List Int) (hi : IntsAt w vi ins) : Calls Tryz.prog 15 #[.pointer (some ⟨p, 0, none⟩), vi] w (VsOut (wiL s.now ins s.now.length) w) := by
  have hn := h.n32
  obtain ⟨ia, ic, rfl, hil, hic⟩ := hi
  have HVr : Hid (∀ w', Below w.heap.size w w' → Calls Tryz.prog 37 #[.pointer (some ⟨p, 0, none⟩)] w' fun e w2 => e = .returned (.int .i64 (s.now.length : Int)) ∧ w2 = w') := fun w' hb => vars_any B p nv mv s w' (h.below hb)
  have HVs : Hid (∀ w' (k : Nat) (hk : k < s.now.length), Below w.heap.size w w' → Calls Tryz.prog 31 #[.pointer (some ⟨p, 0, none⟩), .int .i64 (k : Int)] w' (VsOut s.now[k].all w')) := fun w' k hk hb => values_in B p nv mv s k hk w' (h.below hb) (hT.below hb hs)
  have HIc : Hid (∀ w' (k : Nat) (hk : k < ins.length), Below w.heap.size w w' → ∃ b off, ia = some ⟨b, off, none⟩ ∧ w'.cell? ⟨b, off + k, none⟩ = some (.int .i64 ins[k])) := fun w' k hk hb => by
    obtain ⟨b, off, e, hlt, hcl⟩ := hic (by omega)
    exact ⟨b, off, e, (hb.cell (p := ⟨b, _, none⟩) hlt).trans (hcl k hk)⟩
  have HPl : Hid (∀ (v : Int) (n : Nat) w', 0 < n → n ≤ 1000 → Calls Tryz.prog 38 #[.int .i64 v, .int .i64 (n : Int)] w' fun e w2 => e = .returned (.int .i64 (plc v n)) ∧ w2 = w') := fun v n w' h1 h2 => placeL_any v n h1 h2 w'
  have HOu : Hid (∀ v w', w'.ownsRow w.heap.size 3 1 v (wiL s.now ins s.now.length).length ((wiL s.now ins s.now.length).map (.int .i64)) → Below w.heap.size w w' → VsOut (wiL s.now ins s.now.length) w (.returned v) w') := fun v w' h1 h2 => ⟨v, rfl, h1, h2⟩
  have hile : ins.length ≤ 9223372036854775807 := hil
  clear h hT hic hs hil
  go_enter Tryz.func15, Tryz.ntmps15
  go_wp2_with fail
  go_loopw [5, 6] (fun v5 iv wr => ∃ (k : Nat) (oa : Option Addr) (oc : Nat), v5 = .slice oa (wiL s.now ins k).length oc ∧ iv = .int .i64 (k : Int) ∧ k ≤ s.now.length ∧ Hid (wr.ownsRow w.heap.size 3 1 (.slice oa (wiL s.now ins k).length oc) (wiL s.now ins k).length ((wiL s.now ins k).map (.int .i64))) ∧ Hid (Below w.heap.size w wr)) (fun _ iv _ => s.now.length - (intOf iv).toNat)
  case atStart => exact ⟨0, none, 0, rfl, rfl, Nat.zero_le _, World.ownsRow_nil _ _ _ _, Below.refl _ _⟩
  case round =>
  obtain ⟨k, oa, oc, rfl, rfl, hk, HO, HBr⟩ := hrel
  have HVk : Hid (Calls Tryz.prog 37 #[.pointer (some ⟨p, 0, none⟩)] wr fun e w2 => e = .returned (.int .i64 (s.now.length : Int)) ∧ w2 = wr) := HVr.out wr HBr.out
  by_cases hkn : k < s.now.length
  · have hkI : (k : Int) < (s.now.length : Int) := by omega
    have hAl := dAll_len s.now[k]
    have HNx : Hid (wiL s.now ins (k + 1) = wiL s.now ins k ++ wi1 s.now[k] ins k) := by
      show _ = _
      rw [wiL, List.getElem?_eq_getElem hkn]
    have HVsk := HVs.out wr k hkn HBr.out
    have hwl := wiL_len s.now ins k
    unfold wi1 at HNx
    obtain ⟨A, hA⟩ : ∃ A, s.now[k].all = A := ⟨_, rfl⟩
    rw [hA] at hAl HNx HVsk
    have HVsk : Hid (Calls Tryz.prog 31 #[.pointer (some ⟨p, 0, none⟩), .int .i64 (k : Int)] wr (VsOut A wr)) := HVsk
    obtain ⟨T, hTt⟩ : ∃ T, wiL s.now ins k = T := ⟨_, rfl⟩
    rw [hTt] at HNx HO hwl ⊢
    obtain ⟨N, hN⟩ : ∃ N, T.length = N := ⟨_, rfl⟩
    rw [hN] at HO hwl ⊢
    have HTN : Hid (T.length = N) := hN
    clear hA hTt hN
    by_cases hv0 : 0 < A.length
    case neg =>
      have hA0 : A.length = 0 := by omega
      have HN2 : Hid (wiL s.now ins (k + 1) = T) := by show _ = _; rw [HNx.out, if_neg hv0, List.append_nil]
      by_cases hki : (k : Int) < (ins.length : Int) <;>
      · go_wp2_with (first | (go_at_call 37; refine calls_at HVk.out (by with_reducible rfl) (by with_reducible rfl) ?_; rintro e w1 ⟨rfl, hw1⟩; rw [hw1]; clear hw1) | (go_at_call 31; refine calls_at HVsk.out (by with_reducible rfl) (by with_reducible rfl) ?_; rintro e w3 ⟨v7, rfl, ho3, hb3⟩; (obtain ⟨va, vcap, rfl⟩ := own_slice ho3)))
        go_roundw
        case rel => exact ⟨k + 1, oa, oc, by rw [HN2.out, HTN.out], by go_num, hkn, (by show World.ownsRow _ _ _ _ _ _ _; rw [HN2.out, HTN.out]; exact own_below HO.out hb3), bl_next HBr.out hb3⟩
        case measure => simp [intOf]; omega
    case pos =>
      have hA0 : (0 : Int) < (A.length : Int) := by omega
      have HCe : Hid (∀ (w3 : World) (va : Option Addr) (vcap : Nat), w3.ownsRow wr.heap.size 3 1 (.slice va A.length vcap) A.length (A.map (.int .i64)) → ∃ g, va = some ⟨g, 0, none⟩ ∧ ∀ j (hj : j < A.length), w3.cell? ⟨g, j, none⟩ = some (.int .i64 A[j])) := fun w3 va vcap ho => by
        rcases own_cells ho with ⟨_, hn⟩ | ⟨g, c2, hv, _, _, _, hc⟩
        · omega
        · injection hv with e1 _ _
          refine ⟨g, e1, fun j hj => hc j _ ?_⟩
          rw [List.getElem?_map, List.getElem?_eq_getElem hj]
          rfl
      have HV2 : Hid (∀ (z : Int) w3, Below wr.heap.size wr w3 → ∃ V, w3.alloc (.cells #[.int .i64 z] 3) = V ∧ Hid (SrcAt V (.slice (some ⟨w3.heap.size, 0, none⟩) 1 1) 1 1 [.int .i64 z]) ∧ Hid (V.ownsRow w.heap.size 3 1 (.slice oa N oc) N (T.map (.int .i64))) ∧ Hid (Below w.heap.size w V)) := fun z w3 hb3 => by
        obtain ⟨V, hV⟩ : ∃ V, w3.alloc (.cells #[.int .i64 z] 3) = V := ⟨_, rfl⟩
        have hbV : Below w3.heap.size w3 V := by rw [← hV]; exact (Below.refl _ _).alloc (Nat.le_refl _) _
        have gV : V.heap[w3.heap.size]? = some (.cells #[.int .i64 z] 3 (0, 0)) := by rw [← hV]; exact heap_alloc_new w3 _
        exact ⟨V, hV, src_int gV, own_below (own_below HO.out hb3) hbV, bl_next (bl_next HBr.out hb3) hbV⟩
      have HEnd : Hid (∀ z, wiL s.now ins (k + 1) = T ++ [z] → ∀ (w4 : World) aa4 ac4, w4.ownsRow w.heap.size 3 1 (.slice aa4 (N + 1) ac4) (N + 1) (T.map (.int .i64) ++ [.int .i64 z]) → (wiL s.now ins (k + 1)).length = N + 1 ∧ w4.ownsRow w.heap.size 3 1 (.slice aa4 (N + 1) ac4) (N + 1) ((wiL s.now ins (k + 1)).map (.int .i64))) := fun z hz w4 aa4 ac4 ho => by
        rw [hz, List.length_append, HTN.out, List.map_append]
        exact ⟨rfl, ho⟩
      by_cases hki : k < ins.length
      · have hkiI : (k : Int) < (ins.length : Int) := by omega
        obtain ⟨j, hj⟩ : ∃ j : Nat, plc (ins.getD k 0) A.length = (j : Int) := ⟨(plc (ins.getD k 0) A.length).toNat, by have := plc_in (ins.getD k 0) A.length hA0; omega⟩
        have hjA : j < A.length := by have := plc_in (ins.getD k 0) A.length hA0; omega
        have hjI : (j : Int) < (A.length : Int) := by omega
        have HPk := HPl.out (ins.getD k 0) A.length
        rw [hj] at HPk
        have hz1 : wiL s.now ins (k + 1) = T ++ [A[j]] := by rw [HNx.out, if_pos hv0, if_pos hki, hj, Int.toNat_natCast, List.getD_eq_getElem?_getD, List.getElem?_eq_getElem hjA]; rfl
        have hgd : ins.getD k 0 = ins[k] := by rw [List.getD_eq_getElem?_getD, List.getElem?_eq_getElem hki]; rfl
        rw [hgd] at HPk
        obtain ⟨u, hu⟩ : ∃ u, ins[k] = u := ⟨_, rfl⟩
        have HIk := fun w' hb => HIc.out w' k hki hb
        rw [hu] at HPk HIk
        obtain ⟨ib, io, rfl, _⟩ := HIk wr HBr.out
        have HIk2 : Hid (∀ w', Below wr.heap.size wr w' → w'.cell? ⟨ib, io + k, none⟩ = some (.int .i64 u)) := fun w' hb => by
          obtain ⟨b', o', e, hc⟩ := HIk w' (bl_next HBr.out hb)
          injection e with e
          injection e with e1 e2
          subst e1 e2
          exact hc
        have HPk2 : Hid (∀ w', Calls Tryz.prog 38 #[.int .i64 u, .int .i64 (A.length : Int)] w' fun e w2 => e = .returned (.int .i64 (j : Int)) ∧ w2 = w') := fun w' => HPk w' hv0 (by omega)
        obtain ⟨z, hz⟩ : ∃ z, A[j] = z := ⟨_, rfl⟩
        rw [hz] at hz1
        have HZ1 : Hid (wiL s.now ins (k + 1) = T ++ [z]) := hz1
        have HCj : Hid (∀ (w3 : World) (va : Option Addr) (vcap : Nat), w3.ownsRow wr.heap.size 3 1 (.slice va A.length vcap) A.length (A.map (.int .i64)) → ∃ g, va = some ⟨g, 0, none⟩ ∧ w3.cell? ⟨g, j, none⟩ = some (.int .i64 z)) := fun w3 va vcap ho => by
          obtain ⟨g, e, hc⟩ := HCe.out w3 va vcap ho
          exact ⟨g, e, by rw [← hz]; exact hc j hjA⟩
        clear hj HPk hz1 hgd hu HIk hz HCe HNx
        go_wp2_with (first | (go_at_call 37; refine calls_at HVk.out (by with_reducible rfl) (by with_reducible rfl) ?_; rintro e w1 ⟨rfl, hw1⟩; rw [hw1]; clear hw1) | (go_at_call 31; refine calls_at HVsk.out (by with_reducible rfl) (by with_reducible rfl) ?_; rintro e w3 ⟨v7, rfl, ho3, hb3⟩; (obtain ⟨va, vcap, rfl⟩ := own_slice ho3); (obtain ⟨g7, rfl, cj⟩ := HCj.out w3 va vcap ho3); (obtain ⟨V, hV, HSc, HOV, HBV⟩ := HV2.out z w3 hb3); (have fi := HIk2.out w3 hb3); clear hb3 ho3) | (go_at_call 38; refine calls_at (HPk2.out _) (by with_reducible rfl) (by with_reducible rfl) ?_; rintro e w1 ⟨rfl, hw1⟩; rw [hw1]; clear hw1) | (at_builtin; (try rw [hV]); refine append_src V rfl (.tmp 37) (.tmp 42) 28 3 (.int .i64 0) 1 8 rfl und28 info3 rfl (by decide) w.heap.size _ _ N 1 _ [.int .i64 z] (by rfl) (by rfl) HOV.out HSc.out (by unfold maxLen; omega) (by omega) HBV.out.size ?_; intro v4 w4 g1 g2 g3; (obtain ⟨aa4, ac4, rfl⟩ := own_slice g1)))
        go_roundw
        case rel =>
          obtain ⟨e1, e2⟩ := HEnd.out z HZ1.out w4 aa4 ac4 g1
          exact ⟨k + 1, aa4, ac4, by rw [e1], by go_num, hkn, (by show World.ownsRow _ _ _ _ _ _ _; rw [e1]; exact e2), HBV.out.grown g2 HBV.out.size (fun g hg => (HOV.out.lt g hg).1)⟩
        case measure => simp [intOf]; omega
      · have hkiI : ¬ (k : Int) < (ins.length : Int) := by omega
        have hz1 : wiL s.now ins (k + 1) = T ++ [A[0]] := by rw [HNx.out, if_pos hv0, if_neg hki, List.getD_eq_getElem?_getD, List.getElem?_eq_getElem hv0]; rfl
        obtain ⟨z, hz⟩ : ∃ z, A[0] = z := ⟨_, rfl⟩
        rw [hz] at hz1
        have HZ1 : Hid (wiL s.now ins (k + 1) = T ++ [z]) := hz1
        have HCj : Hid (∀ (w3 : World) (va : Option Addr) (vcap : Nat), w3.ownsRow wr.heap.size 3 1 (.slice va A.length vcap) A.length (A.map (.int .i64)) → ∃ g, va = some ⟨g, 0, none⟩ ∧ w3.cell? ⟨g, 0, none⟩ = some (.int .i64 z)) := fun w3 va vcap ho => by
          obtain ⟨g, e, hc⟩ := HCe.out w3 va vcap ho
          exact ⟨g, e, by rw [← hz]; exact hc 0 hv0⟩
        clear hz1 hz HCe HNx
        go_wp2_with (first | (go_at_call 37; refine calls_at HVk.out (by with_reducible rfl) (by with_reducible rfl) ?_; rintro e w1 ⟨rfl, hw1⟩; rw [hw1]; clear hw1) | (go_at_call 31; refine calls_at HVsk.out (by with_reducible rfl) (by with_reducible rfl) ?_; rintro e w3 ⟨v7, rfl, ho3, hb3⟩; (obtain ⟨va, vcap, rfl⟩ := own_slice ho3); (obtain ⟨g7, rfl, cj⟩ := HCj.out w3 va vcap ho3); (obtain ⟨V, hV, HSc, HOV, HBV⟩ := HV2.out z w3 hb3); clear hb3 ho3) | (at_builtin; (try rw [hV]); refine append_src V rfl (.tmp 37) (.tmp 42) 28 3 (.int .i64 0) 1 8 rfl und28 info3 rfl (by decide) w.heap.size _ _ N 1 _ [.int .i64 z] (by rfl) (by rfl) HOV.out HSc.out (by unfold maxLen; omega) (by omega) HBV.out.size ?_; intro v4 w4 g1 g2 g3; (obtain ⟨aa4, ac4, rfl⟩ := own_slice g1)))
        go_roundw
        case rel =>
          obtain ⟨e1, e2⟩ := HEnd.out z HZ1.out w4 aa4 ac4 g1
          exact ⟨k + 1, aa4, ac4, by rw [e1], by go_num, hkn, (by show World.ownsRow _ _ _ _ _ _ _; rw [e1]; exact e2), HBV.out.grown g2 HBV.out.size (fun g hg => (HOV.out.lt g hg).1)⟩
        case measure => simp [intOf]; omega
  · have hke : k = s.now.length := by omega
    subst hke
    have hkI : ¬ (s.now.length : Int) < (s.now.length : Int) := by omega
    go_wp2_with (go_at_call 37; refine calls_at HVk.out (by with_reducible rfl) (by with_reducible rfl) ?_; rintro e w1 ⟨rfl, hw1⟩; rw [hw1]; clear hw1)
    go_ret
    exact HOu.out _ _ HO.out HBr.out
end Go.Proofs.YtemnbcilmbojhaaGreatDoor
