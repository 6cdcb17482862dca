/-
  Package proof: ProofAlone's walk.
-/
import Derived.Test.YtibbnijicdijnaaGreatDoorJ49
namespace Go.Proofs.YtibbnijicdijnaaGreatDoor
open Go.RowKit

set_option maxRecDepth 20000 in
set_option maxHeartbeats 4000000 in
theorem alone_any (s : ByteArray) (w : World) (hg : Gl w) (h12 : 12 ≤ w.heap.size) : Calls Tryz.prog 5 #[.string s] w fun e w' => e = .returned (.bool true) ∧ Below w.heap.size w w' := by
  have HKn : Hid (Calls Tryz.prog 7 #[] w fun e w' => e = .returned (.bool true) ∧ Below w.heap.size w w') := known_any w hg h12
  have HG : Hid (∀ w', Below w.heap.size w w' → Gl w' ∧ 12 ≤ w'.heap.size) := fun w' hb => ⟨hg.to hb h12, Nat.le_trans h12 hb.size⟩
  have HNum : Hid (∀ n w', Calls Tryz.prog 14 #[.int .i64 n] w' fun e w2 => e = .returned (.int .i64 n) ∧ w2 = w') := num_any
  clear hg h12
  go_enter Tryz.func5, Tryz.ntmps5
  go_wp2_with fail
  refine calls_at HKn.out (by with_reducible rfl) (by with_reducible rfl) ?_
  rintro e w0 ⟨rfl, hb0⟩
  have HB0 : Hid (Below w.heap.size w w0) := hb0
  clear hb0 HKn
  by_cases hs : s.size ≤ 400000
  · have hsI : ¬ (400000 : Int) < (s.size : Int) := by omega
    obtain ⟨xs, hxs⟩ : ∃ xs, lns s.data.toList [] = xs := ⟨_, rfl⟩
    have HRd : Hid (Calls Tryz.prog 15 #[.string s] w0 (ReOut xs w0)) := by rw [← hxs]; exact read_log s w0 hs (HG.out w0 HB0.out).1 (HG.out w0 HB0.out).2
    have HLn : Hid (∀ w', Calls Tryz.prog 16 #[.string s] w' fun e w2 => ∃ a c, e = .returned (.slice a xs.length c) ∧ RdAt w2 (.slice a xs.length c) xs.length (xs.map fun l => .string (txtOf l)) ∧ Below w'.heap.size w' w2) := fun w' => by
      refine (progLines_any s w' hs).mono fun e w2 hq => ?_
      obtain ⟨v, q1, q2, q3⟩ := hq
      rw [hxs] at q2
      obtain ⟨a, c, rfl⟩ := own_slice q2
      exact ⟨a, c, q1, rd_of_own q2 (own_few q2), q3⟩
    have HXl : Hid (∀ i (hi : i < xs.length), xs[i].length ≤ 1000000) := fun i hi => by
      have h := lns_len s.data.toList [] xs[i] (by rw [hxs]; exact List.getElem_mem hi)
      have h' := hs
      rw [Lib.size_eq] at h'
      simp at h h'
      omega
    have hxn : xs.length ≤ 400001 := by
      have h := lns_count s.data.toList []
      have h' := hs
      rw [Lib.size_eq] at h'
      rw [hxs] at h
      omega
    clear hxs
    go_wp2_with fail
    refine calls_at HRd.out (by with_reducible rfl) (by with_reducible rfl) ?_
    rintro e w1 hq
    clear HRd
    rcases hq with ⟨v, rfl, hA⟩ | ⟨u, pre, x0, post, hxe, rfl, hN⟩
    · obtain ⟨va, vc, rfl⟩ : ∃ a c, v = .slice a xs.length c := by
        obtain ⟨⟨L, _, h, _⟩, _⟩ := hA
        have := own_slice h
        simpa using this
      have HB1 : Hid (Below w.heap.size w w1) := bl_next HB0.out hA.2.2
      have HSt : Hid (StsAt w0.heap.size w1 (.slice va xs.length vc) (xs.map gd) ∧ ∀ x ∈ xs, er x = 0) := ⟨hA.1, hA.2.1⟩
      clear hA
      have HT : Hid (Calls Tryz.prog 12 #[.nilIface] w1 fun e w' => e = .returned (.tuple #[.agg #[.int .i64 0, .int .i64 0], .bool true]) ∧ Below w1.heap.size w1 w') := told_nil w1
      go_wp2_with fail
      refine calls_at HT.out (by with_reducible rfl) (by with_reducible rfl) ?_
      rintro e w2 ⟨rfl, hb2⟩
      have HB2 : Hid (Below w1.heap.size w1 w2) := hb2
      clear hb2 HT
      go_wp2_with fail
      obtain ⟨V, hV⟩ : ∃ V, w2.alloc (.cells #[.int .i64 0, .int .i64 0] 32) = V := ⟨_, rfl⟩
      rw [hV]
      have hbV : Below w2.heap.size w2 V := by rw [← hV]; exact (Below.refl _ _).alloc (Nat.le_refl _) _
      have gV : V.heap[w2.heap.size]? = some (.cells #[.int .i64 0, .int .i64 0] 32 (0, 0)) := by rw [← hV]; exact heap_alloc_new w2 _
      refine calls_at (HLn.out V) (by with_reducible rfl) (by with_reducible rfl) ?_
      rintro e w3 ⟨na, nc, rfl, hrd, hb3⟩
      have HRd : Hid (RdAt w3 (.slice na xs.length nc) xs.length (xs.map fun l => .string (txtOf l))) := hrd
      have H13 : Hid (Below w1.heap.size w1 w3) := bl_next (bl_next HB2.out hbV) hb3
      have HF : Hid (∀ w', Below w3.heap.size w3 w' → w'.heap[w2.heap.size]? = some (.cells #[.int .i64 0, .int .i64 0] 32 (0, 0))) := fun w' hb => ((bl_next hb3 hb).block _ (Array.getElem?_eq_some_iff.1 gV).1).trans gV
      have hF := HF.out w3 (Below.refl _ _)
      have f1 := cell_of hF 1
      dsimp at f1
      clear hrd hb3 hbV gV hV hF
      go_wp2_with fail
      go_loopw [8] (fun iv wr => ∃ i : Nat, iv = .int .i64 (i : Int) ∧ i ≤ xs.length ∧ Hid (Below w3.heap.size w3 wr)) (fun iv _ => xs.length - (intOf iv).toNat)
      case atStart => exact ⟨0, rfl, Nat.zero_le _, Below.refl _ _⟩
      case round =>
        obtain ⟨i, rfl, hi, HBr⟩ := hrel
        clear f1
        by_cases hin : i < xs.length
        · have hiI : (i : Int) < (xs.length : Int) := by omega
          have her : er xs[i] = 0 := HSt.out.2 _ (List.getElem_mem hin)
          have hxl := HXl.out i hin
          obtain ⟨lg, loff, rfl, lcell⟩ := (HRd.out.below HBr.out).at i hin
          have hStr : StsAt w0.heap.size wr (.slice va xs.length vc) (xs.map gd) := (HSt.out.1.next H13.out).next HBr.out
          have x0 : wr.cell? ⟨lg, loff + i, none⟩ = some (.string (txtOf xs[i])) := lcell i _ (by simp [hin])
          have hgi : (xs.map gd)[i]'(by simpa using hin) = gd xs[i] := by simp
          obtain ⟨x, hx⟩ : ∃ x, xs[i] = x := ⟨_, rfl⟩
          rw [hx] at her hxl x0 hgi
          have HPa : Hid (Calls Tryz.prog 18 #[.string (txtOf x)] wr fun e w' => ∃ oa oc pa pc la lc ia ic, e = .returned (.tuple #[.agg #[.int .i64 (gd x).k, .string (txtOf (gd x).n), .slice oa (gd x).ops.length oc, .slice pa (gd x).pcs.length pc, .string (txtOf (gd x).deg), .slice la (gd x).lits.length lc, .slice ia (gd x).ids.length ic, .int .i64 (gd x).ends, .string (txtOf (gd x).low), .string (txtOf (gd x).high)], .int .i64 (er x)]) ∧ SlR w' (gd x) (.slice oa (gd x).ops.length oc) (.slice pa (gd x).pcs.length pc) (.slice la (gd x).lits.length lc) (.slice ia (gd x).ids.length ic) ∧ Below wr.heap.size wr w') := parse_out x hxl wr (HG.out wr (bl_next (bl_next HB1.out H13.out) HBr.out)).1
          have hne : (er x != 0) = false := by rw [her]; rfl
          clear her hx hxl lcell
          have HSr : Hid (StsAt w0.heap.size wr (.slice va xs.length vc) (xs.map gd)) := hStr
          clear hStr
          go_wp2_with fail
          refine calls_at HPa.out (by with_reducible rfl) (by with_reducible rfl) ?_
          rintro e w4 ⟨oa, oc, pa, pc, la, lc, ia, ic, rfl, hsl, hb4⟩
          clear HPa x0
          obtain ⟨V, hV⟩ : ∃ V, w4.alloc (.cells #[.int .i64 (gd x).k, .string (txtOf (gd x).n), .slice oa (gd x).ops.length oc, .slice pa (gd x).pcs.length pc, .string (txtOf (gd x).deg), .slice la (gd x).lits.length lc, .slice ia (gd x).ids.length ic, .int .i64 (gd x).ends, .string (txtOf (gd x).low), .string (txtOf (gd x).high)] 45) = V := ⟨_, rfl⟩
          have hbV : Below w4.heap.size w4 V := by rw [← hV]; exact (Below.refl _ _).alloc (Nat.le_refl _) _
          have gV : V.heap[w4.heap.size]? = some (.cells #[.int .i64 (gd x).k, .string (txtOf (gd x).n), .slice oa (gd x).ops.length oc, .slice pa (gd x).pcs.length pc, .string (txtOf (gd x).deg), .slice la (gd x).lits.length lc, .slice ia (gd x).ids.length ic, .int .i64 (gd x).ends, .string (txtOf (gd x).low), .string (txtOf (gd x).high)] 45 (0, 0)) := by rw [← hV]; exact heap_alloc_new w4 _
          have hlt := (Array.getElem?_eq_some_iff.1 gV).1
          have hrV : Below wr.heap.size wr V := bl_next hb4 hbV
          obtain ⟨g, vo2, vp2, vl2, vi2, rfl, hsl2, hc2⟩ := sts_get (HSr.out.next hrV) i (by simpa using hin)
          rw [hgi] at hsl2 hc2
          obtain ⟨oa2, oc2, rfl, _, _⟩ := id hsl2.o
          obtain ⟨pa2, pc2, rfl, _, _⟩ := id hsl2.p
          obtain ⟨la2, lc2, rfl, _, _⟩ := id hsl2.l
          obtain ⟨ia2, ic2, rfl, _, _⟩ := id hsl2.i
          have hgl : g < V.heap.size := by
            have h := hc2 0 (by omega)
            refine Nat.lt_of_not_le fun hle => ?_
            simp [World.cell?, Array.getElem?_eq_none hle, slC] at h
          have HS : Hid (∀ w', Below V.heap.size V w' → w'.cell? ⟨w2.heap.size, 1, none⟩ = some (.int .i64 0) ∧ (w'.cell? ⟨w4.heap.size, 0, none⟩ = some (.int .i64 (gd x).k) ∧ w'.cell? ⟨w4.heap.size, 1, none⟩ = some (.string (txtOf (gd x).n)) ∧ w'.cell? ⟨w4.heap.size, 2, none⟩ = some (.slice oa (gd x).ops.length oc) ∧ w'.cell? ⟨w4.heap.size, 3, none⟩ = some (.slice pa (gd x).pcs.length pc) ∧ w'.cell? ⟨w4.heap.size, 4, none⟩ = some (.string (txtOf (gd x).deg)) ∧ w'.cell? ⟨w4.heap.size, 5, none⟩ = some (.slice la (gd x).lits.length lc) ∧ w'.cell? ⟨w4.heap.size, 6, none⟩ = some (.slice ia (gd x).ids.length ic) ∧ w'.cell? ⟨w4.heap.size, 7, none⟩ = some (.int .i64 (gd x).ends) ∧ w'.cell? ⟨w4.heap.size, 8, none⟩ = some (.string (txtOf (gd x).low)) ∧ w'.cell? ⟨w4.heap.size, 9, none⟩ = some (.string (txtOf (gd x).high))) ∧ (w'.cell? ⟨g, i * 10, none⟩ = some (.int .i64 (gd x).k) ∧ w'.cell? ⟨g, i * 10 + 1, none⟩ = some (.string (txtOf (gd x).n)) ∧ w'.cell? ⟨g, i * 10 + 2, none⟩ = some (.slice oa2 (gd x).ops.length oc2) ∧ w'.cell? ⟨g, i * 10 + 3, none⟩ = some (.slice pa2 (gd x).pcs.length pc2) ∧ w'.cell? ⟨g, i * 10 + 4, none⟩ = some (.string (txtOf (gd x).deg)) ∧ w'.cell? ⟨g, i * 10 + 5, none⟩ = some (.slice la2 (gd x).lits.length lc2) ∧ w'.cell? ⟨g, i * 10 + 6, none⟩ = some (.slice ia2 (gd x).ids.length ic2) ∧ w'.cell? ⟨g, i * 10 + 7, none⟩ = some (.int .i64 (gd x).ends) ∧ w'.cell? ⟨g, i * 10 + 8, none⟩ = some (.string (txtOf (gd x).low)) ∧ w'.cell? ⟨g, i * 10 + 9, none⟩ = some (.string (txtOf (gd x).high)))) := fun w' hb => by
            have h1 := (hb.block _ hlt).trans gV
            have h2 := HF.out w' (bl_next (bl_next HBr.out hrV) hb)
            have h3 := fun j hj => (hb.cell (p := ⟨g, i * 10 + j, none⟩) hgl).trans (hc2 j hj)
            exact ⟨cell_of h2 1, ⟨cell_of h1 0, cell_of h1 1, cell_of h1 2, cell_of h1 3, cell_of h1 4, cell_of h1 5, cell_of h1 6, cell_of h1 7, cell_of h1 8, cell_of h1 9⟩, h3 0 (by omega), h3 1 (by omega), h3 2 (by omega), h3 3 (by omega), h3 4 (by omega), h3 5 (by omega), h3 6 (by omega), h3 7 (by omega), h3 8 (by omega), h3 9 (by omega)⟩
          have HB5 : Hid (Below w3.heap.size w3 V) := bl_next HBr.out hrV
          have HSm : Hid (Calls Tryz.prog 19 #[.agg #[.int .i64 (gd x).k, .string (txtOf (gd x).n), .slice oa (gd x).ops.length oc, .slice pa (gd x).pcs.length pc, .string (txtOf (gd x).deg), .slice la (gd x).lits.length lc, .slice ia (gd x).ids.length ic, .int .i64 (gd x).ends, .string (txtOf (gd x).low), .string (txtOf (gd x).high)], .agg #[.int .i64 (gd x).k, .string (txtOf (gd x).n), .slice oa2 (gd x).ops.length oc2, .slice pa2 (gd x).pcs.length pc2, .string (txtOf (gd x).deg), .slice la2 (gd x).lits.length lc2, .slice ia2 (gd x).ids.length ic2, .int .i64 (gd x).ends, .string (txtOf (gd x).low), .string (txtOf (gd x).high)]] V.drew fun e w' => e = .returned (.bool true) ∧ Below V.drew.heap.size V.drew w') := same_eq (gd x) _ _ _ _ _ _ _ _ V.drew ((hsl.below hbV).below (Below.refl _ _).drew) (hsl2.below (Below.refl _ _).drew)
          clear hbV gV hlt hrV hsl hsl2 hc2 hgl hb4 hgi
          go_wp2_with fail
          refine calls_at (HNum.out _ _) (by with_reducible rfl) (by with_reducible rfl) ?_
          rintro e w6 ⟨rfl, h6⟩
          rw [h6]
          clear h6
          go_wp2_with fail
          refine wp_region_T (fun w' => w'.cell? ⟨w2.heap.size, 1, none⟩ = some (.int .i64 0) ∧ (w'.cell? ⟨w4.heap.size, 0, none⟩ = some (.int .i64 (gd x).k) ∧ w'.cell? ⟨w4.heap.size, 1, none⟩ = some (.string (txtOf (gd x).n)) ∧ w'.cell? ⟨w4.heap.size, 2, none⟩ = some (.slice oa (gd x).ops.length oc) ∧ w'.cell? ⟨w4.heap.size, 3, none⟩ = some (.slice pa (gd x).pcs.length pc) ∧ w'.cell? ⟨w4.heap.size, 4, none⟩ = some (.string (txtOf (gd x).deg)) ∧ w'.cell? ⟨w4.heap.size, 5, none⟩ = some (.slice la (gd x).lits.length lc) ∧ w'.cell? ⟨w4.heap.size, 6, none⟩ = some (.slice ia (gd x).ids.length ic) ∧ w'.cell? ⟨w4.heap.size, 7, none⟩ = some (.int .i64 (gd x).ends) ∧ w'.cell? ⟨w4.heap.size, 8, none⟩ = some (.string (txtOf (gd x).low)) ∧ w'.cell? ⟨w4.heap.size, 9, none⟩ = some (.string (txtOf (gd x).high))) ∧ (w'.cell? ⟨g, i * 10, none⟩ = some (.int .i64 (gd x).k) ∧ w'.cell? ⟨g, i * 10 + 1, none⟩ = some (.string (txtOf (gd x).n)) ∧ w'.cell? ⟨g, i * 10 + 2, none⟩ = some (.slice oa2 (gd x).ops.length oc2) ∧ w'.cell? ⟨g, i * 10 + 3, none⟩ = some (.slice pa2 (gd x).pcs.length pc2) ∧ w'.cell? ⟨g, i * 10 + 4, none⟩ = some (.string (txtOf (gd x).deg)) ∧ w'.cell? ⟨g, i * 10 + 5, none⟩ = some (.slice la2 (gd x).lits.length lc2) ∧ w'.cell? ⟨g, i * 10 + 6, none⟩ = some (.slice ia2 (gd x).ids.length ic2) ∧ w'.cell? ⟨g, i * 10 + 7, none⟩ = some (.int .i64 (gd x).ends) ∧ w'.cell? ⟨g, i * 10 + 8, none⟩ = some (.string (txtOf (gd x).low)) ∧ w'.cell? ⟨g, i * 10 + 9, none⟩ = some (.string (txtOf (gd x).high)))) (fun _ => True) [] (by kernel_rfl) ⟨HS.out _ (Below.refl _ _).drew, trivial⟩ (fun hHeld => ?_)
          have HS2 : Hid (∀ w', Below V.drew.heap.size V.drew w' → w'.cell? ⟨w2.heap.size, 1, none⟩ = some (.int .i64 0) ∧ (w'.cell? ⟨w4.heap.size, 0, none⟩ = some (.int .i64 (gd x).k) ∧ w'.cell? ⟨w4.heap.size, 1, none⟩ = some (.string (txtOf (gd x).n)) ∧ w'.cell? ⟨w4.heap.size, 2, none⟩ = some (.slice oa (gd x).ops.length oc) ∧ w'.cell? ⟨w4.heap.size, 3, none⟩ = some (.slice pa (gd x).pcs.length pc) ∧ w'.cell? ⟨w4.heap.size, 4, none⟩ = some (.string (txtOf (gd x).deg)) ∧ w'.cell? ⟨w4.heap.size, 5, none⟩ = some (.slice la (gd x).lits.length lc) ∧ w'.cell? ⟨w4.heap.size, 6, none⟩ = some (.slice ia (gd x).ids.length ic) ∧ w'.cell? ⟨w4.heap.size, 7, none⟩ = some (.int .i64 (gd x).ends) ∧ w'.cell? ⟨w4.heap.size, 8, none⟩ = some (.string (txtOf (gd x).low)) ∧ w'.cell? ⟨w4.heap.size, 9, none⟩ = some (.string (txtOf (gd x).high))) ∧ (w'.cell? ⟨g, i * 10, none⟩ = some (.int .i64 (gd x).k) ∧ w'.cell? ⟨g, i * 10 + 1, none⟩ = some (.string (txtOf (gd x).n)) ∧ w'.cell? ⟨g, i * 10 + 2, none⟩ = some (.slice oa2 (gd x).ops.length oc2) ∧ w'.cell? ⟨g, i * 10 + 3, none⟩ = some (.slice pa2 (gd x).pcs.length pc2) ∧ w'.cell? ⟨g, i * 10 + 4, none⟩ = some (.string (txtOf (gd x).deg)) ∧ w'.cell? ⟨g, i * 10 + 5, none⟩ = some (.slice la2 (gd x).lits.length lc2) ∧ w'.cell? ⟨g, i * 10 + 6, none⟩ = some (.slice ia2 (gd x).ids.length ic2) ∧ w'.cell? ⟨g, i * 10 + 7, none⟩ = some (.int .i64 (gd x).ends) ∧ w'.cell? ⟨g, i * 10 + 8, none⟩ = some (.string (txtOf (gd x).low)) ∧ w'.cell? ⟨g, i * 10 + 9, none⟩ = some (.string (txtOf (gd x).high)))) := fun w' hb => HS.out w' (bl_next (Below.refl _ _).drew hb)
          have HB6 : Hid (Below w3.heap.size w3 V.drew) := bl_next HB5.out (Below.refl _ _).drew
          clear hV HS HB5
          generalize V.drew = U at hHeld HS2 HSm HB6 ⊢
          refine wpAnyT_takeB (i := 0) (oi := ⟨some 81, .fieldAddr 32 (.tmp 5) 1, _, _, _, _⟩) (v := ?va0) rfl (by kernel_rfl) (by kernel_rfl) (by kernel_rfl) (by kernel_rfl) (fun _ _ _ h => h) (Or.inl ⟨by rfl, ?hya0⟩) (by assumption) ?resta0
          case hya0 => (intro w hSw; (try dsimp only at hSw); obtain ⟨t1, ⟨s0, s1, s2, s3, s4, s5, s6, s7, s8, s9⟩, r0, r1, r2, r3, r4, r5, r6, r7, r8, r9⟩ := hSw; go_simp; try (first | (with_reducible rfl) | exact (wrap_id (by omega) (by omega)).symm))
          try simp only [Act.put, List.setIfInBounds_toArray, List.set_cons_zero, List.set_cons_succ]
          refine wpAnyT_takeB (i := 1) (oi := ⟨some 82, .load 3 (.tmp 81), _, _, _, _⟩) (v := ?va1) rfl (by kernel_rfl) (by kernel_rfl) (by kernel_rfl) (by kernel_rfl) (fun _ _ _ h => h) (Or.inl ⟨by rfl, ?hya1⟩) (by assumption) ?resta1
          case hya1 => (intro w hSw; (try dsimp only at hSw); obtain ⟨t1, ⟨s0, s1, s2, s3, s4, s5, s6, s7, s8, s9⟩, r0, r1, r2, r3, r4, r5, r6, r7, r8, r9⟩ := hSw; go_simp; try (first | (with_reducible rfl) | exact (wrap_id (by omega) (by omega)).symm))
          try simp only [Act.put, List.setIfInBounds_toArray, List.set_cons_zero, List.set_cons_succ]
          refine wpAnyT_takeB (i := 2) (oi := ⟨some 83, .binOp .eql 3 (.tmp 82) (.const (.int .i64 0)) 3, _, _, _, _⟩) (v := ?va2) rfl (by kernel_rfl) (by kernel_rfl) (by kernel_rfl) (by kernel_rfl) (fun _ _ _ h => h) (Or.inl ⟨by rfl, ?hya2⟩) (by assumption) ?resta2
          case hya2 => (intro w hSw; (try dsimp only at hSw); obtain ⟨t1, ⟨s0, s1, s2, s3, s4, s5, s6, s7, s8, s9⟩, r0, r1, r2, r3, r4, r5, r6, r7, r8, r9⟩ := hSw; go_simp; try (first | (with_reducible rfl) | exact (wrap_id (by omega) (by omega)).symm))
          try simp only [Act.put, List.setIfInBounds_toArray, List.set_cons_zero, List.set_cons_succ]
          refine wpAnyT_takeB (i := 3) (oi := ⟨some 84, .move (.tmp 83), _, _, _, _⟩) (v := ?va3) rfl (by kernel_rfl) (by kernel_rfl) (by kernel_rfl) (by kernel_rfl) (fun _ _ _ h => h) (Or.inl ⟨by rfl, ?hya3⟩) (by assumption) ?resta3
          case hya3 => (intro w hSw; (try dsimp only at hSw); obtain ⟨t1, ⟨s0, s1, s2, s3, s4, s5, s6, s7, s8, s9⟩, r0, r1, r2, r3, r4, r5, r6, r7, r8, r9⟩ := hSw; go_simp; try (first | (with_reducible rfl) | exact (wrap_id (by omega) (by omega)).symm))
          try simp only [Act.put, List.setIfInBounds_toArray, List.set_cons_zero, List.set_cons_succ]
          refine wpAnyT_takeB (i := 4) (oi := ⟨some 85, .load 45 (.tmp 9), _, _, _, _⟩) (v := ?va4) rfl (by kernel_rfl) (by kernel_rfl) (by kernel_rfl) (by kernel_rfl) (fun _ _ _ h => h) (Or.inl ⟨by rfl, ?hya4⟩) (by assumption) ?resta4
          case hya4 => (intro w hSw; (try dsimp only at hSw); obtain ⟨t1, ⟨s0, s1, s2, s3, s4, s5, s6, s7, s8, s9⟩, r0, r1, r2, r3, r4, r5, r6, r7, r8, r9⟩ := hSw; go_simp; try (first | (with_reducible rfl) | exact (wrap_id (by omega) (by omega)).symm))
          try simp only [Act.put, List.setIfInBounds_toArray, List.set_cons_zero, List.set_cons_succ]
          refine wpAnyT_takeB (i := 5) (oi := ⟨some 86, .move (.tmp 3), _, _, _, _⟩) (v := ?va5) rfl (by kernel_rfl) (by kernel_rfl) (by kernel_rfl) (by kernel_rfl) (fun _ _ _ h => h) (Or.inl ⟨by rfl, ?hya5⟩) (by assumption) ?resta5
          case hya5 => (intro w hSw; (try dsimp only at hSw); obtain ⟨t1, ⟨s0, s1, s2, s3, s4, s5, s6, s7, s8, s9⟩, r0, r1, r2, r3, r4, r5, r6, r7, r8, r9⟩ := hSw; go_simp; try (first | (with_reducible rfl) | exact (wrap_id (by omega) (by omega)).symm))
          try simp only [Act.put, List.setIfInBounds_toArray, List.set_cons_zero, List.set_cons_succ]
          refine wpAnyT_takeB (i := 6) (oi := ⟨some 87, .move (.tmp 8), _, _, _, _⟩) (v := ?va6) rfl (by kernel_rfl) (by kernel_rfl) (by kernel_rfl) (by kernel_rfl) (fun _ _ _ h => h) (Or.inl ⟨by rfl, ?hya6⟩) (by assumption) ?resta6
          case hya6 => (intro w hSw; (try dsimp only at hSw); obtain ⟨t1, ⟨s0, s1, s2, s3, s4, s5, s6, s7, s8, s9⟩, r0, r1, r2, r3, r4, r5, r6, r7, r8, r9⟩ := hSw; go_simp; try (first | (with_reducible rfl) | exact (wrap_id (by omega) (by omega)).symm))
          try simp only [Act.put, List.setIfInBounds_toArray, List.set_cons_zero, List.set_cons_succ]
          refine wpAnyT_takeB (i := 7) (oi := ⟨some 88, .indexAddr 22 (.tmp 86) (.tmp 87), _, _, _, _⟩) (v := ?va7) rfl (by kernel_rfl) (by kernel_rfl) (by kernel_rfl) (by kernel_rfl) (fun _ _ _ h => h) (Or.inl ⟨by rfl, ?hya7⟩) (by assumption) ?resta7
          case hya7 => (intro w hSw; (try dsimp only at hSw); obtain ⟨t1, ⟨s0, s1, s2, s3, s4, s5, s6, s7, s8, s9⟩, r0, r1, r2, r3, r4, r5, r6, r7, r8, r9⟩ := hSw; go_simp; try (first | (with_reducible rfl) | exact (wrap_id (by omega) (by omega)).symm))
          try simp only [Act.put, List.setIfInBounds_toArray, List.set_cons_zero, List.set_cons_succ]
          refine wpAnyT_takeB (i := 8) (oi := ⟨some 89, .load 45 (.tmp 88), _, _, _, _⟩) (v := ?va8) rfl (by kernel_rfl) (by kernel_rfl) (by kernel_rfl) (by kernel_rfl) (fun _ _ _ h => h) (Or.inl ⟨by rfl, ?hya8⟩) (by assumption) ?resta8
          case hya8 => (intro w hSw; (try dsimp only at hSw); obtain ⟨t1, ⟨s0, s1, s2, s3, s4, s5, s6, s7, s8, s9⟩, r0, r1, r2, r3, r4, r5, r6, r7, r8, r9⟩ := hSw; go_simp; try (first | (with_reducible rfl) | exact (wrap_id (by omega) (by omega)).symm))
          try simp only [Act.put, List.setIfInBounds_toArray, List.set_cons_zero, List.set_cons_succ]
          clear hHeld
          refine wpAnyT_one (i := 9) (o := ⟨some 90, .call { callee := .value (.func 19), args := #[(.tmp 85), (.tmp 89)], argTypes := #[45, 45] }, _, _, _, _⟩) (by kernel_rfl) rfl (fun K hK => ?_)
          go_simp
          refine calls_at HSm.out (by with_reducible rfl) (by with_reducible rfl) ?_
          rintro e w7 ⟨rfl, hb7⟩
          have HB7 : Hid (Below U.heap.size U w7) := hb7
          clear hb7
          go_wp2_with fail
          have hHeld := (⟨HS2.out _ HB7.out, trivial⟩ : _ ∧ True)
          refine hK.out _ _ ⟨hHeld.1, fun _ => trivial⟩ ?_
          clear hK K
          try simp only [Act.put, List.setIfInBounds_toArray, List.set_cons_zero, List.set_cons_succ]
          refine wpAnyT_takeB (i := 10) (oi := ⟨some 91, .unOp .not 4 (.tmp 90), _, _, _, _⟩) (v := ?vb10) rfl (by kernel_rfl) (by kernel_rfl) (by kernel_rfl) (by kernel_rfl) (fun _ _ _ h => h) (Or.inl ⟨by rfl, ?hyb10⟩) (by assumption) ?restb10
          case hyb10 => (intro w hSw; (try dsimp only at hSw); obtain ⟨t1, ⟨s0, s1, s2, s3, s4, s5, s6, s7, s8, s9⟩, r0, r1, r2, r3, r4, r5, r6, r7, r8, r9⟩ := hSw; go_simp; try (first | (with_reducible rfl) | exact (wrap_id (by omega) (by omega)).symm))
          try simp only [Act.put, List.setIfInBounds_toArray, List.set_cons_zero, List.set_cons_succ]
          refine wpAnyT_takeB (i := 11) (oi := ⟨some 92, .pick (.tmp 84) (.tmp 91) (.const (.bool false)), _, _, _, _⟩) (v := ?vb11) rfl (by kernel_rfl) (by kernel_rfl) (by kernel_rfl) (by kernel_rfl) (fun _ _ _ h => h) (Or.inl ⟨by rfl, ?hyb11⟩) (by assumption) ?restb11
          case hyb11 => (intro w hSw; (try dsimp only at hSw); obtain ⟨t1, ⟨s0, s1, s2, s3, s4, s5, s6, s7, s8, s9⟩, r0, r1, r2, r3, r4, r5, r6, r7, r8, r9⟩ := hSw; go_simp; try (first | (with_reducible rfl) | exact (wrap_id (by omega) (by omega)).symm))
          try simp only [Act.put, List.setIfInBounds_toArray, List.set_cons_zero, List.set_cons_succ]
          refine wpAnyT_done (by kernel_rfl) ?_ _
          have HB8 : Hid (Below w3.heap.size w3 w7) := bl_next HB6.out HB7.out
          clear hHeld HS2 HSm HB6 HB7
          go_wp2_with fail
          go_roundw
          case rel => exact ⟨i + 1, by go_num, hin, HB8⟩
          case measure => simp [intOf]; omega
        · have hiI : ¬ (i : Int) < (xs.length : Int) := by omega
          have f1 := cell_of (HF.out wr HBr.out) 1
          dsimp at f1
          have HE : Hid (Below w.heap.size w wr) := bl_next (bl_next HB1.out H13.out) HBr.out
          go_wp2_with fail
          go_ret
          exact ⟨rfl, HE.out⟩
    · obtain ⟨p1, y1, f, hpe, hgood, hbad, rfl, hff, _, hb1⟩ := hN
      obtain ⟨rfl, h1⟩ := List.append_inj' hpe rfl
      injection h1 with h1
      subst h1
      have hrng : 80 ≤ er x0 ∧ er x0 ≤ 82 := (er_range x0).resolve_left hbad
      have hn0 : (er x0 != 0) = true := by simpa using hbad
      have hq0 : (er x0 == 0) = false := by simpa using hbad
      have HX0 : Hid (er x0 ≠ 0) := hbad
      have HGd : Hid (∀ y ∈ pre, er y = 0) := hgood
      have HXe : Hid (xs = pre ++ x0 :: post) := hxe
      have hpl : pre.length < xs.length := by rw [hxe]; simp
      have HB1 : Hid (Below w.heap.size w w1) := bl_next HB0.out hb1
      have HT : Hid (Calls Tryz.prog 12 #[.iface 95 (.pointer (some ⟨f, 0, none⟩))] w1 fun e w' => e = .returned (.tuple #[.agg #[.int .i64 (pre.length + 1), .int .i64 (er x0)], .bool true]) ∧ Below w1.heap.size w1 w') := told_hit _ _ f w1 hff hrng.1 hrng.2
      clear hpe hbad hgood hff hb1 hrng hxe
      go_wp2_with fail
      refine calls_at HT.out (by with_reducible rfl) (by with_reducible rfl) ?_
      rintro e w2 ⟨rfl, hb2⟩
      have HB2 : Hid (Below w1.heap.size w1 w2) := hb2
      clear hb2 HT
      go_wp2_with fail
      obtain ⟨V, hV⟩ : ∃ V, w2.alloc (.cells #[.int .i64 (pre.length + 1), .int .i64 (er x0)] 32) = V := ⟨_, rfl⟩
      rw [hV]
      have hbV : Below w2.heap.size w2 V := by rw [← hV]; exact (Below.refl _ _).alloc (Nat.le_refl _) _
      have gV : V.heap[w2.heap.size]? = some (.cells #[.int .i64 (pre.length + 1), .int .i64 (er x0)] 32 (0, 0)) := by rw [← hV]; exact heap_alloc_new w2 _
      refine calls_at (HLn.out V) (by with_reducible rfl) (by with_reducible rfl) ?_
      rintro e w3 ⟨na, nc, rfl, hrd, hb3⟩
      have HRd : Hid (RdAt w3 (.slice na xs.length nc) xs.length (xs.map fun l => .string (txtOf l))) := hrd
      have H13 : Hid (Below w1.heap.size w1 w3) := bl_next (bl_next HB2.out hbV) hb3
      have HF : Hid (∀ w', Below w3.heap.size w3 w' → w'.heap[w2.heap.size]? = some (.cells #[.int .i64 (pre.length + 1), .int .i64 (er x0)] 32 (0, 0))) := fun w' hb => ((bl_next hb3 hb).block _ (Array.getElem?_eq_some_iff.1 gV).1).trans gV
      have hF := HF.out w3 (Below.refl _ _)
      have f1 := cell_of hF 1
      dsimp at f1
      clear hrd hb3 hbV gV hV hF
      go_wp2_with fail
      go_loopw [8] (fun iv wr => ∃ i : Nat, iv = .int .i64 (i : Int) ∧ i ≤ pre.length ∧ Hid (Below w3.heap.size w3 wr)) (fun iv _ => pre.length - (intOf iv).toNat)
      case atStart => exact ⟨0, rfl, Nat.zero_le _, Below.refl _ _⟩
      case round =>
        obtain ⟨i, rfl, hi, HBr⟩ := hrel
        clear f1
        have hin : i < xs.length := by omega
        have hiI : (i : Int) < (xs.length : Int) := by omega
        have hxl := HXl.out i hin
        obtain ⟨lg, loff, rfl, lcell⟩ := (HRd.out.below HBr.out).at i hin
        have x0c : wr.cell? ⟨lg, loff + i, none⟩ = some (.string (txtOf xs[i])) := lcell i _ (by simp [hin])
        have hwhich : (i < pre.length ∧ er xs[i] = 0) ∨ (i = pre.length ∧ xs[i] = x0) := by
          have hx := HXe.out
          rcases Nat.lt_or_eq_of_le hi with h | h
          · refine .inl ⟨h, HGd.out _ ?_⟩
            have : xs[i] = pre[i] := by simp only [hx]; rw [List.getElem_append_left h]
            rw [this]; exact List.getElem_mem h
          · refine .inr ⟨h, ?_⟩
            subst h
            simp only [hx]
            simp
        obtain ⟨x, hx⟩ : ∃ x, xs[i] = x := ⟨_, rfl⟩
        rw [hx] at hxl x0c hwhich
        have HPa : Hid (Calls Tryz.prog 18 #[.string (txtOf x)] wr fun e w' => ∃ oa oc pa pc la lc ia ic, e = .returned (.tuple #[.agg #[.int .i64 (gd x).k, .string (txtOf (gd x).n), .slice oa (gd x).ops.length oc, .slice pa (gd x).pcs.length pc, .string (txtOf (gd x).deg), .slice la (gd x).lits.length lc, .slice ia (gd x).ids.length ic, .int .i64 (gd x).ends, .string (txtOf (gd x).low), .string (txtOf (gd x).high)], .int .i64 (er x)]) ∧ SlR w' (gd x) (.slice oa (gd x).ops.length oc) (.slice pa (gd x).pcs.length pc) (.slice la (gd x).lits.length lc) (.slice ia (gd x).ids.length ic) ∧ Below wr.heap.size wr w') := parse_out x hxl wr (HG.out wr (bl_next (bl_next HB1.out H13.out) HBr.out)).1
        clear hx hxl lcell
        rcases hwhich with ⟨hip, her⟩ | ⟨hie, rfl⟩
        · have hne : (er x != 0) = false := by rw [her]; rfl
          clear her
          go_wp2_with fail
          refine calls_at HPa.out (by with_reducible rfl) (by with_reducible rfl) ?_
          rintro e w4 ⟨oa, oc, pa, pc, la, lc, ia, ic, rfl, hsl, hb4⟩
          clear HPa x0c hsl
          obtain ⟨V, hV⟩ : ∃ V, w4.alloc (.cells #[.int .i64 (gd x).k, .string (txtOf (gd x).n), .slice oa (gd x).ops.length oc, .slice pa (gd x).pcs.length pc, .string (txtOf (gd x).deg), .slice la (gd x).lits.length lc, .slice ia (gd x).ids.length ic, .int .i64 (gd x).ends, .string (txtOf (gd x).low), .string (txtOf (gd x).high)] 45) = V := ⟨_, rfl⟩
          have hbV : Below w4.heap.size w4 V := by rw [← hV]; exact (Below.refl _ _).alloc (Nat.le_refl _) _
          have HB5 : Hid (Below w3.heap.size w3 V) := bl_next HBr.out (bl_next hb4 hbV)
          clear hbV hb4
          go_wp2_with fail
          refine calls_at (HNum.out _ _) (by with_reducible rfl) (by with_reducible rfl) ?_
          rintro e w6 ⟨rfl, h6⟩
          rw [h6]
          clear h6
          go_wp2_with fail
          have HS2 : Hid (∀ w', Below V.drew.heap.size V.drew w' → w'.cell? ⟨w2.heap.size, 0, none⟩ = some (.int .i64 (pre.length + 1)) ∧ w'.cell? ⟨w2.heap.size, 1, none⟩ = some (.int .i64 (er x0))) := fun w' hb => by
            have h := HF.out w' (bl_next (bl_next HB5.out (Below.refl _ _).drew) hb)
            exact ⟨cell_of h 0, cell_of h 1⟩
          refine wp_region_T (fun w' => w'.cell? ⟨w2.heap.size, 0, none⟩ = some (.int .i64 (pre.length + 1)) ∧ w'.cell? ⟨w2.heap.size, 1, none⟩ = some (.int .i64 (er x0))) (fun _ => True) [] (by kernel_rfl) ⟨HS2.out _ (Below.refl _ _), trivial⟩ (fun hHeld => ?_)
          have HB6 : Hid (Below w3.heap.size w3 V.drew) := bl_next HB5.out (Below.refl _ _).drew
          clear hV HB5
          generalize V.drew = U at hHeld HS2 HB6 ⊢
          refine wpAnyT_takeB (i := 0) (oi := ⟨some 81, .fieldAddr 32 (.tmp 5) 1, _, _, _, _⟩) (v := ?vc0) rfl (by kernel_rfl) (by kernel_rfl) (by kernel_rfl) (by kernel_rfl) (fun _ _ _ h => h) (Or.inl ⟨by rfl, ?hyc0⟩) (by assumption) ?restc0
          case hyc0 => (intro w hSw; (try dsimp only at hSw); obtain ⟨t0, t1⟩ := hSw; go_simp; try (first | (with_reducible rfl) | exact (wrap_id (by omega) (by omega)).symm))
          try simp only [Act.put, List.setIfInBounds_toArray, List.set_cons_zero, List.set_cons_succ]
          refine wpAnyT_takeB (i := 1) (oi := ⟨some 82, .load 3 (.tmp 81), _, _, _, _⟩) (v := ?vc1) rfl (by kernel_rfl) (by kernel_rfl) (by kernel_rfl) (by kernel_rfl) (fun _ _ _ h => h) (Or.inl ⟨by rfl, ?hyc1⟩) (by assumption) ?restc1
          case hyc1 => (intro w hSw; (try dsimp only at hSw); obtain ⟨t0, t1⟩ := hSw; go_simp; try (first | (with_reducible rfl) | exact (wrap_id (by omega) (by omega)).symm))
          try simp only [Act.put, List.setIfInBounds_toArray, List.set_cons_zero, List.set_cons_succ]
          refine wpAnyT_takeB (i := 2) (oi := ⟨some 83, .binOp .eql 3 (.tmp 82) (.const (.int .i64 0)) 3, _, _, _, _⟩) (v := ?vc2) rfl (by kernel_rfl) (by kernel_rfl) (by kernel_rfl) (by kernel_rfl) (fun _ _ _ h => h) (Or.inl ⟨by rfl, ?hyc2⟩) (by assumption) ?restc2
          case hyc2 => (intro w hSw; (try dsimp only at hSw); obtain ⟨t0, t1⟩ := hSw; go_simp; try (first | (with_reducible rfl) | exact (wrap_id (by omega) (by omega)).symm))
          try simp only [Act.put, List.setIfInBounds_toArray, List.set_cons_zero, List.set_cons_succ]
          refine wpAnyT_takeB (i := 3) (oi := ⟨some 84, .move (.tmp 83), _, _, _, _⟩) (v := ?vc3) rfl (by kernel_rfl) (by kernel_rfl) (by kernel_rfl) (by kernel_rfl) (fun _ _ _ h => h) (Or.inl ⟨by rfl, ?hyc3⟩) (by assumption) ?restc3
          case hyc3 => (intro w hSw; (try dsimp only at hSw); obtain ⟨t0, t1⟩ := hSw; go_simp; try (first | (with_reducible rfl) | exact (wrap_id (by omega) (by omega)).symm))
          try simp only [Act.put, List.setIfInBounds_toArray, List.set_cons_zero, List.set_cons_succ]
          refine wpAnyT_takeB (i := 4) (oi := ⟨some 85, .load 45 (.tmp 9), _, _, _, _⟩) (v := undef) rfl (by kernel_rfl) (by kernel_rfl) (by kernel_rfl) (by kernel_rfl) (fun _ _ _ h => h) (Or.inr ⟨by rfl, rfl⟩) (by assumption) ?restc4
          try simp only [Act.put, List.setIfInBounds_toArray, List.set_cons_zero, List.set_cons_succ]
          refine wpAnyT_takeB (i := 5) (oi := ⟨some 86, .move (.tmp 3), _, _, _, _⟩) (v := undef) rfl (by kernel_rfl) (by kernel_rfl) (by kernel_rfl) (by kernel_rfl) (fun _ _ _ h => h) (Or.inr ⟨by rfl, rfl⟩) (by assumption) ?restc5
          try simp only [Act.put, List.setIfInBounds_toArray, List.set_cons_zero, List.set_cons_succ]
          refine wpAnyT_takeB (i := 6) (oi := ⟨some 87, .move (.tmp 8), _, _, _, _⟩) (v := undef) rfl (by kernel_rfl) (by kernel_rfl) (by kernel_rfl) (by kernel_rfl) (fun _ _ _ h => h) (Or.inr ⟨by rfl, rfl⟩) (by assumption) ?restc6
          try simp only [Act.put, List.setIfInBounds_toArray, List.set_cons_zero, List.set_cons_succ]
          refine wpAnyT_takeB (i := 7) (oi := ⟨some 88, .indexAddr 22 (.tmp 86) (.tmp 87), _, _, _, _⟩) (v := undef) rfl (by kernel_rfl) (by kernel_rfl) (by kernel_rfl) (by kernel_rfl) (fun _ _ _ h => h) (Or.inr ⟨by rfl, rfl⟩) (by assumption) ?restc7
          try simp only [Act.put, List.setIfInBounds_toArray, List.set_cons_zero, List.set_cons_succ]
          refine wpAnyT_takeB (i := 8) (oi := ⟨some 89, .load 45 (.tmp 88), _, _, _, _⟩) (v := undef) rfl (by kernel_rfl) (by kernel_rfl) (by kernel_rfl) (by kernel_rfl) (fun _ _ _ h => h) (Or.inr ⟨by rfl, rfl⟩) (by assumption) ?restc8
          try simp only [Act.put, List.setIfInBounds_toArray, List.set_cons_zero, List.set_cons_succ]
          refine wpAnyT_one (i := 9) (o := ⟨some 90, .call { callee := .value (.func 19), args := #[(.tmp 85), (.tmp 89)], argTypes := #[45, 45] }, _, _, _, _⟩) (by kernel_rfl) rfl (fun K hK => ?_)
          go_simp
          refine hK.out _ _ ⟨hHeld.1, fun _ => trivial⟩ ?_
          clear hK K
          try simp only [Act.put, List.setIfInBounds_toArray, List.set_cons_zero, List.set_cons_succ]
          refine wpAnyT_takeB (i := 10) (oi := ⟨some 91, .unOp .not 4 (.tmp 90), _, _, _, _⟩) (v := undef) rfl (by kernel_rfl) (by kernel_rfl) (by kernel_rfl) (by kernel_rfl) (fun _ _ _ h => h) (Or.inr ⟨by rfl, rfl⟩) (by assumption) ?restd10
          try simp only [Act.put, List.setIfInBounds_toArray, List.set_cons_zero, List.set_cons_succ]
          refine wpAnyT_takeB (i := 11) (oi := ⟨some 92, .pick (.tmp 84) (.tmp 91) (.const (.bool false)), _, _, _, _⟩) (v := ?vd11) rfl (by kernel_rfl) (by kernel_rfl) (by kernel_rfl) (by kernel_rfl) (fun _ _ _ h => h) (Or.inl ⟨by rfl, ?hyd11⟩) (by assumption) ?restd11
          case hyd11 => (intro w hSw; (try dsimp only at hSw); obtain ⟨t0, t1⟩ := hSw; go_simp; try (first | (with_reducible rfl) | exact (wrap_id (by omega) (by omega)).symm))
          try simp only [Act.put, List.setIfInBounds_toArray, List.set_cons_zero, List.set_cons_succ]
          refine wpAnyT_done (by kernel_rfl) ?_ _
          clear hHeld HS2
          go_wp2_with fail
          go_roundw
          case rel => exact ⟨i + 1, by go_num, hip, HB6⟩
          case measure => simp [intOf]; omega
        · subst hie
          have hne : (er x != 0) = true := hn0
          go_wp2_with fail
          refine calls_at HPa.out (by with_reducible rfl) (by with_reducible rfl) ?_
          rintro e w4 ⟨oa, oc, pa, pc, la, lc, ia, ic, rfl, hsl, hb4⟩
          clear HPa x0c hsl
          obtain ⟨V, hV⟩ : ∃ V, w4.alloc (.cells #[.int .i64 (gd x).k, .string (txtOf (gd x).n), .slice oa (gd x).ops.length oc, .slice pa (gd x).pcs.length pc, .string (txtOf (gd x).deg), .slice la (gd x).lits.length lc, .slice ia (gd x).ids.length ic, .int .i64 (gd x).ends, .string (txtOf (gd x).low), .string (txtOf (gd x).high)] 45) = V := ⟨_, rfl⟩
          have hbV : Below w4.heap.size w4 V := by rw [← hV]; exact (Below.refl _ _).alloc (Nat.le_refl _) _
          have HB5 : Hid (Below w3.heap.size w3 V) := bl_next HBr.out (bl_next hb4 hbV)
          clear hbV hb4
          go_wp2_with fail
          refine calls_at (HNum.out _ _) (by with_reducible rfl) (by with_reducible rfl) ?_
          rintro e w6 ⟨rfl, h6⟩
          rw [h6]
          clear h6
          go_wp2_with fail
          have HS2 : Hid (∀ w', Below V.drew.heap.size V.drew w' → w'.cell? ⟨w2.heap.size, 0, none⟩ = some (.int .i64 (pre.length + 1)) ∧ w'.cell? ⟨w2.heap.size, 1, none⟩ = some (.int .i64 (er x))) := fun w' hb => by
            have h := HF.out w' (bl_next (bl_next HB5.out (Below.refl _ _).drew) hb)
            exact ⟨cell_of h 0, cell_of h 1⟩
          refine wp_region_T (fun w' => w'.cell? ⟨w2.heap.size, 0, none⟩ = some (.int .i64 (pre.length + 1)) ∧ w'.cell? ⟨w2.heap.size, 1, none⟩ = some (.int .i64 (er x))) (fun _ => True) [] (by kernel_rfl) ⟨HS2.out _ (Below.refl _ _), trivial⟩ (fun hHeld => ?_)
          have HB6 : Hid (Below w3.heap.size w3 V.drew) := bl_next HB5.out (Below.refl _ _).drew
          clear hV HB5
          generalize V.drew = U at hHeld HS2 HB6 ⊢
          refine wpAnyT_takeB (i := 0) (oi := ⟨some 69, .fieldAddr 32 (.tmp 5) 0, _, _, _, _⟩) (v := ?ve0) rfl (by kernel_rfl) (by kernel_rfl) (by kernel_rfl) (by kernel_rfl) (fun _ _ _ h => h) (Or.inl ⟨by rfl, ?hye0⟩) (by assumption) ?reste0
          case hye0 => (intro w hSw; (try dsimp only at hSw); obtain ⟨t0, t1⟩ := hSw; go_simp; try (first | (with_reducible rfl) | exact (wrap_id (by omega) (by omega)).symm))
          try simp only [Act.put, List.setIfInBounds_toArray, List.set_cons_zero, List.set_cons_succ]
          refine wpAnyT_takeB (i := 1) (oi := ⟨some 70, .load 3 (.tmp 69), _, _, _, _⟩) (v := ?ve1) rfl (by kernel_rfl) (by kernel_rfl) (by kernel_rfl) (by kernel_rfl) (fun _ _ _ h => h) (Or.inl ⟨by rfl, ?hye1⟩) (by assumption) ?reste1
          case hye1 => (intro w hSw; (try dsimp only at hSw); obtain ⟨t0, t1⟩ := hSw; go_simp; try (first | (with_reducible rfl) | exact (wrap_id (by omega) (by omega)).symm))
          try simp only [Act.put, List.setIfInBounds_toArray, List.set_cons_zero, List.set_cons_succ]
          refine wpAnyT_takeB (i := 2) (oi := ⟨some 71, .move (.tmp 8), _, _, _, _⟩) (v := ?ve2) rfl (by kernel_rfl) (by kernel_rfl) (by kernel_rfl) (by kernel_rfl) (fun _ _ _ h => h) (Or.inl ⟨by rfl, ?hye2⟩) (by assumption) ?reste2
          case hye2 => (intro w hSw; (try dsimp only at hSw); obtain ⟨t0, t1⟩ := hSw; go_simp; try (first | (with_reducible rfl) | exact (wrap_id (by omega) (by omega)).symm))
          try simp only [Act.put, List.setIfInBounds_toArray, List.set_cons_zero, List.set_cons_succ]
          refine wpAnyT_takeB (i := 3) (oi := ⟨some 72, .binOp .add 3 (.tmp 71) (.const (.int .i64 1)) 3, _, _, _, _⟩) (v := ?ve3) rfl (by kernel_rfl) (by kernel_rfl) (by kernel_rfl) (by kernel_rfl) (fun _ _ _ h => h) (Or.inl ⟨by rfl, ?hye3⟩) (by assumption) ?reste3
          case hye3 => (intro w hSw; (try dsimp only at hSw); obtain ⟨t0, t1⟩ := hSw; go_simp; try (first | (with_reducible rfl) | exact (wrap_id (by omega) (by omega)).symm))
          try simp only [Act.put, List.setIfInBounds_toArray, List.set_cons_zero, List.set_cons_succ]
          refine wpAnyT_takeB (i := 4) (oi := ⟨some 73, .binOp .eql 3 (.tmp 70) (.tmp 72) 3, _, _, _, _⟩) (v := .bool true) rfl (by kernel_rfl) (by kernel_rfl) (by kernel_rfl) (by kernel_rfl) (fun _ _ _ h => h) (Or.inl ⟨by rfl, ?hye4⟩) (by assumption) ?reste4
          case hye4 => (intro w hSw; (try dsimp only at hSw); obtain ⟨t0, t1⟩ := hSw; go_simp; try (first | (with_reducible rfl) | exact (wrap_id (by omega) (by omega)).symm))
          try simp only [Act.put, List.setIfInBounds_toArray, List.set_cons_zero, List.set_cons_succ]
          refine wpAnyT_takeB (i := 5) (oi := ⟨some 74, .move (.tmp 73), _, _, _, _⟩) (v := ?ve5) rfl (by kernel_rfl) (by kernel_rfl) (by kernel_rfl) (by kernel_rfl) (fun _ _ _ h => h) (Or.inl ⟨by rfl, ?hye5⟩) (by assumption) ?reste5
          case hye5 => (intro w hSw; (try dsimp only at hSw); obtain ⟨t0, t1⟩ := hSw; go_simp; try (first | (with_reducible rfl) | exact (wrap_id (by omega) (by omega)).symm))
          try simp only [Act.put, List.setIfInBounds_toArray, List.set_cons_zero, List.set_cons_succ]
          refine wpAnyT_takeB (i := 6) (oi := ⟨some 75, .fieldAddr 32 (.tmp 5) 1, _, _, _, _⟩) (v := ?ve6) rfl (by kernel_rfl) (by kernel_rfl) (by kernel_rfl) (by kernel_rfl) (fun _ _ _ h => h) (Or.inl ⟨by rfl, ?hye6⟩) (by assumption) ?reste6
          case hye6 => (intro w hSw; (try dsimp only at hSw); obtain ⟨t0, t1⟩ := hSw; go_simp; try (first | (with_reducible rfl) | exact (wrap_id (by omega) (by omega)).symm))
          try simp only [Act.put, List.setIfInBounds_toArray, List.set_cons_zero, List.set_cons_succ]
          refine wpAnyT_takeB (i := 7) (oi := ⟨some 76, .load 3 (.tmp 75), _, _, _, _⟩) (v := ?ve7) rfl (by kernel_rfl) (by kernel_rfl) (by kernel_rfl) (by kernel_rfl) (fun _ _ _ h => h) (Or.inl ⟨by rfl, ?hye7⟩) (by assumption) ?reste7
          case hye7 => (intro w hSw; (try dsimp only at hSw); obtain ⟨t0, t1⟩ := hSw; go_simp; try (first | (with_reducible rfl) | exact (wrap_id (by omega) (by omega)).symm))
          try simp only [Act.put, List.setIfInBounds_toArray, List.set_cons_zero, List.set_cons_succ]
          refine wpAnyT_takeB (i := 8) (oi := ⟨some 77, .move (.tmp 10), _, _, _, _⟩) (v := ?ve8) rfl (by kernel_rfl) (by kernel_rfl) (by kernel_rfl) (by kernel_rfl) (fun _ _ _ h => h) (Or.inl ⟨by rfl, ?hye8⟩) (by assumption) ?reste8
          case hye8 => (intro w hSw; (try dsimp only at hSw); obtain ⟨t0, t1⟩ := hSw; go_simp; try (first | (with_reducible rfl) | exact (wrap_id (by omega) (by omega)).symm))
          try simp only [Act.put, List.setIfInBounds_toArray, List.set_cons_zero, List.set_cons_succ]
          refine wpAnyT_one (i := 9) (o := ⟨some 78, .call { callee := .value (.func 14), args := #[(.tmp 77)], argTypes := #[35] }, _, _, _, _⟩) (by kernel_rfl) rfl (fun K hK => ?_)
          go_simp
          refine calls_at (HNum.out _ _) (by with_reducible rfl) (by with_reducible rfl) ?_
          rintro e w7 ⟨rfl, h7⟩
          rw [h7]
          clear h7
          go_wp2_with fail
          refine hK.out _ _ ⟨hHeld.1, fun _ => trivial⟩ ?_
          clear hK K
          try simp only [Act.put, List.setIfInBounds_toArray, List.set_cons_zero, List.set_cons_succ]
          refine wpAnyT_takeB (i := 10) (oi := ⟨some 79, .binOp .eql 3 (.tmp 76) (.tmp 78) 3, _, _, _, _⟩) (v := .bool true) rfl (by kernel_rfl) (by kernel_rfl) (by kernel_rfl) (by kernel_rfl) (fun _ _ _ h => h) (Or.inl ⟨by rfl, ?hyf10⟩) (by assumption) ?restf10
          case hyf10 => (intro w hSw; (try dsimp only at hSw); obtain ⟨t0, t1⟩ := hSw; go_simp; try (first | (with_reducible rfl) | exact (wrap_id (by omega) (by omega)).symm))
          try simp only [Act.put, List.setIfInBounds_toArray, List.set_cons_zero, List.set_cons_succ]
          refine wpAnyT_takeB (i := 11) (oi := ⟨some 80, .pick (.tmp 74) (.tmp 79) (.const (.bool false)), _, _, _, _⟩) (v := ?vf11) rfl (by kernel_rfl) (by kernel_rfl) (by kernel_rfl) (by kernel_rfl) (fun _ _ _ h => h) (Or.inl ⟨by rfl, ?hyf11⟩) (by assumption) ?restf11
          case hyf11 => (intro w hSw; (try dsimp only at hSw); obtain ⟨t0, t1⟩ := hSw; go_simp; try (first | (with_reducible rfl) | exact (wrap_id (by omega) (by omega)).symm))
          try simp only [Act.put, List.setIfInBounds_toArray, List.set_cons_zero, List.set_cons_succ]
          refine wpAnyT_takeB (i := 12) (oi := ⟨some 2, .assign (.tmp 80), _, _, _, _⟩) (v := ?vf12) rfl (by kernel_rfl) (by kernel_rfl) (by kernel_rfl) (by kernel_rfl) (fun _ _ _ h => h) (Or.inl ⟨by rfl, ?hyf12⟩) (by assumption) ?restf12
          case hyf12 => (intro w hSw; (try dsimp only at hSw); obtain ⟨t0, t1⟩ := hSw; go_simp; try (first | (with_reducible rfl) | exact (wrap_id (by omega) (by omega)).symm))
          try simp only [Act.put, List.setIfInBounds_toArray, List.set_cons_zero, List.set_cons_succ]
          refine wpAnyT_done (by kernel_rfl) ?_ _
          have HE : Hid (Below w.heap.size w U) := bl_next (bl_next HB1.out H13.out) HB6.out
          clear hHeld HS2
          go_wp2_with fail
          go_ret
          exact ⟨rfl, HE.out⟩
  · have hsI : (400000 : Int) < (s.size : Int) := by omega
    go_wp2_with fail
    go_ret
    exact ⟨rfl, HB0.out⟩
end Go.Proofs.YtibbnijicdijnaaGreatDoor
