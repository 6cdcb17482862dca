/-
  Put together: PfPRow, PfWr.
-/
import Derived.Test.YtibbnijicdijnaaGreatDoorJ33
namespace Go.Proofs.YtibbnijicdijnaaGreatDoor
open Go.RowKit

def pcsT (L : List PcL) : List (List UInt8) := L.flatMap fun o => [o.1, litT o.2]
def rowT (L : List PcL) (deg : List UInt8) : List (List UInt8) := pcsT L ++ [[62, 61], deg, [59]]
theorem words_app (K L : List (List UInt8)) (l : List UInt8) : wordsP (K ++ L) l = wordsP L (wordsP K l) := by simp [wordsP, List.foldl_append]
theorem tot_app (K L : List (List UInt8)) : tot (K ++ L) = tot K + tot L := by simp [tot]
theorem pcsT_take (L : List PcL) (i : Nat) (hi : i < L.length) : pcsT (L.take (i + 1)) = pcsT (L.take i) ++ [L[i].1, litT L[i].2] := by
  unfold pcsT
  rw [List.take_succ_eq_append_getElem hi, List.flatMap_append]
  simp
theorem pcsT_le (L : List PcL) (i : Nat) (hi : i < L.length) : tot (pcsT (L.take i)) + (L[i].1.length + 1) + ((litT L[i].2).length + 1) ≤ tot (pcsT L) := by
  have e : pcsT L = pcsT (L.take (i + 1)) ++ pcsT (L.drop (i + 1)) := by
    unfold pcsT
    rw [← List.flatMap_append, List.take_append_drop]
  rw [e, pcsT_take L i hi, tot_app, tot_app]
  simp [tot]
  omega
/-- An int in a new block. -/
theorem one_int {B : Nat} (w : World) (n : Int) : RdE B (w.alloc (.cells #[.int .i64 n] 3)) (.slice (some ⟨w.heap.size, 0, none⟩) 1 1) 1 ([n].map (.int .i64)) := by
  have hg := heap_alloc_new w (.cells #[.int .i64 n] 3)
  refine ⟨_, _, rfl, by omega, fun _ => ⟨w.heap.size, 0, rfl, .inr ⟨_, _, _, hg, by decide, by decide⟩, (Array.getElem?_eq_some_iff.1 hg).1, fun j u hu => ?_⟩⟩
  rw [Nat.zero_add, cell_of hg]
  simpa using hu
theorem lits_one {B b : Nat} {l : List UInt8} (n : Int) (w : World) (h : PageAt B b l w) (hl : l.length + ((litT n).length + 1) ≤ 900000000) (hr : -9223372036854775808 ≤ n ∧ n ≤ 9223372036854775807) (hBw : B ≤ w.heap.size) (hg : Gl w) (hB : 12 ≤ B) : Calls Tryz.prog 128 #[.pointer (some ⟨b, 0, none⟩), .slice (some ⟨w.heap.size, 0, none⟩) 1 1] (w.alloc (.cells #[.int .i64 n] 3)) fun e w' => e = .returned (.pointer (some ⟨b, 0, none⟩)) ∧ PageAt B b (wordP l (litT n)) w' ∧ Kq B w w' := by
  have hb : Below w.heap.size w (w.alloc (.cells #[.int .i64 n] 3)) := (Below.refl _ _).alloc (Nat.le_refl _) _
  refine (literals_any [n] _ _ (page_below h hb) (one_int w n) (by simpa [tot] using hl) (fun x hx => by rw [List.mem_singleton.1 hx]; exact hr) (Nat.le_trans hBw hb.size) (hg.next hb) hB).mono fun e w' hq => ?_
  exact ⟨hq.1, hq.2.1, (Kq.of_below hb hBw).trans hq.2.2⟩
theorem three_texts {B : Nat} (w : World) (x y z : List UInt8) : RdE B (w.alloc (.cells #[.string (txtOf x), .string (txtOf y), .string (txtOf z)] 9)) (.slice (some ⟨w.heap.size, 0, none⟩) 3 3) 3 ([x, y, z].map fun x => .string (txtOf x)) := by
  have hg := heap_alloc_new w (.cells #[.string (txtOf x), .string (txtOf y), .string (txtOf z)] 9)
  refine ⟨_, _, rfl, by omega, fun _ => ⟨w.heap.size, 0, rfl, .inr ⟨_, _, _, hg, by decide, by decide⟩, (Array.getElem?_eq_some_iff.1 hg).1, fun j u hu => ?_⟩⟩
  rw [Nat.zero_add, cell_of hg]
  simpa using hu
theorem words_three {B b : Nat} {l : List UInt8} (x y z : List UInt8) (w : World) (h : PageAt B b l w) (hl : l.length + tot [x, y, z] ≤ 900000000) (hBw : B ≤ w.heap.size) : Calls Tryz.prog 80 #[.pointer (some ⟨b, 0, none⟩), .slice (some ⟨w.heap.size, 0, none⟩) 3 3] (w.alloc (.cells #[.string (txtOf x), .string (txtOf y), .string (txtOf z)] 9)) fun e w' => e = .returned (.pointer (some ⟨b, 0, none⟩)) ∧ PageAt B b (wordsP [x, y, z] l) w' ∧ Kq B w w' := by
  have hb : Below w.heap.size w (w.alloc (.cells #[.string (txtOf x), .string (txtOf y), .string (txtOf z)] 9)) := (Below.refl _ _).alloc (Nat.le_refl _) _
  refine (words_any [x, y, z] _ _ (page_below h hb) (three_texts w x y z) hl (Nat.le_trans hBw hb.size)).mono fun e w' hq => ?_
  exact ⟨hq.1, hq.2.1, (Kq.of_below hb hBw).trans hq.2.2⟩

set_option maxRecDepth 10000 in
set_option maxHeartbeats 2000000 in
theorem prow_any {B b : Nat} {l : List UInt8} (L : List PcL) (deg : List UInt8) (v : Value) (w : World) (h : PageAt B b l w) (hR : RdE B w v L.length (pcsC L)) (hl : l.length + tot (rowT L deg) ≤ 900000000) (hr : ∀ x ∈ L, -9223372036854775808 ≤ x.2 ∧ x.2 ≤ 9223372036854775807) (hBw : B ≤ w.heap.size) (hg : Gl w) (hB : 12 ≤ B) : Calls Tryz.prog 125 #[.pointer (some ⟨b, 0, none⟩), .agg #[v, .string (txtOf deg)]] w fun e w' => e = .returned (.pointer (some ⟨b, 0, none⟩)) ∧ PageAt B b (wordsP (rowT L deg) l) w' ∧ Kq B w w' := by
  have HR : Hid (RdE B w v L.length (pcsC L)) := hR
  obtain ⟨a, cap, rfl, hn, _⟩ := hR
  have H0 : Hid (PageAt B b l w) := h
  have HG : Hid (Gl w) := hg
  have HRg : Hid (∀ x ∈ L, -9223372036854775808 ≤ x.2 ∧ x.2 ≤ 9223372036854775807) := hr
  clear h hg hr
  obtain ⟨W, hW⟩ : ∃ W, w.alloc (.cells #[.slice a L.length cap, .string (txtOf deg)] 41) = W := ⟨_, rfl⟩
  have hbW : Below w.heap.size w W := by rw [← hW]; exact (Below.refl _ _).alloc (Nat.le_refl _) _
  have gW : W.heap[w.heap.size]? = some (.cells #[.slice a L.length cap, .string (txtOf deg)] 41 (0, 0)) := by rw [← hW]; exact heap_alloc_new w _
  have HW : Hid (Below w.heap.size w W) := hbW
  have HgW : Hid (W.heap[w.heap.size]? = some (.cells #[.slice a L.length cap, .string (txtOf deg)] 41 (0, 0))) := gW
  have c0 : W.cell? ⟨w.heap.size, 0, none⟩ = some (.slice a L.length cap) := cell_of gW 0
  clear hbW gW
  go_enter Tryz.func125, Tryz.ntmps125
  go_wp2_with fail
  go_loopw [10] (fun iv wr => ∃ i : Nat, iv = .int .i64 (i : Int) ∧ i ≤ L.length ∧ Hid (PageAt B b (wordsP (pcsT (L.take i)) l) wr ∧ Kq B w wr ∧ Kq B W wr)) (fun iv _ => L.length - (intOf iv).toNat)
  case atStart => exact ⟨0, rfl, Nat.zero_le _, page_below H0.out HW.out, Kq.of_below HW.out hBw, Kq.refl _ _⟩
  case round =>
    obtain ⟨i, rfl, hi, HP⟩ := hrel
    by_cases hin : i < L.length
    · have hiI : (i : Int) < (L.length : Int) := by omega
      obtain ⟨g, off, rfl, hce⟩ := (HR.out.next HP.out.2.1).cell i hin
      obtain ⟨p0, p1⟩ := pcs_get L i hin
      have d0 : wr.cell? ⟨g, off + i * 2, none⟩ = some (.string (txtOf L[i].1)) := hce _ _ p0
      have d1 : wr.cell? ⟨g, off + i * 2 + 1, none⟩ = some (.int .i64 L[i].2) := hce _ _ p1
      have hrg := HRg.out L[i] (List.getElem_mem hin)
      have HN0 := pcsT_take L i hin
      have hle := pcsT_le L i hin
      obtain ⟨x, hx⟩ : ∃ x, L[i].1 = x := ⟨_, rfl⟩
      obtain ⟨n, hn2⟩ : ∃ n, L[i].2 = n := ⟨_, rfl⟩
      rw [hx] at d0 HN0 hle
      rw [hn2] at d1 hrg HN0 hle
      obtain ⟨m, hm⟩ : ∃ m, wordsP (pcsT (L.take i)) l = m := ⟨_, rfl⟩
      have HN : Hid (wordsP (pcsT (L.take (i + 1))) l = wordP (wordP m x) (litT n)) := by
        show _ = _
        rw [HN0, words_app, hm]
        rfl
      have hml : m.length + (x.length + 1) + ((litT n).length + 1) ≤ 900000000 := by
        have h1 := words_len (pcsT (L.take i)) l
        have h2 : tot (rowT L deg) = tot (pcsT L) + tot [[62, 61], deg, [59]] := tot_app _ _
        rw [hm] at h1
        omega
      have hmx : (wordP m x).length + ((litT n).length + 1) ≤ 900000000 := by
        have := word_len m x
        omega
      have HPm : Hid (PageAt B b m wr ∧ Kq B w wr ∧ Kq B W wr) := by rw [← hm]; exact HP.out
      have hBr : B ≤ wr.heap.size := Nat.le_trans hBw HP.out.2.1.low.size
      obtain ⟨V, hV⟩ : ∃ V, wr.alloc (.cells #[.string (txtOf x), .int .i64 n] 82) = V := ⟨_, rfl⟩
      have hbV : Below wr.heap.size wr V := by rw [← hV]; exact (Below.refl _ _).alloc (Nat.le_refl _) _
      have gV : V.heap[wr.heap.size]? = some (.cells #[.string (txtOf x), .int .i64 n] 82 (0, 0)) := by rw [← hV]; exact heap_alloc_new wr _
      have HPV : Hid (PageAt B b m V.drew ∧ Kq B w V.drew ∧ Kq B W V.drew) := ⟨page_below HPm.out.1 hbV.drew, HPm.out.2.1.trans (Kq.of_below hbV.drew hBr), HPm.out.2.2.trans (Kq.of_below hbV.drew hBr)⟩
      have hBV : B ≤ V.drew.heap.size := Nat.le_trans hBr hbV.drew.size
      have HKV : Hid (∀ w', Kq B V.drew w' → w'.cell? ⟨wr.heap.size, 0, none⟩ = some (.string (txtOf x)) ∧ w'.cell? ⟨wr.heap.size, 1, none⟩ = some (.int .i64 n)) := fun w' k => by
        have := k.other _ _ _ _ (show V.drew.heap[wr.heap.size]? = _ from gV) (by decide) (by decide)
        exact ⟨cell_of this 0, cell_of this 1⟩
      have HC : Hid (∀ U' v, Kq B V.drew U' → PageAt B b m U' → RdE B U' v 1 ([x].map fun x => .string (txtOf x)) → Calls Tryz.prog 80 #[.pointer (some ⟨b, 0, none⟩), v] U' fun e w' => e = .returned (.pointer (some ⟨b, 0, none⟩)) ∧ PageAt B b (wordP m x) w' ∧ Kq B U' w') := fun U' v k hp hv =>
        words_any [x] v U' hp hv (by show _ + tot [x] ≤ _; simp [tot]; omega) (Nat.le_trans hBV k.low.size)
      have HD : Hid (∀ U' v, Kq B V.drew U' → PageAt B b (wordP m x) U' → RdE B U' v 1 ([n].map (.int .i64)) → Calls Tryz.prog 128 #[.pointer (some ⟨b, 0, none⟩), v] U' fun e w' => e = .returned (.pointer (some ⟨b, 0, none⟩)) ∧ PageAt B b (wordP (wordP m x) (litT n)) w' ∧ Kq B U' w') := fun U' v k hp hv =>
        literals_any [n] v U' hp hv (by show _ + tot [litT n] ≤ _; simp [tot]; omega) (fun y hy => by rw [List.mem_singleton.1 hy]; exact hrg) (Nat.le_trans hBV k.low.size) (HG.out.kq (HPV.out.2.1.trans k) hB) hB
      have HVd : Hid (V.heap[wr.heap.size]? = some (.cells #[.string (txtOf x), .int .i64 n] 82 (0, 0)) ∧ wr.heap.size < V.heap.size) := ⟨gV, (Array.getElem?_eq_some_iff.1 gV).1⟩
      clear hce p0 p1 hx hn2 hm HN0 hle hbV gV HVd hml hmx
      go_wp2_with fail
      refine wp_region_T (fun w' => w'.cell? ⟨wr.heap.size, 0, none⟩ = some (.string (txtOf x)) ∧ w'.cell? ⟨wr.heap.size, 1, none⟩ = some (.int .i64 n)) (fun _ => True) [] (by kernel_rfl) ⟨HKV.out _ (Kq.refl _ _), trivial⟩ (fun hHeld => ?_)
      clear hV d0 d1
      generalize V.drew = U at hHeld HKV HC HD HPV hBV ⊢
      refine wpAnyT_takeB (i := 0) (oi := ⟨some 14, .move (.tmp 0), _, _, _, _⟩) (v := ?v0) rfl (by kernel_rfl) (by kernel_rfl) (by kernel_rfl) (by kernel_rfl) (fun _ _ _ h => h) (Or.inl ⟨by rfl, ?hy0⟩) (by assumption) ?rest0
      case hy0 => (intro w hSw; (try dsimp only at hSw); obtain ⟨s0, s1⟩ := hSw; go_simp; try (with_reducible rfl))
      try simp only [Act.put, List.setIfInBounds_toArray, List.set_cons_zero, List.set_cons_succ]
      refine wpAnyT_takeB (i := 1) (oi := ⟨some 15, .fieldAddr 82 (.tmp 6) 0, _, _, _, _⟩) (v := ?v1) rfl (by kernel_rfl) (by kernel_rfl) (by kernel_rfl) (by kernel_rfl) (fun _ _ _ h => h) (Or.inl ⟨by rfl, ?hy1⟩) (by assumption) ?rest1
      case hy1 => (intro w hSw; (try dsimp only at hSw); obtain ⟨s0, s1⟩ := hSw; go_simp; try (with_reducible rfl))
      try simp only [Act.put, List.setIfInBounds_toArray, List.set_cons_zero, List.set_cons_succ]
      refine wpAnyT_takeB (i := 2) (oi := ⟨some 16, .load 9 (.tmp 15), _, _, _, _⟩) (v := ?v2) rfl (by kernel_rfl) (by kernel_rfl) (by kernel_rfl) (by kernel_rfl) (fun _ _ _ h => h) (Or.inl ⟨by rfl, ?hy2⟩) (by assumption) ?rest2
      case hy2 => (intro w hSw; (try dsimp only at hSw); obtain ⟨s0, s1⟩ := hSw; go_simp; try (with_reducible rfl))
      try simp only [Act.put, List.setIfInBounds_toArray, List.set_cons_zero, List.set_cons_succ]
      refine wpAnyT_takeB (i := 5) (oi := ⟨some 19, .fieldAddr 82 (.tmp 6) 1, _, _, _, _⟩) (v := ?v5) rfl (by kernel_rfl) (by kernel_rfl) (by kernel_rfl) (by kernel_rfl) (fun _ _ _ h => h) (Or.inl ⟨by rfl, ?hy5⟩) (by assumption) ?rest5
      case hy5 => (intro w hSw; (try dsimp only at hSw); obtain ⟨s0, s1⟩ := hSw; go_simp; try (with_reducible rfl))
      try simp only [Act.put, List.setIfInBounds_toArray, List.set_cons_zero, List.set_cons_succ]
      refine wpAnyT_takeB (i := 6) (oi := ⟨some 20, .load 3 (.tmp 19), _, _, _, _⟩) (v := ?v6) rfl (by kernel_rfl) (by kernel_rfl) (by kernel_rfl) (by kernel_rfl) (fun _ _ _ h => h) (Or.inl ⟨by rfl, ?hy6⟩) (by assumption) ?rest6
      case hy6 => (intro w hSw; (try dsimp only at hSw); obtain ⟨s0, s1⟩ := hSw; go_simp; try (with_reducible rfl))
      try simp only [Act.put, List.setIfInBounds_toArray, List.set_cons_zero, List.set_cons_succ]
      have HKU : Hid (Kq B U U) := Kq.refl _ _
      have HPgU : Hid (PageAt B b (m) U) := HPV.out.1
      clear hHeld
      refine wpAnyT_two (i := 3) (j := 7) (o := ⟨some 17, .buildSlice 43 1 #[(0, (.tmp 16))], _, _, _, _⟩) (o' := ⟨some 21, .buildSlice 42 1 #[(0, (.tmp 20))], _, _, _, _⟩) (by kernel_rfl) rfl rfl (fun K hK => ?_) (fun K hK => ?_)
      · skip
        go_simp
        obtain ⟨U3, hU3⟩ : ∃ X, U.alloc (.cells #[.string (txtOf x)] 9) = X := ⟨_, rfl⟩
        have hbU3 : Below U.heap.size U U3 := by rw [← hU3]; exact (Below.refl _ _).alloc (Nat.le_refl _) _
        have HKU3 : Hid (Kq B U U3) := HKU.out.trans (Kq.of_below hbU3 (Nat.le_trans hBV HKU.out.low.size))
        have HPgU3 : Hid (PageAt B b (m) U3) := page_below HPgU.out hbU3
        have HR3U3 : Hid (RdE B U3 (.slice (some ⟨U.heap.size, 0, none⟩) 1 1) 1 ([x].map fun x => .string (txtOf x))) := by rw [← hU3]; exact one_text U x
        rw [hU3]
        clear hU3 hbU3
        refine hK.out _ _ ⟨HKV.out _ HKU3.out, fun _ => trivial⟩ ?_
        clear hK K
        try simp only [Act.put, List.setIfInBounds_toArray, List.set_cons_zero, List.set_cons_succ]
        refine wpAnyT_two (i := 4) (j := 7) (o := ⟨some 18, .call { callee := .value (.func 80), args := #[(.tmp 14), (.tmp 17)], argTypes := #[123, 43] }, _, _, _, _⟩) (o' := ⟨some 21, .buildSlice 42 1 #[(0, (.tmp 20))], _, _, _, _⟩) (by kernel_rfl) rfl rfl (fun K hK => ?_) (fun K hK => ?_)
        · skip
          go_simp
          refine calls_at (HC.out U3 _ HKU3.out HPgU3.out HR3U3.out) (by with_reducible rfl) (by with_reducible rfl) ?_
          rintro e U34 ⟨rfl, hp, hk⟩
          have HKU34 : Hid (Kq B U U34) := HKU3.out.trans hk
          have HPgU34 : Hid (PageAt B b (wordP m x) U34) := hp
          have HR3U34 : Hid (RdE B U34 (.slice (some ⟨U.heap.size, 0, none⟩) 1 1) 1 ([x].map fun x => .string (txtOf x))) := HR3U3.out.next hk
          clear hp hk
          go_wp2_with fail
          refine hK.out _ _ ⟨HKV.out _ HKU34.out, fun _ => trivial⟩ ?_
          clear hK K
          try simp only [Act.put, List.setIfInBounds_toArray, List.set_cons_zero, List.set_cons_succ]
          refine wpAnyT_one (i := 7) (o := ⟨some 21, .buildSlice 42 1 #[(0, (.tmp 20))], _, _, _, _⟩) (by kernel_rfl) rfl (fun K hK => ?_)
          go_simp
          obtain ⟨U347, hU347⟩ : ∃ X, U34.alloc (.cells #[.int .i64 n] 3) = X := ⟨_, rfl⟩
          have hbU347 : Below U34.heap.size U34 U347 := by rw [← hU347]; exact (Below.refl _ _).alloc (Nat.le_refl _) _
          have HKU347 : Hid (Kq B U U347) := HKU34.out.trans (Kq.of_below hbU347 (Nat.le_trans hBV HKU34.out.low.size))
          have HPgU347 : Hid (PageAt B b (wordP m x) U347) := page_below HPgU34.out hbU347
          have HR3U347 : Hid (RdE B U347 (.slice (some ⟨U.heap.size, 0, none⟩) 1 1) 1 ([x].map fun x => .string (txtOf x))) := HR3U34.out.next (Kq.of_below hbU347 (Nat.le_trans hBV HKU34.out.low.size))
          have HR7U347 : Hid (RdE B U347 (.slice (some ⟨U34.heap.size, 0, none⟩) 1 1) 1 ([n].map (.int .i64))) := by rw [← hU347]; exact one_int U34 n
          rw [hU347]
          clear hU347 hbU347
          refine hK.out _ _ ⟨HKV.out _ HKU347.out, fun _ => trivial⟩ ?_
          clear hK K
          try simp only [Act.put, List.setIfInBounds_toArray, List.set_cons_zero, List.set_cons_succ]
          refine wpAnyT_one (i := 8) (o := ⟨some 22, .call { callee := .value (.func 128), args := #[(.tmp 18), (.tmp 21)], argTypes := #[123, 42] }, _, _, _, _⟩) (by kernel_rfl) rfl (fun K hK => ?_)
          go_simp
          refine calls_at (HD.out U347 _ HKU347.out HPgU347.out HR7U347.out) (by with_reducible rfl) (by with_reducible rfl) ?_
          rintro e U3478 ⟨rfl, hp, hk⟩
          have HKU3478 : Hid (Kq B U U3478) := HKU347.out.trans hk
          have HPgU3478 : Hid (PageAt B b (wordP (wordP m x) (litT n)) U3478) := hp
          have HR3U3478 : Hid (RdE B U3478 (.slice (some ⟨U.heap.size, 0, none⟩) 1 1) 1 ([x].map fun x => .string (txtOf x))) := HR3U347.out.next hk
          have HR7U3478 : Hid (RdE B U3478 (.slice (some ⟨U34.heap.size, 0, none⟩) 1 1) 1 ([n].map (.int .i64))) := HR7U347.out.next hk
          clear hp hk
          go_wp2_with fail
          refine hK.out _ _ ⟨HKV.out _ HKU3478.out, fun _ => trivial⟩ ?_
          clear hK K
          try simp only [Act.put, List.setIfInBounds_toArray, List.set_cons_zero, List.set_cons_succ]
          have H9 : Hid (PageAt B b (wordsP (pcsT (L.take (i + 1))) l) U3478 ∧ Kq B w U3478 ∧ Kq B W U3478) := ⟨by rw [HN.out]; exact HPgU3478.out, HPV.out.2.1.trans HKU3478.out, HPV.out.2.2.trans HKU3478.out⟩
          refine wpAnyT_done (by kernel_rfl) ?_ _
          go_wp2_with fail
          go_roundw
          case rel => exact ⟨i + 1, by go_num, hin, H9⟩
          case measure => simp [intOf]; omega
        · skip
          go_simp
          obtain ⟨U37, hU37⟩ : ∃ X, U3.alloc (.cells #[.int .i64 n] 3) = X := ⟨_, rfl⟩
          have hbU37 : Below U3.heap.size U3 U37 := by rw [← hU37]; exact (Below.refl _ _).alloc (Nat.le_refl _) _
          have HKU37 : Hid (Kq B U U37) := HKU3.out.trans (Kq.of_below hbU37 (Nat.le_trans hBV HKU3.out.low.size))
          have HPgU37 : Hid (PageAt B b (m) U37) := page_below HPgU3.out hbU37
          have HR3U37 : Hid (RdE B U37 (.slice (some ⟨U.heap.size, 0, none⟩) 1 1) 1 ([x].map fun x => .string (txtOf x))) := HR3U3.out.next (Kq.of_below hbU37 (Nat.le_trans hBV HKU3.out.low.size))
          have HR7U37 : Hid (RdE B U37 (.slice (some ⟨U3.heap.size, 0, none⟩) 1 1) 1 ([n].map (.int .i64))) := by rw [← hU37]; exact one_int U3 n
          rw [hU37]
          clear hU37 hbU37
          refine hK.out _ _ ⟨HKV.out _ HKU37.out, fun _ => trivial⟩ ?_
          clear hK K
          try simp only [Act.put, List.setIfInBounds_toArray, List.set_cons_zero, List.set_cons_succ]
          refine wpAnyT_one (i := 4) (o := ⟨some 18, .call { callee := .value (.func 80), args := #[(.tmp 14), (.tmp 17)], argTypes := #[123, 43] }, _, _, _, _⟩) (by kernel_rfl) rfl (fun K hK => ?_)
          go_simp
          refine calls_at (HC.out U37 _ HKU37.out HPgU37.out HR3U37.out) (by with_reducible rfl) (by with_reducible rfl) ?_
          rintro e U374 ⟨rfl, hp, hk⟩
          have HKU374 : Hid (Kq B U U374) := HKU37.out.trans hk
          have HPgU374 : Hid (PageAt B b (wordP m x) U374) := hp
          have HR3U374 : Hid (RdE B U374 (.slice (some ⟨U.heap.size, 0, none⟩) 1 1) 1 ([x].map fun x => .string (txtOf x))) := HR3U37.out.next hk
          have HR7U374 : Hid (RdE B U374 (.slice (some ⟨U3.heap.size, 0, none⟩) 1 1) 1 ([n].map (.int .i64))) := HR7U37.out.next hk
          clear hp hk
          go_wp2_with fail
          refine hK.out _ _ ⟨HKV.out _ HKU374.out, fun _ => trivial⟩ ?_
          clear hK K
          try simp only [Act.put, List.setIfInBounds_toArray, List.set_cons_zero, List.set_cons_succ]
          refine wpAnyT_one (i := 8) (o := ⟨some 22, .call { callee := .value (.func 128), args := #[(.tmp 18), (.tmp 21)], argTypes := #[123, 42] }, _, _, _, _⟩) (by kernel_rfl) rfl (fun K hK => ?_)
          go_simp
          refine calls_at (HD.out U374 _ HKU374.out HPgU374.out HR7U374.out) (by with_reducible rfl) (by with_reducible rfl) ?_
          rintro e U3748 ⟨rfl, hp, hk⟩
          have HKU3748 : Hid (Kq B U U3748) := HKU374.out.trans hk
          have HPgU3748 : Hid (PageAt B b (wordP (wordP m x) (litT n)) U3748) := hp
          have HR3U3748 : Hid (RdE B U3748 (.slice (some ⟨U.heap.size, 0, none⟩) 1 1) 1 ([x].map fun x => .string (txtOf x))) := HR3U374.out.next hk
          have HR7U3748 : Hid (RdE B U3748 (.slice (some ⟨U3.heap.size, 0, none⟩) 1 1) 1 ([n].map (.int .i64))) := HR7U374.out.next hk
          clear hp hk
          go_wp2_with fail
          refine hK.out _ _ ⟨HKV.out _ HKU3748.out, fun _ => trivial⟩ ?_
          clear hK K
          try simp only [Act.put, List.setIfInBounds_toArray, List.set_cons_zero, List.set_cons_succ]
          have H9 : Hid (PageAt B b (wordsP (pcsT (L.take (i + 1))) l) U3748 ∧ Kq B w U3748 ∧ Kq B W U3748) := ⟨by rw [HN.out]; exact HPgU3748.out, HPV.out.2.1.trans HKU3748.out, HPV.out.2.2.trans HKU3748.out⟩
          refine wpAnyT_done (by kernel_rfl) ?_ _
          go_wp2_with fail
          go_roundw
          case rel => exact ⟨i + 1, by go_num, hin, H9⟩
          case measure => simp [intOf]; omega
      · skip
        go_simp
        obtain ⟨U7, hU7⟩ : ∃ X, U.alloc (.cells #[.int .i64 n] 3) = X := ⟨_, rfl⟩
        have hbU7 : Below U.heap.size U U7 := by rw [← hU7]; exact (Below.refl _ _).alloc (Nat.le_refl _) _
        have HKU7 : Hid (Kq B U U7) := HKU.out.trans (Kq.of_below hbU7 (Nat.le_trans hBV HKU.out.low.size))
        have HPgU7 : Hid (PageAt B b (m) U7) := page_below HPgU.out hbU7
        have HR7U7 : Hid (RdE B U7 (.slice (some ⟨U.heap.size, 0, none⟩) 1 1) 1 ([n].map (.int .i64))) := by rw [← hU7]; exact one_int U n
        rw [hU7]
        clear hU7 hbU7
        refine hK.out _ _ ⟨HKV.out _ HKU7.out, fun _ => trivial⟩ ?_
        clear hK K
        try simp only [Act.put, List.setIfInBounds_toArray, List.set_cons_zero, List.set_cons_succ]
        refine wpAnyT_one (i := 3) (o := ⟨some 17, .buildSlice 43 1 #[(0, (.tmp 16))], _, _, _, _⟩) (by kernel_rfl) rfl (fun K hK => ?_)
        go_simp
        obtain ⟨U73, hU73⟩ : ∃ X, U7.alloc (.cells #[.string (txtOf x)] 9) = X := ⟨_, rfl⟩
        have hbU73 : Below U7.heap.size U7 U73 := by rw [← hU73]; exact (Below.refl _ _).alloc (Nat.le_refl _) _
        have HKU73 : Hid (Kq B U U73) := HKU7.out.trans (Kq.of_below hbU73 (Nat.le_trans hBV HKU7.out.low.size))
        have HPgU73 : Hid (PageAt B b (m) U73) := page_below HPgU7.out hbU73
        have HR7U73 : Hid (RdE B U73 (.slice (some ⟨U.heap.size, 0, none⟩) 1 1) 1 ([n].map (.int .i64))) := HR7U7.out.next (Kq.of_below hbU73 (Nat.le_trans hBV HKU7.out.low.size))
        have HR3U73 : Hid (RdE B U73 (.slice (some ⟨U7.heap.size, 0, none⟩) 1 1) 1 ([x].map fun x => .string (txtOf x))) := by rw [← hU73]; exact one_text U7 x
        rw [hU73]
        clear hU73 hbU73
        refine hK.out _ _ ⟨HKV.out _ HKU73.out, fun _ => trivial⟩ ?_
        clear hK K
        try simp only [Act.put, List.setIfInBounds_toArray, List.set_cons_zero, List.set_cons_succ]
        refine wpAnyT_one (i := 4) (o := ⟨some 18, .call { callee := .value (.func 80), args := #[(.tmp 14), (.tmp 17)], argTypes := #[123, 43] }, _, _, _, _⟩) (by kernel_rfl) rfl (fun K hK => ?_)
        go_simp
        refine calls_at (HC.out U73 _ HKU73.out HPgU73.out HR3U73.out) (by with_reducible rfl) (by with_reducible rfl) ?_
        rintro e U734 ⟨rfl, hp, hk⟩
        have HKU734 : Hid (Kq B U U734) := HKU73.out.trans hk
        have HPgU734 : Hid (PageAt B b (wordP m x) U734) := hp
        have HR7U734 : Hid (RdE B U734 (.slice (some ⟨U.heap.size, 0, none⟩) 1 1) 1 ([n].map (.int .i64))) := HR7U73.out.next hk
        have HR3U734 : Hid (RdE B U734 (.slice (some ⟨U7.heap.size, 0, none⟩) 1 1) 1 ([x].map fun x => .string (txtOf x))) := HR3U73.out.next hk
        clear hp hk
        go_wp2_with fail
        refine hK.out _ _ ⟨HKV.out _ HKU734.out, fun _ => trivial⟩ ?_
        clear hK K
        try simp only [Act.put, List.setIfInBounds_toArray, List.set_cons_zero, List.set_cons_succ]
        refine wpAnyT_one (i := 8) (o := ⟨some 22, .call { callee := .value (.func 128), args := #[(.tmp 18), (.tmp 21)], argTypes := #[123, 42] }, _, _, _, _⟩) (by kernel_rfl) rfl (fun K hK => ?_)
        go_simp
        refine calls_at (HD.out U734 _ HKU734.out HPgU734.out HR7U734.out) (by with_reducible rfl) (by with_reducible rfl) ?_
        rintro e U7348 ⟨rfl, hp, hk⟩
        have HKU7348 : Hid (Kq B U U7348) := HKU734.out.trans hk
        have HPgU7348 : Hid (PageAt B b (wordP (wordP m x) (litT n)) U7348) := hp
        have HR7U7348 : Hid (RdE B U7348 (.slice (some ⟨U.heap.size, 0, none⟩) 1 1) 1 ([n].map (.int .i64))) := HR7U734.out.next hk
        have HR3U7348 : Hid (RdE B U7348 (.slice (some ⟨U7.heap.size, 0, none⟩) 1 1) 1 ([x].map fun x => .string (txtOf x))) := HR3U734.out.next hk
        clear hp hk
        go_wp2_with fail
        refine hK.out _ _ ⟨HKV.out _ HKU7348.out, fun _ => trivial⟩ ?_
        clear hK K
        try simp only [Act.put, List.setIfInBounds_toArray, List.set_cons_zero, List.set_cons_succ]
        have H9 : Hid (PageAt B b (wordsP (pcsT (L.take (i + 1))) l) U7348 ∧ Kq B w U7348 ∧ Kq B W U7348) := ⟨by rw [HN.out]; exact HPgU7348.out, HPV.out.2.1.trans HKU7348.out, HPV.out.2.2.trans HKU7348.out⟩
        refine wpAnyT_done (by kernel_rfl) ?_ _
        go_wp2_with fail
        go_roundw
        case rel => exact ⟨i + 1, by go_num, hin, H9⟩
        case measure => simp [intOf]; omega
    · have hiI : ¬ (i : Int) < (L.length : Int) := by omega
      have HE : Hid (PageAt B b (wordsP (pcsT L) l) wr ∧ Kq B w wr ∧ Kq B W wr) := by
        have := HP.out
        rw [List.take_of_length_le (by omega)] at this
        exact this
      have c1 : wr.cell? ⟨w.heap.size, 1, none⟩ = some (.string (txtOf deg)) := cell_of (HE.out.2.2.other _ _ _ _ HgW.out (by decide) (by decide)) 1
      have hlq : (wordsP (pcsT L) l).length + tot [[62, 61], deg, [59]] ≤ 900000000 := by
        have h1 := words_len (pcsT L) l
        have h2 : tot (rowT L deg) = tot (pcsT L) + tot [[62, 61], deg, [59]] := tot_app _ _
        omega
      have HWd : Hid (Calls Tryz.prog 80 #[.pointer (some ⟨b, 0, none⟩), .slice (some ⟨wr.heap.size, 0, none⟩) 3 3] (wr.alloc (.cells #[.string ⟨#[62, 61]⟩, .string (txtOf deg), .string ⟨#[59]⟩] 9)) fun e w' => e = .returned (.pointer (some ⟨b, 0, none⟩)) ∧ PageAt B b (wordsP (rowT L deg) l) w' ∧ Kq B w w') := by
        refine (words_three [62, 61] deg [59] wr HE.out.1 hlq (Nat.le_trans hBw HE.out.2.1.low.size)).mono fun e w' hq => ⟨hq.1, ?_, HE.out.2.1.trans hq.2.2⟩
        unfold rowT
        rw [words_app]
        exact hq.2.1
      clear hlq
      go_wp2_with fail
      refine calls_at HWd.out (by with_reducible rfl) (by with_reducible rfl) ?_
      rintro e w3 ⟨rfl, hp3, hk3⟩
      have H3 : Hid (PageAt B b (wordsP (rowT L deg) l) w3 ∧ Kq B w w3) := ⟨hp3, hk3⟩
      clear hp3 hk3
      go_wp2_with fail
      go_ret
      exact ⟨rfl, H3.out⟩
end Go.Proofs.YtibbnijicdijnaaGreatDoor

namespace Go.Proofs.YtibbnijicdijnaaGreatDoor
open Go.RowKit

/-- A step's lists, as a writer reads them. -/
structure SlE (B : Nat) (w : World) (d : SL) (vo vp vl vi : Value) : Prop where
  o : RdE B w vo d.ops.length (opsC d.ops)
  p : RdE B w vp d.pcs.length (pcsC d.pcs)
  l : RdE B w vl d.lits.length (d.lits.map (.int .i64))
  i : RdE B w vi d.ids.length (d.ids.map fun x => .string (txtOf x))
theorem SlE.next {B : Nat} {w w' : World} {d : SL} {vo vp vl vi : Value} (h : SlE B w d vo vp vl vi) (k : Kq B w w') : SlE B w' d vo vp vl vi := ⟨h.o.next k, h.p.next k, h.l.next k, h.i.next k⟩
structure SlI (d : SL) : Prop where
  p : ∀ x ∈ d.pcs, -9223372036854775808 ≤ x.2 ∧ x.2 ≤ 9223372036854775807
  l : ∀ x ∈ d.lits, -9223372036854775808 ≤ x ∧ x ≤ 9223372036854775807
  o : ∀ x ∈ d.ops, -9223372036854775808 ≤ x.2.2 ∧ x.2.2 ≤ 9223372036854775807
def WrO (B b : Nat) (l : List UInt8) (w : World) (e : Ending) (w' : World) : Prop := e = .returned (.tuple #[]) ∧ PageAt B b l w' ∧ Kq B w w'
def Wrt (f : FuncId) (g : SL → List (List UInt8)) : Prop := ∀ (B b : Nat) (l : List UInt8) (d : SL) (vo vp vl vi : Value) (w : World), PageAt B b l w → SlE B w d vo vp vl vi → SlI d → l.length + tot (g d) ≤ 900000000 → B ≤ w.heap.size → Gl w → 12 ≤ B → Calls Tryz.prog f #[.pointer (some ⟨b, 0, none⟩), .agg (slC d vo vp vl vi)] w (WrO B b (wordsP (g d) l) w)

/-- A step in a box. -/
theorem box_held {B : Nat} {w : World} {d : SL} {vo vp vl vi : Value} {W : World} (hW : w.alloc (.cells (slC d vo vp vl vi) 45) = W) (w' : World) (k : Kq B W w') : w'.heap[w.heap.size]? = some (.cells (slC d vo vp vl vi) 45 (0, 0)) :=
  k.other _ _ _ _ (by rw [← hW]; exact heap_alloc_new w _) (by decide) (by decide)

set_option maxRecDepth 10000 in
set_option maxHeartbeats 2000000 in
theorem wrt_rup : Wrt 88 fun d => rowT d.pcs d.deg ++ d.ids := by
  intro B b l d vo vp vl vi w h hs hi hl hBw hg hB
  have hl1 : l.length + tot (rowT d.pcs d.deg) + tot d.ids ≤ 900000000 := by rw [tot_app] at hl; omega
  obtain ⟨W, hW⟩ : ∃ W, w.alloc (.cells (slC d vo vp vl vi) 45) = W := ⟨_, rfl⟩
  have hbW : Below w.heap.size w W := by rw [← hW]; exact (Below.refl _ _).alloc (Nat.le_refl _) _
  have kW : Kq B w W.drew := Kq.of_below hbW.drew hBw
  have hBW : B ≤ W.drew.heap.size := Nat.le_trans hBw hbW.drew.size
  have HK : Hid (∀ w', Kq B W.drew w' → w'.cell? ⟨w.heap.size, 3, none⟩ = some vp ∧ w'.cell? ⟨w.heap.size, 4, none⟩ = some (.string (txtOf d.deg)) ∧ w'.cell? ⟨w.heap.size, 6, none⟩ = some vi) := fun w' k => by
    have := k.other _ _ _ _ (show W.drew.heap[w.heap.size]? = some (.cells (slC d vo vp vl vi) 45 (0, 0)) by show W.heap[w.heap.size]? = _; rw [← hW]; exact heap_alloc_new w _) (by decide) (by decide)
    exact ⟨cell_of this 3, cell_of this 4, cell_of this 6⟩
  have HR : Hid (Calls Tryz.prog 125 #[.pointer (some ⟨b, 0, none⟩), .agg #[vp, .string (txtOf d.deg)]] W.drew fun e w' => e = .returned (.pointer (some ⟨b, 0, none⟩)) ∧ PageAt B b (wordsP (rowT d.pcs d.deg) l) w' ∧ Kq B W.drew w') := prow_any d.pcs d.deg vp W.drew (page_below h hbW.drew) (hs.p.next kW) (by omega) hi.p hBW (hg.kq kW hB) hB
  have HI : Hid (∀ w', Kq B W.drew w' → PageAt B b (wordsP (rowT d.pcs d.deg) l) w' → Calls Tryz.prog 80 #[.pointer (some ⟨b, 0, none⟩), vi] w' fun e w2 => e = .returned (.pointer (some ⟨b, 0, none⟩)) ∧ PageAt B b (wordsP (rowT d.pcs d.deg ++ d.ids) l) w2 ∧ Kq B w' w2) := fun w' k hp => by
    refine (words_any d.ids vi w' hp (hs.i.next (kW.trans k)) ?_ (Nat.le_trans hBW k.low.size)).mono fun e w2 hq => ⟨hq.1, ?_, hq.2.2⟩
    · have := words_len (rowT d.pcs d.deg) l
      omega
    · rw [words_app]; exact hq.2.1
  have HKW : Hid (Kq B w W.drew) := kW
  unfold WrO
  obtain ⟨Z, hZ⟩ : ∃ Z, wordsP (rowT d.pcs d.deg ++ d.ids) l = Z := ⟨_, rfl⟩
  rw [hZ] at HI
  show Calls _ _ _ _ fun e w' => e = _ ∧ PageAt B b (wordsP (rowT d.pcs d.deg ++ d.ids) l) w' ∧ Kq B w w'
  rw [hZ]
  have HC := hs.o
  unfold slC at hW
  unfold slC
  obtain ⟨ao, co, rfl, _, _⟩ := hs.o
  obtain ⟨ap, cp, rfl, _, _⟩ := hs.p
  obtain ⟨al, cl, rfl, _, _⟩ := hs.l
  obtain ⟨ai, ci, rfl, _, _⟩ := hs.i
  obtain ⟨dk, dn, do_, dp, dg, dl, di, de, dw, dh⟩ := d
  dsimp only at hW HK HR HI hZ ⊢
  clear h hs hi hl hg hl1 hbW kW HC hZ
  go_enter Tryz.func88, Tryz.ntmps88
  go_wp2_with fail
  refine wp_region_T (fun w' => w'.cell? ⟨w.heap.size, 3, none⟩ = some (.slice ap dp.length cp) ∧ w'.cell? ⟨w.heap.size, 4, none⟩ = some (.string (txtOf dg)) ∧ w'.cell? ⟨w.heap.size, 6, none⟩ = some (.slice ai di.length ci)) (fun _ => True) [] (by kernel_rfl) ⟨HK.out _ (Kq.refl _ _), trivial⟩ (fun hHeld => ?_)
  clear hW
  generalize W.drew = U at hHeld HK HR HI HKW hBW ⊢
  refine wpAnyT_takeB (i := 0) (oi := ⟨some 4, .move (.tmp 0), _, _, _, _⟩) (v := ?v0) rfl (by kernel_rfl) (by kernel_rfl) (by kernel_rfl) (by kernel_rfl) (fun _ _ _ h => h) (Or.inl ⟨by rfl, ?hy0⟩) (by assumption) ?rest0
  case hy0 => (intro w hSw; (try dsimp only at hSw); obtain ⟨s0, s1, s2⟩ := hSw; go_simp; try (with_reducible rfl))
  try simp only [Act.put, List.setIfInBounds_toArray, List.set_cons_zero, List.set_cons_succ]
  refine wpAnyT_takeB (i := 1) (oi := ⟨some 5, .fieldAddr 45 (.tmp 3) 3, _, _, _, _⟩) (v := ?v1) rfl (by kernel_rfl) (by kernel_rfl) (by kernel_rfl) (by kernel_rfl) (fun _ _ _ h => h) (Or.inl ⟨by rfl, ?hy1⟩) (by assumption) ?rest1
  case hy1 => (intro w hSw; (try dsimp only at hSw); obtain ⟨s0, s1, s2⟩ := hSw; go_simp; try (with_reducible rfl))
  try simp only [Act.put, List.setIfInBounds_toArray, List.set_cons_zero, List.set_cons_succ]
  refine wpAnyT_takeB (i := 2) (oi := ⟨some 6, .load 41 (.tmp 5), _, _, _, _⟩) (v := ?v2) rfl (by kernel_rfl) (by kernel_rfl) (by kernel_rfl) (by kernel_rfl) (fun _ _ _ h => h) (Or.inl ⟨by rfl, ?hy2⟩) (by assumption) ?rest2
  case hy2 => (intro w hSw; (try dsimp only at hSw); obtain ⟨s0, s1, s2⟩ := hSw; go_simp; try (with_reducible rfl))
  try simp only [Act.put, List.setIfInBounds_toArray, List.set_cons_zero, List.set_cons_succ]
  refine wpAnyT_takeB (i := 4) (oi := ⟨some 8, .fieldAddr 45 (.tmp 3) 5, _, _, _, _⟩) (v := ?v4) rfl (by kernel_rfl) (by kernel_rfl) (by kernel_rfl) (by kernel_rfl) (fun _ _ _ h => h) (Or.inl ⟨by rfl, ?hy4⟩) (by assumption) ?rest4
  case hy4 => (intro w hSw; (try dsimp only at hSw); obtain ⟨s0, s1, s2⟩ := hSw; go_simp; try (with_reducible rfl))
  try simp only [Act.put, List.setIfInBounds_toArray, List.set_cons_zero, List.set_cons_succ]
  refine wpAnyT_takeB (i := 5) (oi := ⟨some 9, .load 43 (.tmp 8), _, _, _, _⟩) (v := ?v5) rfl (by kernel_rfl) (by kernel_rfl) (by kernel_rfl) (by kernel_rfl) (fun _ _ _ h => h) (Or.inl ⟨by rfl, ?hy5⟩) (by assumption) ?rest5
  case hy5 => (intro w hSw; (try dsimp only at hSw); obtain ⟨s0, s1, s2⟩ := hSw; go_simp; try (with_reducible rfl))
  try simp only [Act.put, List.setIfInBounds_toArray, List.set_cons_zero, List.set_cons_succ]
  clear hHeld
  refine wpAnyT_one (i := 3) (o := ⟨some 7, .call { callee := .value (.func 125), args := #[(.tmp 4), (.tmp 6)], argTypes := #[123, 41] }, _, _, _, _⟩) (by kernel_rfl) rfl (fun K hK => ?_)
  go_simp
  refine calls_at HR.out (by with_reducible rfl) (by with_reducible rfl) ?_
  rintro e w1 ⟨rfl, hp1, hk1⟩
  have H1 : Hid (PageAt B b (wordsP (rowT dp dg) l) w1 ∧ Kq B U w1) := ⟨hp1, hk1⟩
  clear hp1 hk1
  go_wp2_with fail
  refine hK.out _ _ ⟨HK.out _ H1.out.2, fun _ => trivial⟩ ?_
  clear hK K
  try simp only [Act.put, List.setIfInBounds_toArray, List.set_cons_zero, List.set_cons_succ]
  refine wpAnyT_one (i := 6) (o := ⟨some 10, .call { callee := .value (.func 80), args := #[(.tmp 7), (.tmp 9)], argTypes := #[123, 43] }, _, _, _, _⟩) (by kernel_rfl) rfl (fun K hK => ?_)
  go_simp
  refine calls_at (HI.out w1 H1.out.2 H1.out.1) (by with_reducible rfl) (by with_reducible rfl) ?_
  rintro e w2 ⟨rfl, hp2, hk2⟩
  have H2 : Hid (PageAt B b Z w2 ∧ Kq B U w2) := ⟨hp2, H1.out.2.trans hk2⟩
  clear hp2 hk2
  go_wp2_with fail
  refine hK.out _ _ ⟨HK.out _ H2.out.2, fun _ => trivial⟩ ?_
  clear hK K
  try simp only [Act.put, List.setIfInBounds_toArray, List.set_cons_zero, List.set_cons_succ]
  refine wpAnyT_done (by kernel_rfl) ?_ _
  go_wp2_with fail
  go_end0
  exact ⟨rfl, H2.out.1, HKW.out.trans H2.out.2⟩
end Go.Proofs.YtibbnijicdijnaaGreatDoor
