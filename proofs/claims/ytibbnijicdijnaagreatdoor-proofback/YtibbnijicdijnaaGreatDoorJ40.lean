/-
  Put together: PfWr7, PfWr5, PfWr8, PfMa.
-/
import Derived.Test.YtibbnijicdijnaaGreatDoorJ38
import Derived.Test.YtibbnijicdijnaaGreatDoorPfWr4
import Derived.Test.YtibbnijicdijnaaGreatDoorJ35
import Derived.Test.YtibbnijicdijnaaGreatDoorJ31
namespace Go.Proofs.YtibbnijicdijnaaGreatDoor
open Go.RowKit

theorem opsT_take (L : List OpL) (i : Nat) (hi : i < L.length) : opsT (L.take (i + 1)) = opsT (L.take i) ++ opT L[i] := by
  unfold opsT
  rw [List.take_succ_eq_append_getElem hi, List.flatMap_append]
  simp
theorem opsT_le (L : List OpL) (i : Nat) (hi : i < L.length) : tot (opsT (L.take i)) + tot (opT L[i]) ≤ tot (opsT L) := by
  have e : opsT L = opsT (L.take (i + 1)) ++ opsT (L.drop (i + 1)) := by
    unfold opsT
    rw [← List.flatMap_append, List.take_append_drop]
  rw [e, opsT_take L i hi, tot_app, tot_app]
  omega

set_option maxRecDepth 10000 in
set_option maxHeartbeats 4000000 in
theorem ops_wr {B b : Nat} {l : List UInt8} (d : SL) (vo vp vl vi : Value) (w : World) (h : PageAt B b l w) (hs : SlE B w d vo vp vl vi) (hr : ∀ o ∈ d.ops, -9223372036854775808 ≤ o.2.2 ∧ o.2.2 ≤ 9223372036854775807) (hl : l.length + tot (opsT d.ops) ≤ 900000000) (hBw : B ≤ w.heap.size) (hg : Gl w) (hB : 12 ≤ B) : Calls Tryz.prog 86 #[.pointer (some ⟨b, 0, none⟩), .agg (slC d vo vp vl vi)] w (WrO B b (wordsP (opsT d.ops) l) w) := by
  obtain ⟨W, hW⟩ : ∃ W, w.alloc (.cells (slC d vo vp vl vi) 45) = W := ⟨_, rfl⟩
  have hbW : Below w.heap.size w W := by rw [← hW]; exact (Below.refl _ _).alloc (Nat.le_refl _) _
  have HW : Hid (Kq B w W) := Kq.of_below hbW hBw
  have HPW : Hid (PageAt B b l W) := page_below h hbW
  have gW : W.heap[w.heap.size]? = some (.cells (slC d vo vp vl vi) 45 (0, 0)) := by rw [← hW]; exact heap_alloc_new w _
  have HR : Hid (RdE B w vo d.ops.length (opsC d.ops)) := hs.o
  have HG : Hid (Gl w) := hg
  have HRg : Hid (∀ o ∈ d.ops, -9223372036854775808 ≤ o.2.2 ∧ o.2.2 ≤ 9223372036854775807) := hr
  have HL : Hid (l.length + tot (opsT d.ops) ≤ 900000000) := hl
  have c2 := cell_of gW 2
  obtain ⟨ao, co, rfl, hn, _⟩ := hs.o
  obtain ⟨ap, cp, rfl, _, _⟩ := hs.p
  obtain ⟨al, cl, rfl, _, _⟩ := hs.l
  obtain ⟨ai, ci, rfl, _, _⟩ := hs.i
  unfold slC at hW
  simp only [slC] at c2
  dsimp at c2
  unfold WrO slC
  clear h hs hg hr hl hbW gW
  go_enter Tryz.func86, Tryz.ntmps86
  go_wp2_with fail
  go_loopw [9] (fun iv wr => ∃ i : Nat, iv = .int .i64 (i : Int) ∧ i ≤ d.ops.length ∧ Hid (PageAt B b (wordsP (opsT (d.ops.take i)) l) wr ∧ Kq B w wr)) (fun iv _ => d.ops.length - (intOf iv).toNat)
  case atStart => exact ⟨0, rfl, Nat.zero_le _, HPW.out, HW.out⟩
  case round =>
    obtain ⟨i, rfl, hi, HP⟩ := hrel
    by_cases hin : i < d.ops.length
    · have hiI : (i : Int) < (d.ops.length : Int) := by omega
      obtain ⟨g, off, rfl, hce⟩ := (HR.out.next HP.out.2).cell i hin
      obtain ⟨p0, p1, p2⟩ := ops_get d.ops i hin
      have d0 : wr.cell? ⟨g, off + i * 3, none⟩ = some (.int .i64 d.ops[i].1) := hce _ _ p0
      have d1 : wr.cell? ⟨g, off + i * 3 + 1, none⟩ = some (.string (txtOf d.ops[i].2.1)) := hce _ _ p1
      have d2 : wr.cell? ⟨g, off + i * 3 + 2, none⟩ = some (.int .i64 d.ops[i].2.2) := hce _ _ p2
      have hrg := HRg.out d.ops[i] (List.getElem_mem hin)
      have HN0 := opsT_take d.ops i hin
      have hle := opsT_le d.ops i hin
      obtain ⟨o, ho⟩ : ∃ o, d.ops[i] = o := ⟨_, rfl⟩
      rw [ho] at d0 d1 d2 hrg HN0 hle
      obtain ⟨k, n, z⟩ := o
      obtain ⟨m, hm⟩ : ∃ m, wordsP (opsT (d.ops.take i)) l = m := ⟨_, rfl⟩
      have HN : Hid (wordsP (opsT (d.ops.take (i + 1))) l = wordsP (opT (k, n, z)) m) := by
        show _ = _
        rw [HN0, words_app, hm]
      have hml : m.length + tot (opT (k, n, z)) ≤ 900000000 := by
        have h1 := words_len (opsT (d.ops.take i)) l
        have := HL.out
        rw [hm] at h1
        omega
      have hBr : B ≤ wr.heap.size := Nat.le_trans hBw HP.out.2.low.size
      obtain ⟨X, hX⟩ : ∃ X, wr.alloc (.cells #[.int .i64 k, .string (txtOf n), .int .i64 z] 84) = X := ⟨_, rfl⟩
      have hbX : Below wr.heap.size wr X := by rw [← hX]; exact (Below.refl _ _).alloc (Nat.le_refl _) _
      have gX : X.heap[wr.heap.size]? = some (.cells #[.int .i64 k, .string (txtOf n), .int .i64 z] 84 (0, 0)) := by rw [← hX]; exact heap_alloc_new wr _
      have HX : Hid (PageAt B b m X ∧ Kq B w X) := ⟨by rw [← hm]; exact page_below HP.out.1 hbX, HP.out.2.trans (Kq.of_below hbX hBr)⟩
      have HC : Hid (Calls Tryz.prog 121 #[.pointer (some ⟨b, 0, none⟩), .agg #[.int .i64 k, .string (txtOf n), .int .i64 z]] X (WrO B b (wordsP (opT (k, n, z)) m) X)) := op_wr k n z X HX.out.1 hml hrg (Nat.le_trans hBw HX.out.2.low.size) (HG.out.kq HX.out.2 hB) hB
      have e0 := cell_of gX 0
      have e1 := cell_of gX 1
      have e2 := cell_of gX 2
      dsimp at e0 e1 e2
      clear hbX gX HN0 hle hm hml hce p0 p1 p2 ho
      go_wp2_with fail
      refine calls_at HC.out (by with_reducible rfl) (by with_reducible rfl) ?_
      rintro e w2 ⟨rfl, hp2, hk2⟩
      have H2 : Hid (PageAt B b (wordsP (opsT (d.ops.take (i + 1))) l) w2 ∧ Kq B w w2) := ⟨by rw [HN.out]; exact hp2, HX.out.2.trans hk2⟩
      clear hp2 hk2
      go_wp2_with fail
      go_roundw
      case rel => exact ⟨i + 1, by go_num, hin, H2⟩
      case measure => simp [intOf]; omega
    · have hiI : ¬ (i : Int) < (d.ops.length : Int) := by omega
      have HE : Hid (PageAt B b (wordsP (opsT d.ops) l) wr ∧ Kq B w wr) := by
        have := HP.out
        rw [List.take_of_length_le (by omega)] at this
        exact this
      go_wp2_with fail
      go_end0
      exact ⟨rfl, HE.out⟩
end Go.Proofs.YtibbnijicdijnaaGreatDoor

namespace Go.Proofs.YtibbnijicdijnaaGreatDoor
open Go.RowKit

/-- Conclusions, by their writers. -/
def wrC (f : FuncId) (d : SL) : List (List UInt8) := if f = 154 then leanT d.ids else if f = 156 then (d.low :: leanT d.ids) ++ [d.high] else if f = 158 then d.high :: leanT d.ids else []
theorem tabC (k : Int) : TabW claimsL wrC k where
  leaf := by
    intro f hf _
    simp only [claimsL, List.mem_cons, List.not_mem_nil, or_false] at hf
    rcases hf with rfl | rfl | rfl | rfl | rfl
    · exact wrt_nothing
    · exact wrt_unsat
    · exact wrt_nothing
    · exact wrt_bounds
    · exact wrt_all
  few := by decide
  ent := by
    intro f hf
    simp only [claimsL, List.mem_cons, List.not_mem_nil, or_false] at hf
    rcases hf with rfl | rfl | rfl | rfl | rfl
    · exact Go.Proofs.enters_of Tryz.func82 (by kernel_rfl) rfl
    · exact Go.Proofs.enters_of Tryz.func154 (by kernel_rfl) rfl
    · exact Go.Proofs.enters_of Tryz.func82 (by kernel_rfl) rfl
    · exact Go.Proofs.enters_of Tryz.func156 (by kernel_rfl) rfl
    · exact Go.Proofs.enters_of Tryz.func158 (by kernel_rfl) rfl

set_option maxRecDepth 10000 in
set_option maxHeartbeats 2000000 in
theorem wrt_ends : Wrt 97 fun d => kindT claimsL wrC d.ends d := by
  intro B b l d vo vp vl vi w h hs hi hl hBw hg hB
  obtain ⟨V, hV⟩ : ∃ V, w.alloc (.cells (slC d vo vp vl vi) 45) = V := ⟨_, rfl⟩
  have hbV : Below w.heap.size w V := by rw [← hV]; exact (Below.refl _ _).alloc (Nat.le_refl _) _
  have kV : Kq B w V.drew := Kq.of_below hbV.drew hBw
  have hBV : B ≤ V.drew.heap.size := Nat.le_trans hBw kV.low.size
  have hP : PageAt B b l V.drew := page_below h hbV.drew
  have HBx : Hid (∀ w', Kq B V.drew w' → w'.cell? ⟨w.heap.size, 0, none⟩ = some (.int .i64 d.k) ∧ w'.cell? ⟨w.heap.size, 1, none⟩ = some (.string (txtOf d.n)) ∧ w'.cell? ⟨w.heap.size, 2, none⟩ = some (vo) ∧ w'.cell? ⟨w.heap.size, 3, none⟩ = some (vp) ∧ w'.cell? ⟨w.heap.size, 4, none⟩ = some (.string (txtOf d.deg)) ∧ w'.cell? ⟨w.heap.size, 5, none⟩ = some (vl) ∧ w'.cell? ⟨w.heap.size, 6, none⟩ = some (vi) ∧ w'.cell? ⟨w.heap.size, 7, none⟩ = some (.int .i64 d.ends) ∧ w'.cell? ⟨w.heap.size, 8, none⟩ = some (.string (txtOf d.low)) ∧ w'.cell? ⟨w.heap.size, 9, none⟩ = some (.string (txtOf d.high))) := fun w' k => by
    have gB := k.other _ _ _ _ (show V.drew.heap[w.heap.size]? = some (.cells (slC d vo vp vl vi) 45 (0, 0)) by show V.heap[w.heap.size]? = _; rw [← hV]; exact heap_alloc_new w _) (by decide) (by decide)
    exact ⟨cell_of gB 0, cell_of gB 1, cell_of gB 2, cell_of gB 3, cell_of gB 4, cell_of gB 5, cell_of gB 6, cell_of gB 7, cell_of gB 8, cell_of gB 9⟩
  have HF : Hid (Calls Tryz.prog 130 #[] V.drew fun e w' => e = .returned (.slice (some ⟨V.drew.heap.size, 0, none⟩) 5 5) ∧ w'.heap[V.drew.heap.size]? = some (.cells (fmsC claimsL).toArray 154 (0, 0)) ∧ Below V.drew.heap.size V.drew w') := (claims_any V.drew).mono fun e w' hq => ⟨hq.1, by rw [hq.2]; exact heap_alloc_new V.drew _, by rw [hq.2]; exact (Below.refl _ _).alloc (Nat.le_refl _) _⟩
  have HPk : Hid (∀ w', w'.heap[V.drew.heap.size]? = some (.cells (fmsC claimsL).toArray 154 (0, 0)) → Below V.drew.heap.size V.drew w' → Calls Tryz.prog 60 #[.pointer (some ⟨b, 0, none⟩), .slice (some ⟨V.drew.heap.size, 0, none⟩) 5 5, .int .i64 d.ends, .agg (slC d vo vp vl vi)] w' (WrO B b (wordsP (kindT claimsL wrC d.ends d) l) w')) := fun w' hg1 hb1 => by
    have k1 := kV.trans (Kq.of_below hb1 hBV)
    exact ppick_any d.ends (tabC d.ends) d vo vp vl vi w' (page_below hP hb1) hg1 (hs.next k1) hi hl (Nat.le_trans hBw k1.low.size) (hg.kq k1 hB) hB
  have HKV : Hid (Kq B w V.drew) := kV
  obtain ⟨Z, hZ⟩ : ∃ Z, wordsP (kindT claimsL wrC d.ends d) l = Z := ⟨_, rfl⟩
  rw [hZ] at HPk
  unfold WrO
  show Calls _ _ _ _ fun e w' => e = _ ∧ PageAt B b (wordsP (kindT claimsL wrC d.ends d) l) w' ∧ Kq B w w'
  rw [hZ]
  unfold slC at hV HPk
  unfold slC
  obtain ⟨ao, co, rfl, _, _⟩ := hs.o
  obtain ⟨ap, cp, rfl, _, _⟩ := hs.p
  obtain ⟨al, cl, rfl, _, _⟩ := hs.l
  obtain ⟨ai, ci, rfl, _, _⟩ := hs.i
  clear hs hi hl hg h hbV kV hP hZ
  go_enter Tryz.func97, Tryz.ntmps97
  go_wp2_with fail
  refine wp_region_T (fun w' => w'.cell? ⟨w.heap.size, 0, none⟩ = some (.int .i64 d.k) ∧ w'.cell? ⟨w.heap.size, 1, none⟩ = some (.string (txtOf d.n)) ∧ w'.cell? ⟨w.heap.size, 2, none⟩ = some (.slice ao d.ops.length co) ∧ w'.cell? ⟨w.heap.size, 3, none⟩ = some (.slice ap d.pcs.length cp) ∧ w'.cell? ⟨w.heap.size, 4, none⟩ = some (.string (txtOf d.deg)) ∧ w'.cell? ⟨w.heap.size, 5, none⟩ = some (.slice al d.lits.length cl) ∧ w'.cell? ⟨w.heap.size, 6, none⟩ = some (.slice ai d.ids.length ci) ∧ w'.cell? ⟨w.heap.size, 7, none⟩ = some (.int .i64 d.ends) ∧ w'.cell? ⟨w.heap.size, 8, none⟩ = some (.string (txtOf d.low)) ∧ w'.cell? ⟨w.heap.size, 9, none⟩ = some (.string (txtOf d.high))) (fun _ => True) [] (by kernel_rfl) ⟨HBx.out _ (Kq.refl _ _), trivial⟩ (fun hHeld => ?_)
  clear hV
  generalize V.drew = U at hHeld HBx HF HPk HKV hBV ⊢
  refine wpAnyT_takeB (i := 0) (oi := ⟨some 4, .move (.tmp 0), _, _, _, _⟩) (v := ?v0) rfl (by kernel_rfl) (by kernel_rfl) (by kernel_rfl) (by kernel_rfl) (fun _ _ _ h => h) (Or.inl ⟨by rfl, ?hy0⟩) (by assumption) ?rest0
  case hy0 => (intro w hSw; (try dsimp only at hSw); obtain ⟨s0, s1, s2, s3, s4, s5, s6, s7, s8, s9⟩ := hSw; go_simp; try (with_reducible rfl))
  try simp only [Act.put, List.setIfInBounds_toArray, List.set_cons_zero, List.set_cons_succ]
  refine wpAnyT_takeB (i := 2) (oi := ⟨some 6, .fieldAddr 45 (.tmp 3) 6, _, _, _, _⟩) (v := ?v2) rfl (by kernel_rfl) (by kernel_rfl) (by kernel_rfl) (by kernel_rfl) (fun _ _ _ h => h) (Or.inl ⟨by rfl, ?hy2⟩) (by assumption) ?rest2
  case hy2 => (intro w hSw; (try dsimp only at hSw); obtain ⟨s0, s1, s2, s3, s4, s5, s6, s7, s8, s9⟩ := hSw; go_simp; try (with_reducible rfl))
  try simp only [Act.put, List.setIfInBounds_toArray, List.set_cons_zero, List.set_cons_succ]
  refine wpAnyT_takeB (i := 3) (oi := ⟨some 7, .load 3 (.tmp 6), _, _, _, _⟩) (v := ?v3) rfl (by kernel_rfl) (by kernel_rfl) (by kernel_rfl) (by kernel_rfl) (fun _ _ _ h => h) (Or.inl ⟨by rfl, ?hy3⟩) (by assumption) ?rest3
  case hy3 => (intro w hSw; (try dsimp only at hSw); obtain ⟨s0, s1, s2, s3, s4, s5, s6, s7, s8, s9⟩ := hSw; go_simp; try (with_reducible rfl))
  try simp only [Act.put, List.setIfInBounds_toArray, List.set_cons_zero, List.set_cons_succ]
  refine wpAnyT_takeB (i := 4) (oi := ⟨some 8, .load 45 (.tmp 3), _, _, _, _⟩) (v := ?v4) rfl (by kernel_rfl) (by kernel_rfl) (by kernel_rfl) (by kernel_rfl) (fun _ _ _ h => h) (Or.inl ⟨by rfl, ?hy4⟩) (by assumption) ?rest4
  case hy4 => (intro w hSw; (try dsimp only at hSw); obtain ⟨s0, s1, s2, s3, s4, s5, s6, s7, s8, s9⟩ := hSw; go_simp; try (with_reducible rfl))
  try simp only [Act.put, List.setIfInBounds_toArray, List.set_cons_zero, List.set_cons_succ]
  clear hHeld
  refine wpAnyT_one (i := 1) (o := ⟨some 5, .call { callee := .value (.func 130), args := #[], argTypes := #[] }, _, _, _, _⟩) (by kernel_rfl) rfl (fun K hK => ?_)
  go_simp
  refine calls_at HF.out (by with_reducible rfl) (by with_reducible rfl) ?_
  rintro e w1 ⟨rfl, hg1, hb1⟩
  have H1 : Hid (w1.heap[U.heap.size]? = some (.cells (fmsC claimsL).toArray 154 (0, 0)) ∧ Below U.heap.size U w1) := ⟨hg1, hb1⟩
  clear hg1 hb1
  go_wp2_with fail
  refine hK.out _ _ ⟨HBx.out _ (Kq.of_below H1.out.2 hBV), fun _ => trivial⟩ ?_
  clear hK K
  try simp only [Act.put, List.setIfInBounds_toArray, List.set_cons_zero, List.set_cons_succ]
  refine wpAnyT_one (i := 5) (o := ⟨some 9, .call { callee := .value (.func 60), args := #[(.tmp 4), (.tmp 5), (.tmp 7), (.tmp 8)], argTypes := #[123, 127, 3, 45] }, _, _, _, _⟩) (by kernel_rfl) rfl (fun K hK => ?_)
  go_simp
  refine calls_at (HPk.out w1 H1.out.1 H1.out.2) (by with_reducible rfl) (by with_reducible rfl) ?_
  rintro e w2 ⟨rfl, hp2, hk2⟩
  have H2 : Hid (PageAt B b Z w2 ∧ Kq B U w2) := ⟨hp2, (Kq.of_below H1.out.2 hBV).trans hk2⟩
  clear hp2 hk2
  go_wp2_with fail
  refine hK.out _ _ ⟨HBx.out _ H2.out.2, fun _ => trivial⟩ ?_
  clear hK K
  try simp only [Act.put, List.setIfInBounds_toArray, List.set_cons_zero, List.set_cons_succ]
  refine wpAnyT_done (by kernel_rfl) ?_ _
  go_wp2_with fail
  go_end0
  exact ⟨rfl, H2.out.1, HKV.out.trans H2.out.2⟩
end Go.Proofs.YtibbnijicdijnaaGreatDoor

namespace Go.Proofs.YtibbnijicdijnaaGreatDoor
open Go.RowKit

theorem wrt_ops : Wrt 86 fun d => opsT d.ops := fun _ _ _ d vo vp vl vi w h hs hi hl hBw hg hB => ops_wr d vo vp vl vi w h hs hi.o hl hBw hg hB
/-- Steps, by their writers. -/
def wrF (f : FuncId) (d : SL) : List (List UInt8) :=
  if f = 84 then [d.n] else if f = 86 then opsT d.ops else if f = 88 then rowT d.pcs d.deg ++ d.ids else if f = 90 then d.ids ++ rowT d.pcs d.deg
  else if f = 92 then d.lits.map litT else if f = 94 then d.ids else if f = 97 then kindT claimsL wrC d.ends d else []
theorem tabF (k : Int) : TabW formsL wrF k where
  leaf := by
    intro f hf _
    simp only [formsL, List.mem_cons, List.not_mem_nil, or_false] at hf
    rcases hf with rfl | rfl | rfl | rfl | rfl | rfl | rfl | rfl | rfl | rfl | rfl | rfl
    · exact wrt_nothing
    · exact wrt_size
    · exact wrt_ops
    · exact wrt_rup
    · exact wrt_equal
    · exact wrt_lits
    · exact wrt_lits
    · exact wrt_del
    · exact wrt_nothing
    · exact wrt_nothing
    · exact wrt_ends
    · exact wrt_nothing
  few := by decide
  ent := by
    intro f hf
    simp only [formsL, List.mem_cons, List.not_mem_nil, or_false] at hf
    rcases hf with rfl | rfl | rfl | rfl | rfl | rfl | rfl | rfl | rfl | rfl | rfl | rfl
    · exact Go.Proofs.enters_of Tryz.func82 (by kernel_rfl) rfl
    · exact Go.Proofs.enters_of Tryz.func84 (by kernel_rfl) rfl
    · exact Go.Proofs.enters_of Tryz.func86 (by kernel_rfl) rfl
    · exact Go.Proofs.enters_of Tryz.func88 (by kernel_rfl) rfl
    · exact Go.Proofs.enters_of Tryz.func90 (by kernel_rfl) rfl
    · exact Go.Proofs.enters_of Tryz.func92 (by kernel_rfl) rfl
    · exact Go.Proofs.enters_of Tryz.func92 (by kernel_rfl) rfl
    · exact Go.Proofs.enters_of Tryz.func94 (by kernel_rfl) rfl
    · exact Go.Proofs.enters_of Tryz.func82 (by kernel_rfl) rfl
    · exact Go.Proofs.enters_of Tryz.func82 (by kernel_rfl) rfl
    · exact Go.Proofs.enters_of Tryz.func97 (by kernel_rfl) rfl
    · exact Go.Proofs.enters_of Tryz.func82 (by kernel_rfl) rfl
/-- The words of a step's line. -/
def lnW (d : SL) : List (List UInt8) := kindT formsL wrF d.k d
/-- The line that write tells of a step. -/
def lnT (d : SL) : List UInt8 := wordsP (lnW d) []
end Go.Proofs.YtibbnijicdijnaaGreatDoor

namespace Go.Proofs.YtibbnijicdijnaaGreatDoor
open Go.RowKit

/-- A text's words. -/
def Tk : List UInt8 → List (List UInt8) → Prop
  | r, [] => r.dropWhile blk = []
  | r, x :: L => r.dropWhile blk ≠ [] ∧ (r.dropWhile blk).take (wlen (r.dropWhile blk)) = x ∧ Tk ((r.dropWhile blk).drop (wlen (r.dropWhile blk))) L
/-- A word. -/
def Pw (x : List UInt8) : Prop := x ≠ [] ∧ ∀ c ∈ x, blk c = false
theorem drop_le (r : List UInt8) : (r.dropWhile blk).length ≤ r.length := (List.dropWhile_sublist _).length_le
theorem tk_all : ∀ (n : Nat) (r : List UInt8), r.length ≤ n → ∃ L, Tk r L := by
  intro n
  induction n with
  | zero =>
    intro r hr
    have : r = [] := List.length_eq_zero_iff.1 (by omega)
    subst this
    exact ⟨[], rfl⟩
  | succ n ih =>
    intro r hr
    by_cases h : r.dropWhile blk = []
    · exact ⟨[], h⟩
    · have hp := wlen_pos h
      have hl := wlen_le (r.dropWhile blk)
      have hd := drop_le r
      obtain ⟨L, hL⟩ := ih ((r.dropWhile blk).drop (wlen (r.dropWhile blk))) (by rw [List.length_drop]; omega)
      exact ⟨_ :: L, h, rfl, hL⟩
theorem tk_of (r : List UInt8) : ∃ L, Tk r L := tk_all r.length r (Nat.le_refl _)
theorem takeW (q : List UInt8) : q.take (wlen q) = q.takeWhile fun c => !blk c := by
  unfold wlen
  conv => lhs; arg 2; rw [← List.takeWhile_append_dropWhile (p := fun c => !blk c) (l := q)]
  rw [List.take_left]
theorem dropW (q : List UInt8) : q.drop (wlen q) = q.dropWhile fun c => !blk c := by
  unfold wlen
  conv => lhs; arg 2; rw [← List.takeWhile_append_dropWhile (p := fun c => !blk c) (l := q)]
  rw [List.drop_left]
theorem tk_words : ∀ (L : List (List UInt8)) (r : List UInt8), Tk r L → ∀ x ∈ L, Pw x ∧ ∀ c ∈ x, c ∈ r := by
  intro L
  induction L with
  | nil => intro r _ x hx; exact absurd hx List.not_mem_nil
  | cons y L ih =>
    intro r h x hx
    obtain ⟨h1, h2, h3⟩ := h
    rw [takeW] at h2
    rw [dropW] at h3
    rcases List.mem_cons.1 hx with rfl | hx
    · refine ⟨⟨?_, ?_⟩, ?_⟩
      · intro e
        have := wlen_pos h1
        unfold wlen at this
        rw [h2, e] at this
        exact absurd this (Nat.lt_irrefl _)
      · intro c hc
        rw [← h2] at hc
        have := List.all_eq_true.1 (List.all_takeWhile (l := r.dropWhile blk) (p := fun c => !blk c)) c hc
        simpa using this
      · intro c hc
        rw [← h2] at hc
        exact (List.dropWhile_sublist _).subset ((List.takeWhile_sublist _).subset hc)
    · obtain ⟨h4, h5⟩ := ih _ h3 x hx
      exact ⟨h4, fun c hc => (List.dropWhile_sublist _).subset ((List.dropWhile_sublist _).subset (h5 c hc))⟩
theorem tk_len : ∀ (L : List (List UInt8)) (r : List UInt8), Tk r L → tot L ≤ (r.dropWhile blk).length + 1 ∧ (L = [] ∨ r.dropWhile blk ≠ []) := by
  intro L
  induction L with
  | nil => intro r _; exact ⟨by simp [tot], .inl rfl⟩
  | cons x L ih =>
    intro r h
    obtain ⟨h1, h2, h3⟩ := h
    obtain ⟨h4, h5⟩ := ih _ h3
    refine ⟨?_, .inr h1⟩
    have hx : x.length = wlen (r.dropWhile blk) := by rw [← h2, List.length_take]; have := wlen_le (r.dropWhile blk); omega
    have e : tot (x :: L) = x.length + 1 + tot L := by simp [tot]
    obtain ⟨q, hq⟩ : ∃ q, (r.dropWhile blk) = q := ⟨_, rfl⟩
    rw [hq] at h4 h5 hx ⊢
    have hl := wlen_le q
    rcases h5 with rfl | h5
    · rw [e]; simp [tot]; omega
    · have hd : (q.drop (wlen q)).length = q.length - wlen q := List.length_drop
      have hb : ((q.drop (wlen q)).dropWhile blk).length + 1 ≤ (q.drop (wlen q)).length := by
        rw [dropW] at h5 ⊢
        cases hc : q.dropWhile fun c => !blk c with
        | nil => rw [hc] at h5; exact absurd rfl h5
        | cons c t =>
          have hbc : blk c = true := by
            have := List.head_dropWhile_not (fun c => !blk c) (l := q) (by rw [hc]; simp)
            simp only [hc, List.head_cons] at this
            simpa using this
          rw [List.dropWhile_cons_of_pos hbc]
          have := drop_le t
          simp
          omega
      rw [e]
      omega
/-- A list of words, one blank ahead of each. -/
def spW (L : List (List UInt8)) : List UInt8 := L.flatMap fun x => 32 :: x
theorem words_sp : ∀ (L : List (List UInt8)) (l : List UInt8), l ≠ [] → wordsP L l = l ++ spW L := by
  intro L
  induction L with
  | nil => intro l _; simp [wordsP, spW]
  | cons x L ih =>
    intro l hl
    have h0 : 0 < l.length := List.length_pos_iff.2 hl
    have : wordsP (x :: L) l = wordsP L (l ++ 32 :: x) := by
      show wordsP L (wordP l x) = _
      unfold wordP
      rw [if_pos h0]
    rw [this, ih _ (by simp)]
    simp [spW]
theorem words_first (x : List UInt8) (L : List (List UInt8)) (hx : x ≠ []) : wordsP (x :: L) [] = x ++ spW L := by
  have : wordsP (x :: L) [] = wordsP L x := by
    show wordsP L (wordP [] x) = _
    simp [wordP]
  rw [this, words_sp L x hx]
theorem sp_head (L : List (List UInt8)) : spW L = [] ∨ ∃ t, spW L = 32 :: t := by
  cases L with
  | nil => exact .inl rfl
  | cons x L => exact .inr ⟨x ++ spW L, by simp [spW]⟩
theorem tk_app (x : List UInt8) (L : List (List UInt8)) (hx : Pw x) (t : List UInt8) (ht : t = [] ∨ ∃ u, t = 32 :: u) (h : Tk t L) : Tk (x ++ t) (x :: L) := by
  have hd : (x ++ t).dropWhile blk = x ++ t := by
    cases x with
    | nil => exact absurd rfl hx.1
    | cons c x => rw [List.cons_append, List.dropWhile_cons_of_neg]; rw [hx.2 c List.mem_cons_self]; decide
  have hw : wlen (x ++ t) = x.length := by
    unfold wlen
    rw [List.takeWhile_append_of_pos (fun c hc => by rw [hx.2 c hc]; rfl)]
    rcases ht with rfl | ⟨u, rfl⟩
    · simp
    · rw [List.takeWhile_cons_of_neg (by decide)]
      simp
  refine ⟨?_, ?_, ?_⟩
  · rw [hd]; simp [hx.1]
  · rw [hd, hw, List.take_left]
  · rw [hd, hw, List.drop_left]; exact h
theorem tk_blank (t : List UInt8) (L : List (List UInt8)) (h : Tk t L) : Tk (32 :: t) L := by
  have hd : (32 :: t).dropWhile blk = t.dropWhile blk := List.dropWhile_cons_of_pos (by decide)
  cases L with
  | nil => show _ = _; rw [hd]; exact h
  | cons x L => exact ⟨by rw [hd]; exact h.1, by rw [hd]; exact h.2.1, by rw [hd]; exact h.2.2⟩
theorem tk_sp : ∀ L : List (List UInt8), (∀ x ∈ L, Pw x) → Tk (spW L) L := by
  intro L
  induction L with
  | nil => intro _; rfl
  | cons x L ih =>
    intro h
    have e : spW (x :: L) = 32 :: (x ++ spW L) := by simp [spW]
    rw [e]
    exact tk_blank _ _ (tk_app x L (h x List.mem_cons_self) _ (sp_head L) (ih fun y hy => h y (List.mem_cons_of_mem _ hy)))
theorem tk_line (x : List UInt8) (L : List (List UInt8)) (h : ∀ y ∈ x :: L, Pw y) : Tk (wordsP (x :: L) []) (x :: L) := by
  rw [words_first x L (h x List.mem_cons_self).1]
  exact tk_app x L (h x List.mem_cons_self) _ (sp_head L) (tk_sp L fun y hy => h y (List.mem_cons_of_mem _ hy))

/-- Words taken. -/
theorem tk_take {r x : List UInt8} {L : List (List UInt8)} (h : Tk r (x :: L)) : ∃ r', takeP (r, none) = ((x, true), (r', none)) ∧ Tk r' L := by
  refine ⟨(r.dropWhile blk).drop (wlen (r.dropWhile blk)), ?_, h.2.2⟩
  unfold takeP
  rw [if_neg (by simp [h.1])]
  simp only [h.2.1]
theorem tk_stop {r : List UInt8} (h : Tk r []) : takeP (r, none) = (([], false), (r, none)) := by
  unfold takeP
  rw [if_pos (.inr h)]
theorem take_bad {s : Ls} (h : s.2.isSome = true) : takeP s = (([], false), s) := by
  unfold takeP
  rw [if_pos (.inl h)]
theorem fail_bad {e : Int} {s : Ls} (h : s.2.isSome = true) : failP e s = s := by
  unfold failP
  split
  · rename_i h0; rw [h0] at h; cases h
  · rfl
theorem next_bad {s : Ls} (h : s.2.isSome = true) : nextP s = ([], s) := by
  unfold nextP
  rw [take_bad h]
  simp [fail_bad h]
theorem tk_next {r x : List UInt8} {L : List (List UInt8)} (h : Tk r (x :: L)) : ∃ r', nextP (r, none) = (x, (r', none)) ∧ Tk r' L := by
  obtain ⟨r', h1, h2⟩ := tk_take h
  refine ⟨r', ?_, h2⟩
  unfold nextP
  rw [h1]
  simp
theorem next_end {r : List UInt8} (h : Tk r []) : (nextP (r, none)).2.2.isSome = true := by
  unfold nextP
  rw [tk_stop h]
  simp [failP]
theorem none_some {α : Type} {o : Option α} (h : o = none) (h' : o.isSome = true) : False := by rw [h] at h'; cases h'
theorem next_ok {s : Ls} {L : List (List UInt8)} (h : Tk s.1 L) (hn : (nextP s).2.2 = none) : ∃ x M r', L = x :: M ∧ nextP s = (x, (r', none)) ∧ Tk r' M ∧ s.2 = none := by
  obtain ⟨r, o⟩ := s
  cases o with
  | some e => rw [next_bad rfl] at hn; cases hn
  | none =>
    cases L with
    | nil => exact (none_some hn (next_end h)).elim
    | cons x M =>
      obtain ⟨r', h1, h2⟩ := tk_next h
      exact ⟨x, M, r', rfl, h1, h2, rfl⟩
theorem whole_ok {x : List UInt8} {g : Int} {s : Ls} (h : (wholeP x g s).2 = none) : badN x g = false ∧ wholeP x g s = s ∧ s.2 = none := by
  unfold wholeP at h ⊢
  cases hb : badN x g with
  | true => rw [hb, if_pos rfl] at h; exact (none_some h (fail_some _ _)).elim
  | false => rw [hb] at h; exact ⟨rfl, by simp, by simpa using h⟩
theorem whole_yes {x : List UInt8} {g : Int} {s : Ls} (h : badN x g = false) : wholeP x g s = s := by
  unfold wholeP
  rw [h]
  simp
theorem literal_ok {x : List UInt8} {s : Ls} (h : (literalP x s).2 = none) : (litP x).2 = true ∧ literalP x s = s ∧ s.2 = none := by
  unfold literalP at h ⊢
  cases hb : (litP x).2 with
  | false => rw [hb] at h; exact (none_some (by simpa using h) (fail_some 81 s)).elim
  | true => rw [hb] at h; exact ⟨rfl, by simp, by simpa using h⟩
theorem literal_yes {x : List UInt8} {s : Ls} (h : (litP x).2 = true) : literalP x s = s := by
  unfold literalP
  rw [h]
  simp
theorem must_ok {x : List UInt8} {s : Ls} {L : List (List UInt8)} (h : Tk s.1 L) (hn : (mustP x s).2 = none) : ∃ M r', L = x :: M ∧ mustP x s = (r', none) ∧ Tk r' M ∧ s.2 = none := by
  have hn0 := hn
  unfold mustP at hn
  split at hn
  · rename_i he
    obtain ⟨y, M, r', h1, h2, h3, h4⟩ := next_ok h hn
    refine ⟨M, r', ?_, ?_, h3, h4⟩
    · rw [h1]; rw [h2] at he; simp at he; rw [he]
    · unfold mustP; rw [if_pos he, h2]
  · exact (none_some hn (fail_some _ _)).elim
theorem must_yes {x r : List UInt8} {L : List (List UInt8)} (h : Tk r (x :: L)) : ∃ r', mustP x (r, none) = (r', none) ∧ Tk r' L := by
  obtain ⟨r', h1, h2⟩ := tk_next h
  exact ⟨r', by unfold mustP; rw [h1]; simp, h2⟩
theorem end_ok {s : Ls} {L : List (List UInt8)} (h : Tk s.1 L) (hn : (endP s).2 = none) : L = [] ∧ s.2 = none := by
  obtain ⟨r, o⟩ := s
  cases o with
  | some e => unfold endP at hn; rw [take_bad rfl] at hn; cases hn
  | none =>
    cases L with
    | nil => exact ⟨rfl, rfl⟩
    | cons x M =>
      obtain ⟨r', h1, _⟩ := tk_take h
      unfold endP at hn
      rw [h1] at hn
      simp [failP] at hn
theorem end_yes {r : List UInt8} (h : Tk r []) : endP (r, none) = (r, none) := by
  unfold endP
  rw [tk_stop h]
  simp

/-- Lists of words. -/
theorem lst_bad {rd : List UInt8 → Ls → Ls} {n : Nat} {s : Ls} (h : s.2.isSome = true) : lstP rd n s = ([], s) := by
  cases n with
  | zero => rfl
  | succ n => rw [lst_stop (x := []) (by rw [take_bad h]), take_bad h]
theorem lst_ok {rd : List UInt8 → Ls → Ls} {ok : List UInt8 → Prop} (hrd : ∀ x s, (rd x s).2 = none → ok x ∧ rd x s = s) : ∀ (L : List (List UInt8)) (n : Nat) (r : List UInt8), Tk r L → L.length < n → (lstP rd n (r, none)).2.2 = none → (∀ x ∈ L, ok x) ∧ ∃ r', lstP rd n (r, none) = (L, (r', none)) ∧ Tk r' [] := by
  intro L
  induction L with
  | nil =>
    intro n r h hn h0
    obtain ⟨n, rfl⟩ : ∃ m, n = m + 1 := ⟨n - 1, by simp at hn; omega⟩
    refine ⟨fun x hx => absurd hx List.not_mem_nil, r, ?_, h⟩
    rw [lst_stop (x := []) (by rw [tk_stop h]), tk_stop h]
  | cons x L ih =>
    intro n r h hn h0
    obtain ⟨n, rfl⟩ : ∃ m, n = m + 1 := ⟨n - 1, by simp at hn; omega⟩
    obtain ⟨r', h1, h2⟩ := tk_take h
    have e : lstP rd (n + 1) (r, none) = (x :: (lstP rd n (rd x (r', none))).1, (lstP rd n (rd x (r', none))).2) := by rw [lst_more (x := x) (by rw [h1]), h1]
    rw [e] at h0
    have hb : (rd x (r', none)).2 = none := by
      cases hs : (rd x (r', none)).2 with
      | none => rfl
      | some z => rw [lst_bad (by rw [hs]; rfl)] at h0; simp only [] at h0; rw [hs] at h0; cases h0
    obtain ⟨k1, k2⟩ := hrd x _ hb
    rw [k2] at h0 e
    obtain ⟨a1, r2, a2, a3⟩ := ih n r' h2 (by simp at hn; omega) h0
    refine ⟨fun y hy => ?_, r2, by rw [e, a2], a3⟩
    rcases List.mem_cons.1 hy with rfl | hy
    · exact k1
    · exact a1 y hy
theorem lst_yes {rd : List UInt8 → Ls → Ls} {ok : List UInt8 → Prop} (hrd : ∀ x s, ok x → rd x s = s) : ∀ (L : List (List UInt8)) (n : Nat) (r : List UInt8), Tk r L → L.length < n → (∀ x ∈ L, ok x) → ∃ r', lstP rd n (r, none) = (L, (r', none)) ∧ Tk r' [] := by
  intro L
  induction L with
  | nil =>
    intro n r h hn h0
    obtain ⟨n, rfl⟩ : ∃ m, n = m + 1 := ⟨n - 1, by simp at hn; omega⟩
    refine ⟨r, ?_, h⟩
    rw [lst_stop (x := []) (by rw [tk_stop h]), tk_stop h]
  | cons x L ih =>
    intro n r h hn h0
    obtain ⟨n, rfl⟩ : ∃ m, n = m + 1 := ⟨n - 1, by simp at hn; omega⟩
    obtain ⟨r', h1, h2⟩ := tk_take h
    have e : lstP rd (n + 1) (r, none) = (x :: (lstP rd n (rd x (r', none))).1, (lstP rd n (rd x (r', none))).2) := by rw [lst_more (x := x) (by rw [h1]), h1]
    rw [hrd x _ (h0 x List.mem_cons_self)] at e
    obtain ⟨r2, a2, a3⟩ := ih n r' h2 (by simp at hn; omega) fun y hy => h0 y (List.mem_cons_of_mem _ hy)
    exact ⟨r2, by rw [e, a2], a3⟩
theorem tk_count {r : List UInt8} {L : List (List UInt8)} (h : Tk r L) : L.length ≤ r.length := by
  have h1 := tk_len L r h
  have h2 := tk_words L r h
  have h3 : ∀ M : List (List UInt8), (∀ x ∈ M, Pw x) → M.length * 2 ≤ tot M := by
    intro M
    induction M with
    | nil => intro _; simp
    | cons x M ih =>
      intro hM
      have h5 := List.length_pos_iff.2 (hM x List.mem_cons_self).1
      have h4 := ih fun y hy => hM y (List.mem_cons_of_mem _ hy)
      have e : tot (x :: M) = x.length + 1 + tot M := by simp [tot]
      rw [e, List.length_cons]
      omega
  have h4 := h3 L fun x hx => (h2 x hx).1
  have h5 := drop_le r
  rcases h1.2 with rfl | h6
  · simp
  · have := List.length_pos_iff.2 h6
    omega
theorem list_ok {rd : List UInt8 → Ls → Ls} {ok : List UInt8 → Prop} (hrd : ∀ x s, (rd x s).2 = none → ok x ∧ rd x s = s) {s : Ls} {L : List (List UInt8)} (h : Tk s.1 L) (hn : (listP rd s).2.2 = none) : (∀ x ∈ L, ok x) ∧ (∃ r', listP rd s = (L, (r', none)) ∧ Tk r' []) ∧ s.2 = none := by
  obtain ⟨r, o⟩ := s
  unfold listP at hn ⊢
  cases o with
  | some e => rw [lst_bad rfl] at hn; cases hn
  | none =>
    have := lst_ok hrd L _ r h (by have := tk_count h; simp at this ⊢; omega) hn
    exact ⟨this.1, this.2, rfl⟩
theorem list_yes {rd : List UInt8 → Ls → Ls} {ok : List UInt8 → Prop} (hrd : ∀ x s, ok x → rd x s = s) {r : List UInt8} {L : List (List UInt8)} (h : Tk r L) (ho : ∀ x ∈ L, ok x) : ∃ r', listP rd (r, none) = (L, (r', none)) ∧ Tk r' [] := by
  unfold listP
  exact lst_yes hrd L _ r h (by have := tk_count h; simp at this ⊢; omega) ho
end Go.Proofs.YtibbnijicdijnaaGreatDoor
