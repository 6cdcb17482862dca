/-
  A line that is read: a table's row.
-/
import Derived.Test.YthohnmplbjhjaaaGreatDoorTrCols
namespace Go.Proofs.YthohnmplbjhjaaaGreatDoor
open Go Go.RowKit Go.Shelf Go.Lib

theorem app_ofw {w w' : World} {o : Obj} {row : Option Nat} (h : (w.alloc o).grownBy w' row) : Ofw (fun k => row = some k) w w' := by
  have hb : Below w.heap.size w (w.alloc o) := (Below.refl _ _).alloc (Nat.le_refl _) _
  have hsV : (w.alloc o).heap.size = w.heap.size + 1 := by simp
  exact ⟨h.os.trans hb.os, h.tape.trans hb.tape, h.output.trans hb.output, Nat.le_trans hb.size h.size, fun k hk hv => (h.block k (by omega) (fun e => hv e.symm)).trans (hb.block k hk)⟩
theorem un58 : Tryz.prog.underlying 58 = some (.slice 3) := by kernel_rfl
theorem inf3 : (Tryz.prog.info? 3).map (fun i => (i.zero, i.size, i.bytes)) = some (some (.int .i64 0), 1, 8) := by kernel_rfl

set_option maxRecDepth 10000 in
set_option maxHeartbeats 2000000 in
theorem row_read {w0 : World} {V : List Md.Vr} {va : Value} {b : Nat} {s : St} (n : Nat) (x : List UInt8) (w : World) (h : Ln w0 V va b s w) (hx : x.length ≤ 70000) (hn : n ≤ 1000) : Calls Tryz.prog 170 #[.pointer (some ⟨b, 0, none⟩), .string (txtOf x), .int .i64 n] w (RL w0 V va b 3 1 (rdRow n x s).1.length (encL encI (rdRow n x s).1) (rdRow n x s).2 w) := by
  have hlt := h.lt
  have hbg := h.big
  have HV : Hid (Calls Tryz.prog 130 #[.pointer (some ⟨b, 0, none⟩), .string (txtOf x)] w (RO w0 V va b (.int .i64 (rdValue x s).1) (rdValue x s).2 w)) := value_any x w h hx
  have HNu : Hid (∀ t w', Ln w0 V va b t w' → Calls Tryz.prog 81 #[.pointer (some ⟨b, 0, none⟩)] w' (RO w0 V va b (.int .i64 (rdNumber t).1) (rdNumber t).2 w')) := fun t w' h' => number_any w' h'
  have HD : Hid (rowGo (n - 1) [(rdValue x s).1] (rdValue x s).2 = rdRow n x s) := rfl
  obtain ⟨RR, hRR⟩ : ∃ RR, rdRow n x s = RR := ⟨_, rfl⟩
  rw [hRR] at HD ⊢
  obtain ⟨a0, ha0⟩ : ∃ a, (rdValue x s).1 = a := ⟨_, rfl⟩
  obtain ⟨t1, ht1⟩ : ∃ t, (rdValue x s).2 = t := ⟨_, rfl⟩
  rw [ha0, ht1] at HV HD
  clear hRR ha0 ht1
  obtain ⟨X, hX⟩ : ∃ X, txtOf x = X := ⟨_, rfl⟩
  rw [hX] at HV ⊢
  clear h hx hX
  go_enter Tryz.func170, Tryz.ntmps170
  go_wp2_with fail
  refine calls_at HV.out (by with_reducible rfl) (by with_reducible rfl) ?_
  rintro e w1 ⟨rfl, h1, o1⟩
  have hs1 := o1.size
  have W2 : Hid (Ln w0 V va b t1 (w1.alloc (.cells #[.int .i64 a0] 3)) ∧ Ofw (fun k => k = b) w (w1.alloc (.cells #[.int .i64 a0] 3)) ∧ (w1.alloc (.cells #[.int .i64 a0] 3)).ownsRow w.heap.size 3 1 (.slice (some ⟨w1.heap.size, 0, none⟩) 1 1) 1 (encL encI [a0])) := by
    have hb : Below w1.heap.size w1 (w1.alloc (.cells #[.int .i64 a0] 3)) := (Below.refl _ _).alloc (Nat.le_refl _) _
    exact ⟨h1.below hb, o1.trans (Ofw.of_below hb), row_new (heap_alloc_new w1 _) hs1 rfl⟩
  clear h1 o1
  go_wp2_with fail
  go_loopg [7] (n - 1) (fun g v7 wr => ∃ (ad : Option Addr) (m cp : Nat) (row : List Int) (sc : St), v7 = .slice ad m cp ∧ m = row.length ∧ (row.length + g = n ∨ (g = 0 ∧ n ≤ row.length)) ∧ row.length ≤ 1000 ∧ Hid (rowGo g row sc = RR) ∧ Hid (wr.ownsRow w.heap.size 3 1 (.slice ad row.length cp) row.length (encL encI row)) ∧ Hid (Ln w0 V va b sc wr) ∧ Hid (Ofw (fun k => k = b) w wr))
  case atStart => exact ⟨_, _, _, [a0], t1, rfl, rfl, by simp; omega, by simp, HD, W2.out.2.2, W2.out.1, W2.out.2.1⟩
  case round =>
    obtain ⟨ad, m, cp, row, sc, rfl, rfl, hg, hr, HG, HO, HL, HW⟩ := hrel
    cases gk with
    | zero =>
      have h1 : n ≤ row.length := by omega
      have hc : decide ((row.length : Int) < (n : Int)) = false := decide_eq_false (by omega)
      have HR : Hid ((row, sc) = RR) := HG
      clear hg HG
      go_wp2_with fail
      go_ret
      exact ⟨_, rfl, by rw [← HR.out]; exact HL.out, HW.out, by rw [← HR.out]; exact HO.out⟩
    | succ g =>
      have h1 : row.length < n := by omega
      have hc : decide ((row.length : Int) < (n : Int)) = true := decide_eq_true (by omega)
      have hg2 : row.length + (g + 1) = n := by omega
      obtain ⟨aa, haa⟩ : ∃ aa, (rdNumber sc).1 = aa := ⟨_, rfl⟩
      obtain ⟨s2, hs2⟩ : ∃ s2, (rdNumber sc).2 = s2 := ⟨_, rfl⟩
      have HG2 : Hid (rowGo g (row ++ [aa]) s2 = RR) := by
        show _ = _
        rw [← HG.out]
        conv => rhs; unfold rowGo
        rw [haa, hs2]
      have HI : Hid (Calls Tryz.prog 81 #[.pointer (some ⟨b, 0, none⟩)] wr (RO w0 V va b (.int .i64 aa) s2 wr)) := by
        have := HNu.out sc wr HL.out
        rw [haa, hs2] at this
        exact this
      have HB : Hid (wr.heap[b]? = some (.cells #[va, .string (txtOf sc.1), .int .i64 sc.2] 115 (0, 0))) := HL.out.o
      clear hg HG haa hs2
      go_wp2_with (first
        | (go_at_call 81; refine calls_at HI.out (by with_reducible rfl) (by with_reducible rfl) ?_; rintro e w2 ⟨rfl, h3, h4⟩; (have H2 : Hid (Ln w0 V va b s2 w2 ∧ Ofw (fun k => k = b) w w2 ∧ w2.ownsRow w.heap.size 3 1 (.slice ad row.length cp) row.length (encL encI row)) := ⟨h3, HW.out.trans h4, own_ofw HO.out (fun g hg e => by obtain ⟨h7, _⟩ := own_type HO.out hg; have e' : g = b := e; omega) h4⟩); clear h3 h4)
        | (at_builtin; refine append_one w2 (.int .i64 aa) rfl _ _ 58 3 (.int .i64 0) 8 rfl un58 inf3 rfl w.heap.size _ _ _ (by rfl) H2.out.2.2 rfl _ rfl (by rfl) (by unfold maxLen; omega) (by omega) (H2.out.2.1.size) ?_; intro v3 w3 ho3 hg3 hn3; obtain ⟨ad3, cp3, hv3⟩ := own_slice ho3; subst hv3; (have H3 : Hid (Ln w0 V va b s2 w3 ∧ Ofw (fun k => k = b) w w3 ∧ w3.ownsRow w.heap.size 3 1 (.slice ad3 (row ++ [aa]).length cp3) (row ++ [aa]).length (encL encI (row ++ [aa]))) := ⟨H2.out.1.keep (fun k hk => by obtain ⟨h7, _⟩ := own_type H2.out.2.2 hk; omega) (app_ofw hg3), H2.out.2.1.new (app_ofw hg3) (fun i hi => by obtain ⟨h7, _⟩ := own_type H2.out.2.2 hi; omega), (by rw [encL_snoc, List.length_append]; exact ho3)⟩); clear ho3 hg3 hn3))
      go_roundg g
      case measure => omega
      case rel => exact ⟨ad3, _, cp3, row ++ [aa], s2, rfl, by simp, by simp; omega, by simp; omega, HG2, H3.out.2.2, H3.out.1, H3.out.2.1⟩
end Go.Proofs.YthohnmplbjhjaaaGreatDoor
