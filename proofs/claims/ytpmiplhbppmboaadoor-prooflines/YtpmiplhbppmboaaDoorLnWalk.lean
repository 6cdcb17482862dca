/-
  ProofLines: the walk.
-/
import Derived.Test.YtpmiplhbppmboaaDoorBkEnd
import Derived.Test.YtpmiplhbppmboaaDoorRgAll
import Derived.Laws.Tables
namespace Go.Proofs.YtpmiplhbppmboaaDoor
open Go Go.RowKit Go.Lib

theorem wpList_build_to {P : Program} {ops : Array Oper} {rest : List Oper} {o : Oper} {a : Act} {w : World} {Q : Exit → Act → World → Prop} (hg : o.guard = none) (t : TypeId) (parts : Array (Nat × Operand)) (ho : o.op = .build t parts) (cells : Array Value)
    (hf : P.built t (parts.map fun (i, x) => (i, a.eval x)).toList = some cells) (h : wpList P ops Q rest (a.put o.dst (.agg cells)) w) : wpList P ops Q (o :: rest) a w :=
  wpList_build hg t parts ho (by rw [hf]; rfl) (by rw [hf]; exact h)
/-- The lines as texts. -/
def lineTxts (s : ByteArray) : List ByteArray := (lns s.data.toList []).map txtOf
theorem lineTxts_map (s : ByteArray) : (lineTxts s).map Value.string = (lns s.data.toList []).map fun l => .string (txtOf l) := by simp [lineTxts]
theorem lineTxts_len (s : ByteArray) : (lineTxts s).length = (lns s.data.toList []).length := by simp [lineTxts]
theorem lineTxts_le (s : ByteArray) (hs : s.size ≤ 400000) : (lineTxts s).length ≤ 400001 := by
  rw [lineTxts_len]
  have := lns_count s.data.toList []
  rw [Lib.size_eq] at hs
  omega
/-- What both answer. -/
def LtOut (L : List ByteArray) (w : World) (e : Ending) (w' : World) : Prop := ∃ v, e = .returned v ∧ w'.ownsRow w.heap.size 9 1 v L.length (L.map .string) ∧ RowKit.Below w.heap.size w w'
theorem lt_out {s : ByteArray} {w : World} {e : Ending} {w' : World} (h : LnOut s w e w') : LtOut (lineTxts s) w e w' := by
  obtain ⟨v, h1, h2, h3⟩ := h
  exact ⟨v, h1, by rw [lineTxts_map, lineTxts_len]; exact h2, h3⟩
/-- A row's texts as they are read. -/
theorem own_read {w : World} {B : Nat} {a : Option Addr} {c : Nat} {L : List ByteArray} (h : w.ownsRow B 9 1 (.slice a L.length c) L.length (L.map .string)) (j : Nat) (hj : j < L.length) : ∃ g, a = some ⟨g, 0, none⟩ ∧ w.cell? ⟨g, j, none⟩ = some (.string L[j]) := by
  rcases own_cells h with ⟨_, h0⟩ | ⟨g, c', h0, _, _, _, hc⟩
  · omega
  · injection h0 with e1 _ _
    exact ⟨g, e1, hc j _ (by simp [hj])⟩

set_option maxRecDepth 100000 in
set_option maxHeartbeats 1000000 in
theorem proofLines_long (s : ByteArray) (w : World) (hs : 400000 < s.size) : Calls Tryd.prog 3 #[.string s] w fun e w' => e = .returned (.bool true) ∧ RowKit.Below w.heap.size w w' := by
  have hsI : (400000 : Int) < (s.size : Int) := by omega
  go_enter Tryd.func3, Tryd.ntmps3
  go_wp2_with fail
  go_ret
  exact ⟨rfl, Below.refl _ _⟩

set_option maxRecDepth 100000 in
set_option maxHeartbeats 8000000 in
theorem proofLines_short (s : ByteArray) (w : World) (hs : s.size ≤ 400000) (ht : Tab w) : Calls Tryd.prog 3 #[.string s] w fun e w' => e = .returned (.bool true) ∧ RowKit.Below w.heap.size w w' := by
  have hsI : ¬ (400000 : Int) < (s.size : Int) := by omega
  obtain ⟨L, hL⟩ : ∃ L, L = lineTxts s := ⟨_, rfl⟩
  have HLn : Hid (L.length ≤ 400001) := hL ▸ lineTxts_le s hs
  obtain ⟨W1, hW1⟩ : ∃ W1, w.alloc (.cells (bookCs false 0 0 tx0) 40) = W1 := ⟨_, rfl⟩
  have HB1 : Hid (BkAt W1 w.heap.size false 0 0 tx0) := by rw [← hW1]; exact World.alloc_heap_new w _
  have HW1 : Hid (RowKit.Below w.heap.size w W1 ∧ W1.heap.size = w.heap.size + 1) := ⟨hW1 ▸ (Below.refl _ _).alloc (Nat.le_refl _) _, by rw [← hW1]; simp⟩
  have HR : Hid (Calls Tryd.prog 4 #[.string s] W1 (LtOut L W1)) := (refLines_any s W1 hs).mono (fun e w' h => hL ▸ lt_out h)
  have HL : Hid (∀ wr, Calls Tryd.prog 5 #[.string s] wr (LtOut L wr)) := fun wr => (progLines_any s wr hs).mono (fun e w' h => hL ▸ lt_out h)
  have HTab : Hid (Tab w) := ht
  clear ht hL hs
  go_enter Tryd.func3, Tryd.ntmps3
  go_wp2_with (first | (refine wpList_build_to rfl 40 #[] rfl (bookCs false 0 0 tx0) (by kernel_rfl) ?_) | (go_at_call 4; (first | rw [hW1] | skip); refine calls_at HR.out (by with_reducible rfl) (by with_reducible rfl) ?_; rintro e W2 ⟨wv, rfl, hown, hb2⟩; have HW2 : Hid (W2.ownsRow (w.heap.size + 1) 9 1 wv L.length (L.map .string) ∧ RowKit.Below W1.heap.size W1 W2) := ⟨HW1.out.2 ▸ hown, hb2⟩; clear hb2 hown))
  obtain ⟨wa, wc, hv⟩ := own_form HW2.out.1
  subst hv
  have HLow : Hid (w.heap.size < W2.heap.size) := by have h1 := HW1.out.2; have h2 := HW2.out.2.size; show w.heap.size < W2.heap.size; omega
  have HB2 : Hid (BkAt W2 w.heap.size false 0 0 tx0) := HB1.out.below HW2.out.2
  have HWant : Hid (∀ wr, Off (fun k => k = w.heap.size ∨ W2.heap.size ≤ k) W2 wr → ∀ j (h : j < L.length), ∃ g, wa = some ⟨g, 0, none⟩ ∧ wr.cell? ⟨g, j, none⟩ = some (.string L[j])) := fun wr ho j hj => own_read (own_off HW2.out.1 (fun g hg e => by have := HW2.out.1.lt g hg; omega) ho) j hj
  have HEnd : Hid (∀ wr, Off (fun k => k = w.heap.size ∨ W2.heap.size ≤ k) W2 wr → RowKit.Below w.heap.size w wr) := fun wr ho => HW1.out.1.trans ((HW2.out.2.mono (by have := HW1.out.1.size; omega)).trans ⟨ho.os, ho.tape, ho.output, ho.size, fun k hk => ho.block k (Nat.lt_trans hk HLow.out) (by have := HLow.out; omega)⟩)
  have HTabs : Hid (∀ wr, Off (fun k => k = w.heap.size ∨ W2.heap.size ≤ k) W2 wr → Tab wr) := fun wr ho => HTab.out.below (HEnd.out wr ho) HTab.out.2
  go_loopw [5] (fun iv wr => (iv = .int .i64 0 ∧ Hid (BkAt wr w.heap.size false 0 0 tx0 ∧ Off (fun k => k = w.heap.size ∨ W2.heap.size ≤ k) W2 wr)) ∨ (iv = .int .i64 1 ∧ Hid (∃ w0 lv t gv tv dv l1 l2, First w0 w.heap.size W2.heap.size lv wr t gv tv dv l1 l2 ∧ Off (fun k => k = w.heap.size ∨ W2.heap.size ≤ k) W2 wr)) ∨ (iv = .int .i64 2 ∧ Hid (Calls Tryd.prog 7 #[.pointer (some ⟨w.heap.size, 0, none⟩)] wr (fun e w' => e = .returned (.bool true) ∧ RowKit.Below wr.heap.size wr w') ∧ Off (fun k => k = w.heap.size ∨ W2.heap.size ≤ k) W2 wr))) (fun iv _ => 2 - (RowKit.intOf iv).toNat)
  case atStart => exact .inl ⟨rfl, HB2.out, Off.refl _ _⟩
  case round =>
    clear HB1 HB2 HR hW1
    rcases hrel with ⟨rfl, hA⟩ | ⟨rfl, hA⟩ | ⟨rfl, hA⟩
    · have HLr : Hid (Calls Tryd.prog 5 #[.string s] wr (LtOut L wr)) := HL.out wr
      go_wp2_with (go_at_call 5; refine calls_at HLr.out (by with_reducible rfl) (by with_reducible rfl) ?_; rintro e w3 ⟨lv, rfl, hown, hb3⟩; obtain ⟨la, lc, hv⟩ := own_form hown; subst hv; have HO3 : Hid (w3.ownsRow wr.heap.size 9 1 (.slice la L.length lc) L.length (L.map .string) ∧ RowKit.Below wr.heap.size wr w3) := ⟨hown, hb3⟩; clear hown hb3)
      go_loopw [7] (fun jv wx => ∃ (j : Nat), jv = .int .i64 (j : Int) ∧ j ≤ L.length ∧ Hid (RowKit.Below w3.heap.size w3 wx)) (fun jv _ => L.length - (RowKit.intOf jv).toNat)
      case atStart => exact ⟨0, rfl, Nat.zero_le _, Below.refl _ _⟩
      case round =>
        obtain ⟨j, rfl, hj, hbx⟩ := hrel
        rename World => wx
        have HX : Hid (wx.ownsRow wr.heap.size 9 1 (.slice la L.length lc) L.length (L.map .string) ∧ RowKit.Below wr.heap.size wr wx) := ⟨own_next HO3.out.1 hbx.out, HO3.out.2.trans (hbx.out.mono HO3.out.2.size)⟩
        have HXo : Hid (Off (fun k => k = w.heap.size ∨ W2.heap.size ≤ k) W2 wx) := hA.out.2.trans (Off.of_below HX.out.2)
        have hLn := HLn.out
        by_cases hjN : j < L.length
        · have hjI : (j : Int) < (L.length : Int) := by omega
          obtain ⟨g1, rfl, q1⟩ := own_read HX.out.1 j hjN
          obtain ⟨g2, rfl, q2⟩ := HWant.out wx HXo.out j hjN
          obtain ⟨S, hS⟩ : ∃ S, L[j] = S := ⟨_, rfl⟩
          rw [hS] at q1 q2
          clear hS
          have Hb1 : Hid (RowKit.Below w3.heap.size w3 wx.drew) := hbx.out.drew
          go_wp2_with fail
          go_region
          all_goals
            go_wp2_with fail
            go_roundw
            case rel => exact ⟨j + 1, by go_num, by omega, Hb1⟩
            case measure => simp [RowKit.intOf]; omega
        · have hjI : ¬ (j : Int) < (L.length : Int) := by omega
          have HT : Hid (Calls Tryd.prog 6 #[.pointer (some ⟨w.heap.size, 0, none⟩), .slice la L.length lc, .int .i64 0] wx fun e w' => e = .returned (.tuple #[]) ∧ ∃ t gv tv dv l1 l2, First wx w.heap.size W2.heap.size (.slice la L.length lc) w' t gv tv dv l1 l2) := texts_first w.heap.size W2.heap.size wx _ L (hA.out.1.below HX.out.2) HTab.out.2 HLow.out (Nat.le_trans hA.out.2.size HX.out.2.size) (HTabs.out wx HXo.out) (own_base HX.out.1 hA.out.2.size) (by omega)
          go_wp2_with (go_at_call 6; refine calls_at HT.out (by with_reducible rfl) (by with_reducible rfl) ?_; rintro e w5 ⟨rfl, hF⟩; have HF : Hid (∃ t gv tv dv l1 l2, First wx w.heap.size W2.heap.size (.slice la L.length lc) w5 t gv tv dv l1 l2) := hF; clear hF)
          go_roundw
          case rel =>
            obtain ⟨t, gv, tv, dv, l1, l2, hF⟩ := HF.out
            exact .inr (.inl ⟨rfl, wx, _, t, gv, tv, dv, l1, l2, hF, HXo.out.trans hF.rest⟩)
          case measure => simp [RowKit.intOf]
    · have HLr : Hid (Calls Tryd.prog 5 #[.string s] wr (LtOut L wr)) := HL.out wr
      go_wp2_with (go_at_call 5; refine calls_at HLr.out (by with_reducible rfl) (by with_reducible rfl) ?_; rintro e w3 ⟨lv, rfl, hown, hb3⟩; obtain ⟨la, lc, hv⟩ := own_form hown; subst hv; have HO3 : Hid (w3.ownsRow wr.heap.size 9 1 (.slice la L.length lc) L.length (L.map .string) ∧ RowKit.Below wr.heap.size wr w3) := ⟨hown, hb3⟩; clear hown hb3)
      go_loopw [7] (fun jv wx => ∃ (j : Nat), jv = .int .i64 (j : Int) ∧ j ≤ L.length ∧ Hid (RowKit.Below w3.heap.size w3 wx)) (fun jv _ => L.length - (RowKit.intOf jv).toNat)
      case atStart => exact ⟨0, rfl, Nat.zero_le _, Below.refl _ _⟩
      case round =>
        obtain ⟨j, rfl, hj, hbx⟩ := hrel
        rename World => wx
        have HX : Hid (wx.ownsRow wr.heap.size 9 1 (.slice la L.length lc) L.length (L.map .string) ∧ RowKit.Below wr.heap.size wr wx) := ⟨own_next HO3.out.1 hbx.out, HO3.out.2.trans (hbx.out.mono HO3.out.2.size)⟩
        have HXo : Hid (Off (fun k => k = w.heap.size ∨ W2.heap.size ≤ k) W2 wx) := (hA.out.choose_spec.choose_spec.choose_spec.choose_spec.choose_spec.choose_spec.choose_spec.choose_spec.2).trans (Off.of_below HX.out.2)
        have hLn := HLn.out
        by_cases hjN : j < L.length
        · have hjI : (j : Int) < (L.length : Int) := by omega
          obtain ⟨g1, rfl, q1⟩ := own_read HX.out.1 j hjN
          obtain ⟨g2, rfl, q2⟩ := HWant.out wx HXo.out j hjN
          obtain ⟨S, hS⟩ : ∃ S, L[j] = S := ⟨_, rfl⟩
          rw [hS] at q1 q2
          clear hS
          have Hb1 : Hid (RowKit.Below w3.heap.size w3 wx.drew) := hbx.out.drew
          go_wp2_with fail
          go_region
          all_goals
            go_wp2_with fail
            go_roundw
            case rel => exact ⟨j + 1, by go_num, by omega, Hb1⟩
            case measure => simp [RowKit.intOf]; omega
        · have hjI : ¬ (j : Int) < (L.length : Int) := by omega
          obtain ⟨w0, lv, t, gv, tv, dv, l1, l2, hF, hoff⟩ := hA.out
          have HT : Hid (Calls Tryd.prog 6 #[.pointer (some ⟨w.heap.size, 0, none⟩), .slice la L.length lc, .int .i64 50] wx fun e w' => e = .returned (.tuple #[]) ∧ ∃ t' cv, Second wx w.heap.size t (.slice la L.length lc) L w' t' cv) := texts_second w.heap.size W2.heap.size t wx _ L (hF.book.below HX.out.2) hF.nils hF.nils' HLow.out (Nat.le_trans hoff.size HX.out.2.size) (own_base HX.out.1 hoff.size) (by omega)
          have HFF : Hid (First w0 w.heap.size W2.heap.size lv wr t gv tv dv l1 l2 ∧ Off (fun k => k = w.heap.size ∨ W2.heap.size ≤ k) W2 wr) := ⟨hF, hoff⟩
          clear hF hoff
          go_wp2_with (go_at_call 6; refine calls_at HT.out (by with_reducible rfl) (by with_reducible rfl) ?_; rintro e w5 ⟨rfl, hS⟩; have HS : Hid (∃ t' cv, Second wx w.heap.size t (.slice la L.length lc) L w5 t' cv) := hS; clear hS)
          go_roundw
          case rel =>
            obtain ⟨t', cv, hS⟩ := HS.out
            exact .inr (.inr ⟨rfl, hold_end HFF.out.1 HX.out.2 (own_base HX.out.1 HFF.out.2.size) HLow.out hS, HXo.out.trans (off_P hS.rest)⟩)
          case measure => simp [RowKit.intOf]
    · have HH : Hid (Calls Tryd.prog 7 #[.pointer (some ⟨w.heap.size, 0, none⟩)] wr (fun e w' => e = .returned (.bool true) ∧ RowKit.Below wr.heap.size wr w')) := hA.out.1
      go_wp2_with (go_at_call 7; refine calls_at HH.out (by with_reducible rfl) (by with_reducible rfl) ?_; rintro e w5 ⟨rfl, hb5⟩; have HB5 : Hid (RowKit.Below wr.heap.size wr w5) := hb5; clear hb5)
      go_ret
      exact ⟨rfl, (HEnd.out wr hA.out.2).trans (HB5.out.mono (HEnd.out wr hA.out.2).size)⟩
end Go.Proofs.YtpmiplhbppmboaaDoor
