/-
  The document's Lines.
-/
import Derived.Test.YtgckmkdmlaocmaaGreatDoorJ44
import Derived.Laws.AppendOwn
import Derived.RangeFuncRecord
namespace Go.Proofs.YtgckmkdmlaocmaaGreatDoor
open Go Go.RowKit

theorem textSlice : Tryz.prog.underlying 39 = some (.slice 9) := by kernel_rfl
theorem textInfo : ∃ i, Tryz.prog.info? 9 = some i ∧ i.zero = some (.string ⟨#[]⟩) ∧ i.size = 1 ∧ i.bytes = 16 := by
  have h : (Tryz.prog.info? 9).map (fun i => (i.zero, i.size, i.bytes)) = some (some (.string ⟨#[]⟩), 1, 16) := by kernel_rfl
  obtain ⟨i, hi, he⟩ := Option.map_eq_some_iff.1 h
  simp only [Prod.mk.injEq] at he
  exact ⟨i, hi, he.1, he.2.1, he.2.2⟩

theorem append_text {ops : Array Oper} {rest : List Oper} {o : Oper} {a : Act} {Q : Exit → Act → World → Prop} (wr : World) (hgd : o.guard = none) (s x : Operand)
    (ho : o.op = .call { callee := .builtin .append, args := #[s, x], argTypes := #[39, 39] }) (base : Nat) (v : Value) (n : Nat) (xs : List Value) (hs : a.eval s = v) (hown : wr.ownsRow base 9 1 v n xs) (X : Nat) (str : ByteArray) (hx : a.eval x = .slice (some ⟨X, 0, none⟩) 1 1) (hc : wr.cell? ⟨X, 0, none⟩ = some (.string str))
    (hn : n ≤ 1000000) (hbase : base ≤ wr.heap.size) (h : ∀ v' w', w'.ownsRow base 9 1 v' (n + 1) (xs ++ [.string str]) → wr.grownBy w' v.ownBlock → wpList Tryz.prog ops Q rest (a.put o.dst v') w') : wpList Tryz.prog ops Q (o :: rest) a wr := by
  obtain ⟨i, hi, hz, h1, h2⟩ := textInfo
  refine wpList_append_own wr hgd s x 39 ho base 9 i _ 1 16 textSlice hi hz h1 h2 rfl (by decide) v n xs hs hown ⟨X, 0, none⟩ 1 1 [.string str] hx rfl ?_ (by simp [Value.oneCell']) (by unfold maxLen; omega) (by omega) hbase (fun v' w' g1 g2 _ => h v' w' g1 g2)
  intro j u hj
  rcases j with _ | j
  · simp at hj
    subst hj
    simpa [Addr.add] using hc
  · simp at hj

theorem new_obj (w : World) (o : Obj) {W : World} (hW : w.alloc o = W) : W.heap[w.heap.size]? = some o ∧ RowKit.Below w.heap.size w W := by
  subst hW
  exact ⟨World.alloc_heap_new w _, (Below.refl _ _).alloc (Nat.le_refl _) _⟩
theorem drop_at (s : ByteArray) {i : Nat} (h : i < s.size) : s.data.toList.drop i = s[i] :: s.data.toList.drop (i + 1) := by
  rw [← List.getElem_cons_drop (show i < s.data.toList.length by simpa using h)]
  rfl
/-- One text more. -/
theorem more_text {w V w' : World} {v v' : Value} {done : List (List UInt8)} {str : ByteArray} {l : List UInt8} (hr : RowKit.Below w.heap.size w V) (hown : V.ownsRow w.heap.size 9 1 v done.length (done.map fun l => .string (txtOf l))) (hl : str = txtOf l)
    (h : w'.ownsRow w.heap.size 9 1 v' (done.length + 1) ((done.map fun l => .string (txtOf l)) ++ [.string str])) (hg : V.grownBy w' v.ownBlock) : w'.ownsRow w.heap.size 9 1 v' (done ++ [l]).length ((done ++ [l]).map fun l => .string (txtOf l)) ∧ RowKit.Below w.heap.size w w' := by
  subst hl
  rw [List.length_append, List.map_append]
  exact ⟨h, hr.grown hg hr.size (fun g e => (hown.lt g e).1)⟩

set_option maxRecDepth 100000 in
set_option maxHeartbeats 2000000 in
theorem refLines_any (s : ByteArray) (w : World) (hs : s.size ≤ 400000) : Calls Tryz.prog 6 #[.string s] w (LnOut s w) := by
  obtain ⟨N, hN⟩ : ∃ N, s.size = N := ⟨_, rfl⟩
  have H0 : Hid (w.ownsRow w.heap.size 9 1 (.slice none 0 0) 0 [] ∧ RowKit.Below w.heap.size w w) := ⟨⟨rfl, .inl ⟨rfl, rfl⟩⟩, Below.refl _ _⟩
  go_enter Tryz.func6, Tryz.ntmps6
  go_wp2_with fail
  go_loopw [3, 4, 5] (fun ov fv iv wr => ∃ (done : List (List UInt8)) (f i : Nat), fv = .int .i64 (f : Int) ∧ iv = .int .i64 (i : Int) ∧ f ≤ i ∧ i ≤ N ∧ done.length ≤ i ∧ Hid (lns s.data.toList [] = done ++ lns (s.data.toList.drop i) ((s.data.toList.drop f).take (i - f))) ∧ Hid (wr.ownsRow w.heap.size 9 1 ov done.length (done.map fun l => .string (txtOf l)) ∧ RowKit.Below w.heap.size w wr)) (fun _ _ iv _ => N - (intOf iv).toNat)
  case atStart => exact ⟨[], 0, 0, rfl, rfl, Nat.le_refl _, Nat.zero_le _, Nat.le_refl _, by simp [Hid], H0⟩
  case round =>
    obtain ⟨done, f, i, rfl, rfl, hfi, hiN, hdl, hsp, hF⟩ := hrel
    clear H0
    by_cases hi : i < N
    · have hiI : (i : Int) < (s.size : Int) := by omega
      have hiS : i < s.size := by omega
      have hdrop : s.data.toList.drop i = s[i] :: s.data.toList.drop (i + 1) := drop_at s hiS
      by_cases hc : s[i] = 10
      · have hq : s[i].toNat = 10 := by rw [hc]; rfl
        have hfI : (f : Int) ≤ (i : Int) := by omega
        have hiI' : (i : Int) ≤ (s.size : Int) := by omega
        have hw1 : wrap64 ((i : Int) + 1) = ((i + 1 : Nat) : Int) := by unfold wrap64; omega
        obtain ⟨V, hV⟩ : ∃ V, wr.alloc (.cells #[.string (s.extract f i)] 9) = V := ⟨_, rfl⟩
        obtain ⟨hO, hbV⟩ := new_obj wr _ hV
        have hOV : V.cell? ⟨wr.heap.size, 0, none⟩ = some (.string (s.extract f i)) := by simp [World.cell?, hO]
        have HV : Hid (wr.alloc (.cells #[.string (s.extract f i)] 9) = V) := hV
        have hown := own_below hF.out.1 hbV
        have hbw : RowKit.Below w.heap.size w V := hF.out.2.trans (hbV.mono hF.out.2.size)
        have hn : done.length ≤ 1000000 := by omega
        have Hsp : Hid (lns s.data.toList [] = (done ++ [(s.data.toList.drop f).take (i - f)]) ++ lns (s.data.toList.drop (i + 1)) ((s.data.toList.drop (i + 1)).take (i + 1 - (i + 1)))) := by
          have h1 := hsp.out
          rw [hdrop] at h1
          show _ = _
          rw [h1]
          simp [lns, hc]
        have Hex : Hid (s.extract f i = txtOf ((s.data.toList.drop f).take (i - f))) := ext_is s f i
        have HO : Hid (V.cell? ⟨wr.heap.size, 0, none⟩ = some (.string (s.extract f i))) := hOV
        have HW : Hid (V.ownsRow w.heap.size 9 1 _ done.length (done.map fun l => .string (txtOf l)) ∧ RowKit.Below w.heap.size w V) := ⟨hown, hbw⟩
        clear hO hbV hOV hV hown hbw hdrop hc
        go_wp2_with (first | (at_builtin; rw [HV.out]; refine append_text V rfl (.tmp 16) (.tmp 21) rfl w.heap.size _ done.length _ (by rfl) HW.out.1 wr.heap.size _ (by rfl) HO.out hn HW.out.2.size ?_; intro v' w' h1 h2; have HN := more_text HW.out.2 HW.out.1 Hex.out h1 h2; have HN : Hid (w'.ownsRow w.heap.size 9 1 v' (done ++ [(s.data.toList.drop f).take (i - f)]).length ((done ++ [(s.data.toList.drop f).take (i - f)]).map fun l => .string (txtOf l)) ∧ RowKit.Below w.heap.size w w') := HN; clear h1 h2))
        go_roundw
        case rel => exact ⟨done ++ [(s.data.toList.drop f).take (i - f)], i + 1, i + 1, by go_num, by go_num, Nat.le_refl _, by omega, by rw [List.length_append]; simp; omega, Hsp, HN⟩
        case measure => simp [intOf]; omega
      · have hq : ¬ s[i].toNat = 10 := fun h => hc (UInt8.toNat_inj.1 h)
        have hqI : ¬ ((s[i].toNat : Nat) : Int) = 10 := by omega
        have Hsp : Hid (lns s.data.toList [] = done ++ lns (s.data.toList.drop (i + 1)) ((s.data.toList.drop f).take (i + 1 - f))) := by
          have h1 := hsp.out
          rw [hdrop] at h1
          show _ = _
          rw [h1]
          simp only [lns, if_neg hc]
          rw [show i + 1 - f = (i - f) + 1 by omega, List.take_add_one]
          have : (s.data.toList.drop f)[i - f]? = some s[i] := by
            rw [List.getElem?_drop, show f + (i - f) = i by omega]
            simp [hiS]
            rfl
          rw [this]
          rfl
        clear hdrop
        go_wp2_with fail
        go_roundw
        case rel => exact ⟨done, f, i + 1, rfl, by go_num, by omega, by omega, by omega, Hsp, hF⟩
        case measure => simp [intOf]; omega
    · obtain rfl : i = N := by omega
      have hiI : ¬ (i : Int) < (s.size : Int) := by omega
      have hdr : s.data.toList.drop i = [] := List.drop_eq_nil_of_le (by simp; omega)
      have h1 := hsp.out
      rw [hdr] at h1
      by_cases hf : f < i
      · have hne : (s.data.toList.drop f).take (i - f) ≠ [] := fun e => by
          have := congrArg List.length e
          simp at this
          omega
        have Hsp : Hid (lns s.data.toList [] = done ++ [(s.data.toList.drop f).take (i - f)]) := by
          show _ = _
          rw [h1]
          simp [lns, hne]
        have hfI : (f : Int) < (s.size : Int) := by omega
        have hfJ : (f : Int) ≤ (s.size : Int) := by omega
        have hfK : (f : Int) < (i : Int) := by omega
        obtain ⟨V, hV⟩ : ∃ V, wr.alloc (.cells #[.string (s.extract f i)] 9) = V := ⟨_, rfl⟩
        obtain ⟨hO, hbV⟩ := new_obj wr _ hV
        have HV : Hid (wr.alloc (.cells #[.string (s.extract f i)] 9) = V) := hV
        have hn : done.length ≤ 1000000 := by omega
        have Hex : Hid (s.extract f i = txtOf ((s.data.toList.drop f).take (i - f))) := ext_is s f i
        have HO : Hid (V.cell? ⟨wr.heap.size, 0, none⟩ = some (.string (s.extract f i))) := by show _ = _; simp [World.cell?, hO]
        have HW : Hid (V.ownsRow w.heap.size 9 1 _ done.length (done.map fun l => .string (txtOf l)) ∧ RowKit.Below w.heap.size w V) := ⟨own_below hF.out.1 hbV, hF.out.2.trans (hbV.mono hF.out.2.size)⟩
        clear hO hbV hV hdr h1 hne
        go_wp2_with (first | (at_builtin; rw [HV.out]; refine append_text V rfl (.tmp 29) (.tmp 33) rfl w.heap.size _ done.length _ (by rfl) HW.out.1 wr.heap.size _ (by rfl) HO.out hn HW.out.2.size ?_; intro v' w' h1 h2; have HN := more_text HW.out.2 HW.out.1 Hex.out h1 h2; have HN : Hid (w'.ownsRow w.heap.size 9 1 v' (done ++ [(s.data.toList.drop f).take (i - f)]).length ((done ++ [(s.data.toList.drop f).take (i - f)]).map fun l => .string (txtOf l)) ∧ RowKit.Below w.heap.size w w') := HN; clear h1 h2))
        go_ret
        exact ⟨_, rfl, by rw [Hsp.out]; exact HN.out.1, HN.out.2⟩
      · obtain rfl : f = i := by omega
        have Hsp : Hid (lns s.data.toList [] = done) := by
          show _ = _
          rw [h1]
          simp [lns]
        have hfI : ¬ (f : Int) < (s.size : Int) := by omega
        clear hdr h1
        go_wp2_with fail
        go_ret
        exact ⟨_, rfl, by rw [Hsp.out]; exact hF.out.1, hF.out.2⟩
end Go.Proofs.YtgckmkdmlaocmaaGreatDoor
