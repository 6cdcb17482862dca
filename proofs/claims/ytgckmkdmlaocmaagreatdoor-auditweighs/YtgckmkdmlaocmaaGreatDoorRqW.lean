/-
  The document's Words.
-/
import Derived.Test.YtgckmkdmlaocmaaGreatDoorPfRow
import Derived.Lib.Strings
namespace Go.Proofs.YtgckmkdmlaocmaaGreatDoor
open Go.RowKit

def wrds : List UInt8 → List UInt8 → List (List UInt8)
  | [], cur => if cur = [] then [] else [cur]
  | c :: t, cur => if blk c = true then (if cur = [] then wrds t [] else cur :: wrds t []) else wrds t (cur ++ [c])
theorem wund : Tryz.prog.underlying 39 = some (.slice 9) := by kernel_rfl
theorem winfo : (Tryz.prog.info? 9).map (fun i => (i.zero, i.size, i.bytes)) = some (some (.string ⟨#[]⟩), 1, 16) := by kernel_rfl
theorem wdrop_at (s : ByteArray) {i : Nat} (h : i < s.size) : s.data.toList.drop i = s[i] :: s.data.toList.drop (i + 1) := by
  rw [← List.getElem_cons_drop (show i < s.data.toList.length by simpa using h)]
  rfl
/-- One text more. -/
theorem wmore {w V w' : World} {v v' : Value} {done : List (List UInt8)} {u : Value} {l : List UInt8} (hr : Below w.heap.size w V) (hown : V.ownsRow w.heap.size 9 1 v done.length (done.map fun l => .string (txtOf l))) (hl : u = .string (txtOf l))
    (h : w'.ownsRow w.heap.size 9 1 v' (done.length + 1) ((done.map fun l => .string (txtOf l)) ++ [u])) (hg : (V.alloc (.cells #[u] 9)).grownBy w' v.ownBlock) : w'.ownsRow w.heap.size 9 1 v' (done ++ [l]).length ((done ++ [l]).map fun l => .string (txtOf l)) ∧ Below w.heap.size w w' := by
  subst hl
  rw [List.length_append, List.map_append]
  exact ⟨h, (hr.alloc hr.size _).grown hg (Nat.le_trans hr.size (by simp)) (fun g e => (hown.lt g e).1)⟩
def WdO (x : List UInt8) (w : World) (e : Ending) (w' : World) : Prop := ∃ v, e = .returned v ∧ w'.ownsRow w.heap.size 9 1 v (wrds x []).length ((wrds x []).map fun l => .string (txtOf l)) ∧ Below w.heap.size w w'
def wcur (x : List UInt8) (f i : Nat) : List UInt8 := (x.drop f).take (i - f)
def wlft (x : List UInt8) (N f i : Nat) : List (List UInt8) := if i ≤ N then wrds (x.drop i) (wcur x f i) else []
theorem wcur_ne (x : List UInt8) {f i : Nat} (h : f < i) (hi : i ≤ x.length) : wcur x f i ≠ [] := fun e => by
  have := congrArg List.length e
  simp [wcur] at this
  omega
theorem wcur_same (x : List UInt8) (f : Nat) : wcur x f f = [] := by simp [wcur]
theorem wlft_sep {x : List UInt8} {N f i : Nat} (hi : i < N) (c : UInt8) (hd : x.drop i = c :: x.drop (i + 1)) (hc : blk c = true) : wlft x N f i = (if wcur x f i = [] then [] else [wcur x f i]) ++ wlft x N (i + 1) (i + 1) := by
  have h1 : i ≤ N := by omega
  have h2 : i + 1 ≤ N := by omega
  simp only [wlft, if_pos h1, if_pos h2, hd, wcur_same, wrds, if_pos hc]
  split <;> simp
theorem wlft_end {x : List UInt8} {N f : Nat} (hN : x.length = N) : wlft x N f N = (if wcur x f N = [] then [] else [wcur x f N]) ++ wlft x N (N + 1) (N + 1) := by
  have h2 : ¬ N + 1 ≤ N := by omega
  simp only [wlft, if_pos (Nat.le_refl _), if_neg h2, List.append_nil]
  rw [List.drop_eq_nil_of_le (by omega)]
  rfl
theorem wlft_in {x : List UInt8} {N f i : Nat} (hi : i < N) (hf : f ≤ i) (c : UInt8) (hd : x.drop i = c :: x.drop (i + 1)) (hc : blk c = false) : wlft x N f i = wlft x N f (i + 1) := by
  have h1 : i ≤ N := by omega
  have h2 : i + 1 ≤ N := by omega
  simp only [wlft, if_pos h1, if_pos h2]
  rw [hd]
  simp only [wrds, hc]
  have : wcur x f i ++ [c] = wcur x f (i + 1) := by
    unfold wcur
    rw [show i + 1 - f = (i - f) + 1 by omega, List.take_add_one]
    have h : (x.drop f)[i - f]? = some c := by
      rw [List.getElem?_drop, show f + (i - f) = i by omega]
      have := congrArg List.head? hd
      rwa [List.head?_drop] at this
    rw [h]
    rfl
  rw [← this]
  rfl

set_option maxRecDepth 100000 in
set_option maxHeartbeats 2000000 in
theorem rwords_any (x : List UInt8) (w : World) (hs : x.length ≤ 9000000) : Calls Tryz.prog 12 #[.string (txtOf x)] w (WdO x w) := by
  obtain ⟨s, hx⟩ : ∃ s, txtOf x = s := ⟨_, rfl⟩
  have hl : s.data.toList = x := by rw [← hx]; exact txt_list x
  obtain ⟨N, hN⟩ : ∃ N, s.size = N := ⟨_, rfl⟩
  have hxN : x.length = N := by rw [← hN, ← hx, txt_size]
  rw [hx]
  have H0 : Hid (w.ownsRow w.heap.size 9 1 (.slice none 0 0) 0 [] ∧ Below w.heap.size w w) := ⟨⟨rfl, .inl ⟨rfl, rfl⟩⟩, Below.refl _ _⟩
  have HN9 : N ≤ 9000000 := by omega
  have HX : Hid (s.data.toList = x) := hl
  have HXN : Hid (x.length = N) := hxN
  have HEX : Hid (∀ f i, s.extract f i = txtOf (wcur x f i)) := fun f i => by rw [ext_is, hl]; rfl
  clear hx hl hxN hs
  go_enter Tryz.func12, Tryz.ntmps12
  go_wp2_with fail
  go_loopw [3, 4, 5] (fun ov fv iv wr => ∃ (done : List (List UInt8)) (f i : Nat), fv = .int .i64 (f : Int) ∧ iv = .int .i64 (i : Int) ∧ f ≤ i ∧ i ≤ N + 1 ∧ done.length ≤ i ∧ Hid (wrds x [] = done ++ wlft x N f i) ∧ Hid (wr.ownsRow w.heap.size 9 1 ov done.length (done.map fun l => .string (txtOf l)) ∧ Below w.heap.size w wr)) (fun _ _ iv _ => N + 1 - (intOf iv).toNat)
  case atStart => exact ⟨[], 0, 0, rfl, rfl, Nat.le_refl _, Nat.zero_le _, Nat.le_refl _, by simp [Hid, wlft, wcur], H0⟩
  case round =>
    obtain ⟨done, f, i, rfl, rfl, hfi, hiN, hdl, hsp, hF⟩ := hrel
    clear H0
    have hw1 : wrap64 ((i : Int) + 1) = ((i + 1 : Nat) : Int) := by unfold wrap64; omega
    by_cases hi : i < N
    · have hiI : (i : Int) ≤ (s.size : Int) := by omega
      have hiJ : ((i : Int) == (s.size : Int)) = false := by rw [hN]; simpa using fun e : (i : Int) = (N : Int) => by omega
      have hiS : i < s.size := by omega
      have hdrop : x.drop i = s[i] :: x.drop (i + 1) := by rw [← HX.out]; exact wdrop_at s hiS
      by_cases hb : blk s[i] = true
      · have Hsp := wlft_sep (f := f) hi _ hdrop hb
        by_cases h32 : s[i] = 32
        · have hq : s[i].toNat = 32 := by rw [h32]; rfl
          by_cases hf : f < i
          · have hne := wcur_ne x hf (by have := HXN.out; omega)
            rw [if_neg hne] at Hsp
            have HSP : Hid (wrds x [] = (done ++ [wcur x f i]) ++ wlft x N (i + 1) (i + 1)) := by
              show _ = _
              rw [hsp.out, Hsp, List.append_assoc]
            have hfI : (f : Int) < (i : Int) := by omega
            have hfJ : (f : Int) ≤ (i : Int) := by omega
            have hiK : (i : Int) ≤ (s.size : Int) := by omega
            obtain ⟨E, hE⟩ : ∃ E, s.extract f i = E := ⟨_, rfl⟩
            have HE : Hid (Value.string E = .string (txtOf (wcur x f i))) := by show _ = _; rw [← hE, HEX.out]
            have hn : done.length ≤ 9000001 := by omega
            clear Hsp hne hdrop hb
            go_wp2_with (first | (at_builtin; refine append_oneR (P := Tryz.prog) wr (.string E) rfl (.tmp 31) (.tmp 36) 39 9 (.string ⟨#[]⟩) 16 rfl wund winfo rfl w.heap.size _ done.length _ (by rfl) hF.out.1 rfl wr.heap.size rfl (by rfl) (by unfold maxLen; omega) (by omega) hF.out.2.size ?_; intro v' w' h1 h2 _; have HN2 : Hid (w'.ownsRow w.heap.size 9 1 v' (done ++ [wcur x f i]).length ((done ++ [wcur x f i]).map fun l => .string (txtOf l)) ∧ Below w.heap.size w w') := (wmore hF.out.2 hF.out.1 HE.out h1 h2); clear h1 h2))
            go_roundw
            case rel => exact ⟨done ++ [wcur x f i], i + 1, i + 1, by go_num, by go_num, Nat.le_refl _, by omega, by rw [List.length_append]; simp; omega, HSP, HN2⟩
            case measure => simp [intOf]; omega
          · have hfi2 : f = i := by omega
            subst hfi2
            rw [wcur_same, if_pos rfl, List.nil_append] at Hsp
            have HSP : Hid (wrds x [] = done ++ wlft x N (f + 1) (f + 1)) := by
              show _ = _
              rw [hsp.out, Hsp]
            have hfI : ¬ (f : Int) < (f : Int) := by omega
            clear Hsp hdrop hb
            go_wp2_with fail
            go_roundw
            case rel => exact ⟨done, f + 1, f + 1, by go_num, by go_num, Nat.le_refl _, by omega, by omega, HSP, hF⟩
            case measure => simp [intOf]; omega
        · have h9 : s[i] = 9 := by
            unfold blk at hb
            simp only [Bool.or_eq_true, beq_iff_eq] at hb
            exact hb.resolve_left h32
          have hq9 : s[i].toNat = 9 := by rw [h9]; rfl
          by_cases hf : f < i
          · have hne := wcur_ne x hf (by have := HXN.out; omega)
            rw [if_neg hne] at Hsp
            have HSP : Hid (wrds x [] = (done ++ [wcur x f i]) ++ wlft x N (i + 1) (i + 1)) := by
              show _ = _
              rw [hsp.out, Hsp, List.append_assoc]
            have hfI : (f : Int) < (i : Int) := by omega
            have hfJ : (f : Int) ≤ (i : Int) := by omega
            have hiK : (i : Int) ≤ (s.size : Int) := by omega
            obtain ⟨E, hE⟩ : ∃ E, s.extract f i = E := ⟨_, rfl⟩
            have HE : Hid (Value.string E = .string (txtOf (wcur x f i))) := by show _ = _; rw [← hE, HEX.out]
            have hn : done.length ≤ 9000001 := by omega
            clear Hsp hne hdrop hb
            go_wp2_with (first | (at_builtin; refine append_oneR (P := Tryz.prog) wr (.string E) rfl (.tmp 31) (.tmp 36) 39 9 (.string ⟨#[]⟩) 16 rfl wund winfo rfl w.heap.size _ done.length _ (by rfl) hF.out.1 rfl wr.heap.size rfl (by rfl) (by unfold maxLen; omega) (by omega) hF.out.2.size ?_; intro v' w' h1 h2 _; have HN2 : Hid (w'.ownsRow w.heap.size 9 1 v' (done ++ [wcur x f i]).length ((done ++ [wcur x f i]).map fun l => .string (txtOf l)) ∧ Below w.heap.size w w') := (wmore hF.out.2 hF.out.1 HE.out h1 h2); clear h1 h2))
            go_roundw
            case rel => exact ⟨done ++ [wcur x f i], i + 1, i + 1, by go_num, by go_num, Nat.le_refl _, by omega, by rw [List.length_append]; simp; omega, HSP, HN2⟩
            case measure => simp [intOf]; omega
          · have hfi2 : f = i := by omega
            subst hfi2
            rw [wcur_same, if_pos rfl, List.nil_append] at Hsp
            have HSP : Hid (wrds x [] = done ++ wlft x N (f + 1) (f + 1)) := by
              show _ = _
              rw [hsp.out, Hsp]
            have hfI : ¬ (f : Int) < (f : Int) := by omega
            clear Hsp hdrop hb
            go_wp2_with fail
            go_roundw
            case rel => exact ⟨done, f + 1, f + 1, by go_num, by go_num, Nat.le_refl _, by omega, by omega, HSP, hF⟩
            case measure => simp [intOf]; omega
      · have hb' : blk s[i] = false := by simpa using hb
        have Hsp : Hid (wrds x [] = done ++ wlft x N f (i + 1)) := by
          show _ = _
          rw [hsp.out, wlft_in hi hfi _ hdrop hb']
        have h32 : ¬ (s[i].toNat : Int) = 32 := fun e => by
          have : s[i] = 32 := UInt8.toNat_inj.1 (by have h2 : s[i].toNat = 32 := by exact_mod_cast e
                                                    rw [h2]; rfl)
          rw [this] at hb'; cases hb'
        have h9 : ¬ (s[i].toNat : Int) = 9 := fun e => by
          have : s[i] = 9 := UInt8.toNat_inj.1 (by have h2 : s[i].toNat = 9 := by exact_mod_cast e
                                                   rw [h2]; rfl)
          rw [this] at hb'; cases hb'
        have hq1 : ((s[i].toNat : Int) == 32) = false := by simpa using h32
        have hq2 : ((s[i].toNat : Int) == 9) = false := by simpa using h9
        clear hdrop hb hb' h32 h9
        go_wp2_with fail
        go_roundw
        case rel => exact ⟨done, f, i + 1, rfl, by go_num, by omega, by omega, by omega, Hsp, hF⟩
        case measure => simp [intOf]; omega
    · by_cases hi2 : i = N
      · subst hi2
        have hiI : (i : Int) ≤ (s.size : Int) := by omega
        have Hsp : wlft x i f i = (if wcur x f i = [] then [] else [wcur x f i]) ++ wlft x i (i + 1) (i + 1) := wlft_end HXN.out
        by_cases hf : f < i
        · have hne := wcur_ne x hf (by have := HXN.out; omega)
          rw [if_neg hne] at Hsp
          have HSP : Hid (wrds x [] = (done ++ [wcur x f i]) ++ wlft x i (i + 1) (i + 1)) := by
            show _ = _
            rw [hsp.out, Hsp, List.append_assoc]
          have hfI : (f : Int) < (i : Int) := by omega
          have hfJ : (f : Int) ≤ (i : Int) := by omega
          have hiK : (i : Int) ≤ (s.size : Int) := by omega
          obtain ⟨E, hE⟩ : ∃ E, s.extract f i = E := ⟨_, rfl⟩
          have HE : Hid (Value.string E = .string (txtOf (wcur x f i))) := by show _ = _; rw [← hE, HEX.out]
          have hn : done.length ≤ 9000001 := by omega
          clear Hsp hne
          go_wp2_with (first | (at_builtin; refine append_oneR (P := Tryz.prog) wr (.string E) rfl (.tmp 31) (.tmp 36) 39 9 (.string ⟨#[]⟩) 16 rfl wund winfo rfl w.heap.size _ done.length _ (by rfl) hF.out.1 rfl wr.heap.size rfl (by rfl) (by unfold maxLen; omega) (by omega) hF.out.2.size ?_; intro v' w' h1 h2 _; have HN2 : Hid (w'.ownsRow w.heap.size 9 1 v' (done ++ [wcur x f i]).length ((done ++ [wcur x f i]).map fun l => .string (txtOf l)) ∧ Below w.heap.size w w') := (wmore hF.out.2 hF.out.1 HE.out h1 h2); clear h1 h2))
          go_roundw
          case rel => exact ⟨done ++ [wcur x f i], i + 1, i + 1, by go_num, by go_num, Nat.le_refl _, by omega, by rw [List.length_append]; simp; omega, HSP, HN2⟩
          case measure => simp [intOf]
        · have hfi2 : f = i := by omega
          subst hfi2
          rw [wcur_same, if_pos rfl, List.nil_append] at Hsp
          have HSP : Hid (wrds x [] = done ++ wlft x f (f + 1) (f + 1)) := by
            show _ = _
            rw [hsp.out, Hsp]
          have hfI : ¬ (f : Int) < (f : Int) := by omega
          clear Hsp hi
          go_wp2_with fail
          go_roundw
          case rel => exact ⟨done, f + 1, f + 1, by go_num, by go_num, Nat.le_refl _, by omega, by omega, HSP, hF⟩
          case measure => simp [intOf]
      · have hiI : ¬ (i : Int) ≤ (s.size : Int) := by omega
        have Hsp : Hid (wrds x [] = done) := by
          show _ = _
          rw [hsp.out]
          unfold wlft
          rw [if_neg (by omega), List.append_nil]
        go_wp2_with fail
        go_ret
        exact ⟨_, rfl, by rw [Hsp.out]; exact hF.out.1, hF.out.2⟩
end Go.Proofs.YtgckmkdmlaocmaaGreatDoor
