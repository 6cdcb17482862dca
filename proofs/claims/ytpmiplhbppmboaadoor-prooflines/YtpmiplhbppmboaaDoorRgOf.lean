/-
  linesOf: the lines of a log without their ends.
-/
import Derived.Test.YtpmiplhbppmboaaDoorRgLines
namespace Go.Proofs.YtpmiplhbppmboaaDoor
open Go.RowKit Go.Shelf Go.Lib
attribute [local go_sem] Oper.semAt_some

theorem round_any {P : Program} {m m' l l' : Nat} {f : FuncId} {tmps : Array Value} {assign body : Code} {w : World} {R : Ending → World → Prop} (h : RoundIn Fence.wide m P l f tmps assign body w R) : RoundIn (Fence.wide.inRound l') m' P l f tmps assign body w R := ⟨trivial, fun c cs _ => h.2 c cs (room_wide _)⟩
theorem calls_any {P : Program} {m l' : Nat} {f : FuncId} {args : Array Value} {w : World} {R : Ending → World → Prop} (h : Calls P f args w R) : CallsIn (Fence.wide.inRound l') m P f args w R := CallsIn.inRound l' (callsIn_wide.2 h)

/-- A line without its end. -/
def tr (x : List UInt8) : List UInt8 := trimSuffix x [10]
theorem trim_line (x : List UInt8) (w : World) (hx : x.length ≤ 400000) : Calls Tryd.prog 29 #[.string (txtOf x), .string ⟨#[10]⟩] w fun e w' => e = .returned (.string (txtOf (tr x))) ∧ w' = w := by
  refine (Tryd.strings_TrimSuffix (txtOf x) ⟨#[10]⟩ w (by rw [txt_size]; omega)).mono ?_
  rintro e w' ⟨rfl, rfl⟩
  rw [txt_list]
  exact ⟨rfl, rfl⟩

set_option maxHeartbeats 1000000 in
theorem lines_in (n : Nat) (s : ByteArray) (w : World) : CallsIn Fence.wide n Tryd.prog 28 #[.string s] w fun e w' => e = .returned (.func (.func 48) #[] #[.pointer (some ⟨w.heap.size, 0, none⟩)]) ∧ w' = w.alloc (.cells #[.string s] 9) := by
  refine callsIn_of_wp Tryd.func28 rfl trivial ?_ rfl
  simp only [Tryd.ntmps28, List.size_toArray, List.length_cons, List.length_nil, Nat.reduceAdd, Nat.reduceSub, Array.replicate_succ, Array.replicate_zero, List.push_toArray, List.append_toArray, List.nil_append, List.cons_append]
  gi_wp2
  go_ret
  exact ⟨rfl, rfl⟩
set_option maxHeartbeats 1000000 in
theorem linesOf_in (n : Nat) (s : ByteArray) (w : World) : CallsIn Fence.wide n Tryd.prog 8 #[.string s] w fun e w' => e = .returned (.func (.func 27) #[] #[.pointer (some ⟨w.heap.size, 0, none⟩)]) ∧ w' = w.alloc (.cells #[.string s] 9) := by
  refine callsIn_of_wp Tryd.func8 rfl trivial ?_ rfl
  simp only [Tryd.ntmps8, List.size_toArray, List.length_cons, List.length_nil, Nat.reduceAdd, Nat.reduceSub, Array.replicate_succ, Array.replicate_zero, List.push_toArray, List.append_toArray, List.nil_append, List.cons_append]
  gi_wp2
  go_ret
  exact ⟨rfl, rfl⟩

set_option maxRecDepth 100000 in
set_option maxHeartbeats 2000000 in
theorem linesOf1_in (n : Nat) (hn : 3 ≤ n) (Bl : Nat) (s : List UInt8) (hs : s.length ≤ 400000) (w : World) (hB : TBox w Bl s) :
    SeqW Fence.wide n Tryd.prog 27 #[.pointer (some ⟨Bl, 0, none⟩)] lineEnc (fun k => w.heap.size ≤ k ∧ k < w.heap.size + 4) (w.heap.size + 4) (lns s []) w := by
  intro l J hJ hY h0
  have h1 : 1 ≤ n := by omega
  have hBl : Bl < w.heap.size := (Array.getElem?_eq_some_iff.1 hB).1
  obtain ⟨N, hN⟩ : ∃ N, N = w.heap.size := ⟨_, rfl⟩
  obtain ⟨W1, hW1⟩ : ∃ W1, w.alloc (.cells #[.func (.yield l) #[] #[]] 45) = W1 := ⟨_, rfl⟩
  have hb1 : Below w.heap.size w W1 := hW1 ▸ (Below.refl _ _).alloc (Nat.le_refl _) _
  have hs1 : W1.heap.size = w.heap.size + 1 := by rw [← hW1]; simp
  have hc1 : W1.cell? ⟨Bl, 0, none⟩ = some (.string (txtOf s)) := TBox.cell ((hb1.block _ hBl).trans hB)
  have hX := lines_in (n - 1) (txtOf s) W1
  refine callsIn_of_wp_marks Tryd.func27 rfl trivial ?_ rfl
  simp only [Tryd.ntmps27, List.size_toArray, List.length_cons, List.length_nil, Nat.reduceAdd, Nat.reduceSub, Array.replicate_succ, Array.replicate_zero, List.push_toArray, List.append_toArray, List.nil_append, List.cons_append]
  gi_wp2_with (refine ⟨trivial, ?_⟩; gi_at_call 28; refine hX.mono ?_; rintro e w' ⟨rfl, rfl⟩)
  obtain ⟨W2, hW2⟩ : ∃ W2, W1.alloc (.cells #[.string (txtOf s)] 9) = W2 := ⟨_, rfl⟩
  rw [hW2]
  have hb2 : Below W1.heap.size W1 W2 := hW2 ▸ (Below.refl _ _).alloc (Nat.le_refl _) _
  have hs2 : W2.heap.size = w.heap.size + 2 := by rw [← hW2]; simp [hs1]
  have hT2 : TBox W2 (w.heap.size + 1) s := by
    rw [← hs1, ← hW2]
    exact World.alloc_heap_new W1 _
  have hy2 : W2.heap[w.heap.size]? = some (.cells #[.func (.yield l) #[] #[]] 45) := (hb2.block _ (by omega)).trans (hW1 ▸ World.alloc_heap_new w _)
  have ho2 : Off (fun k => w.heap.size ≤ k ∧ k < w.heap.size + 4) w W2 := (Off.of_below hb1).trans (Off.of_below hb2)
  have hr : (raws s []).map tr = lns s [] := raws_trim s [] (by simp)
  clear hc1 hX hW1 hW2 hb1 hb2 hB
  refine range_all (α := List UInt8) rfl h1 (gf := 48) (lb := #[.pointer (some ⟨w.heap.size + 1, 0, none⟩)]) rfl trivial (enters_of Tryd.func48 (by kernel_rfl) rfl) (encs := lineEnc) (T := fun k => k = w.heap.size + 1) (M := 0) (xs := raws s []) (fun k hk => by omega)
    (fun W hb hsz => lines1_in (n - 1) (by omega) _ s hs W ((hb.block _ (by omega)).trans hT2) (fun t w => callsIn_wide.2 (by
      refine (Tryd.strings_IndexByte (txtOf t) 10 w).mono ?_
      rintro e w' ⟨rfl, rfl⟩
      rw [txt_list]
      exact ⟨rfl, rfl⟩))) (fun _ => rfl)
    (fun pre W => J (pre.map tr) W ∧ W.heap[w.heap.size]? = some (.cells #[.func (.yield l) #[] #[]] 45))
    (fun pre A B hs ho => ⟨hJ _ _ _ hs.1 (ho.less (fun k hk => by omega)), (ho.block _ (Array.getElem?_eq_some_iff.1 hs.2).1 (by omega)).trans hs.2⟩)
    ⟨hJ _ _ _ h0 ho2, hy2⟩
    (fun x => { tmps := #[.func (.yield l) #[] #[], .pointer (some ⟨Bl, 0, none⟩), .pointer (some ⟨w.heap.size, 0, none⟩), .string (txtOf x), .string (txtOf s), .func (.func 48) #[] #[.pointer (some ⟨w.heap.size + 1, 0, none⟩)], .string (txtOf x), undef, undef, undef, undef, undef], defers := [] }) ?assign ?body ?done
  case assign =>
    intro l' x W K hK
    simp only [lineEnc]
    gi_wp2
    exact hK
  case body =>
    rintro l' pre x post W hx ⟨hj, hbx⟩ _ hsz
    have hxl : x.length ≤ 400000 := by
      have := raws_len s [] x (by rw [hx]; simp)
      simp at this
      omega
    have hq : lns s [] = pre.map tr ++ tr x :: post.map tr := by rw [← hr, hx]; simp
    have hW3 : w.heap.size + 4 ≤ W.drew.heap.size := by show w.heap.size + 4 ≤ W.heap.size; omega
    obtain ⟨fn, tmps, assign, body, hy, hR⟩ := hY (pre.map tr) (tr x) (post.map tr) W.drew hq (hJ _ _ _ hj (Off.of_below (Below.refl _ _).drew)) hW3
    simp only [lineEnc] at hy
    have hc : W.drew.cell? ⟨w.heap.size, 0, none⟩ = some (.func (.yield l) #[] #[]) := by show W.cell? _ = _; simp [World.cell?, hbx]
    have hX29 := trim_line x W.drew hxl
    have hm : Tryd.prog.follows .mixedOrders = true := by kernel_rfl
    have hn1 : 1 ≤ n - 1 - 1 := by omega
    gi_wp2
    gi_region_with_o (first | (refine ⟨trivial, ?_⟩; gi_at_call 29; refine (calls_any hX29).mono ?_; rintro e w' ⟨rfl, hww⟩; rw [hww]; clear hww) | (refine (round_any hR).mono ?_; rintro e W6 ⟨rfl, hj6, hs6, hk6⟩; have HK : Hid (∀ k, w.heap.size ≤ k ∧ k < w.heap.size + 4 → W6.heap[k]? = W.heap[k]?) := hk6; clear hk6))
    all_goals
      gi_wp2
      exact ⟨⟨hj6, (HK.out _ (by omega)).trans hbx⟩, hs6, HK.out _ (by omega), HK.out _ (by omega), HK.out _ (by omega)⟩
  case done =>
    rintro W ⟨hj, _⟩ hK
    gi_wp2
    refine ⟨by simp, .inl ⟨_, _, rfl, run_takeDeferred hK, ?_⟩⟩
    exact ⟨_, results_none rfl _ _ _, ⟨_, rfl⟩, hr ▸ hJ _ _ _ hj (off_putObj W _ _ (by omega))⟩
end Go.Proofs.YtpmiplhbppmboaaDoor
