/-
  Put together: BiInts, BiKeep, BiGrow.
-/
import Derived.Test.YtchpapppkmnfnaaGreatDoorJ43
import Derived.Test.YtchpapppkmnfnaaGreatDoorMdRegU
import Derived.Test.YtchpapppkmnfnaaGreatDoorDmMark
namespace Go.Proofs.YtchpapppkmnfnaaGreatDoor
open Go.RowKit

structure Bg (B : Nat) (S : Nat → Prop) (w0 w : World) (P : Nat) (turn deep : Int) (t : Tx) (L : List Rw) : Prop where
  sg : Sg w P turn deep t L
  fr : Fr B S w0 w P L
  hS : ∀ k, S k → B ≤ k
  hB : B ≤ w0.heap.size
section
variable {B P : Nat} {S : Nat → Prop} {w0 w w' : World} {turn deep turn' deep' : Int} {t t' : Tx} {L : List Rw}
theorem Bg.lo (h : Bg B S w0 w P turn deep t L) : ∀ k, BS P L k → B ≤ k := h.fr.lo h.hS h.hB
theorem Bg.size (h : Bg B S w0 w P turn deep t L) : w0.heap.size ≤ w.heap.size := h.fr.st.off.size
theorem Bg.below (h : Bg B S w0 w P turn deep t L) (hb : Below w.heap.size w w') : Bg B S w0 w' P turn deep t L := ⟨h.sg.below hb, h.fr.below hb (Nat.le_trans h.hB h.size), h.hS, h.hB⟩
theorem Bg.put (h : Bg B S w0 w P turn deep t L) (i : Nat) (v : Value) (e : (bookCs false turn deep t).setIfInBounds i v = bookCs false turn' deep' t') : Bg B S w0 (w.setCell ⟨P, i, none⟩ v) P turn' deep' t' L := ⟨h.sg.put i v e, h.fr.put (h.lo P (.inl rfl)) i v, h.hS, h.hB⟩
theorem Bg.app {A C : List Rw} {v v' u : Value} {ty : TypeId} {xs : List Value} (h : Bg B S w0 w P turn deep t (A ++ (v, ty, xs) :: C)) (ho : w'.ownsRow 0 ty 1 v' (xs.length + 1) (xs ++ [u])) (hg : (w.alloc (.cells #[u] ty)).grownBy w' v.ownBlock) (hn : v'.ownBlock = v.ownBlock ∨ v'.ownBlock = some (w.heap.size + 1)) : Bg B S w0 w' P turn deep t (A ++ (v', ty, xs ++ [u]) :: C) := ⟨h.sg.app ho hg hn, h.fr.app h.sg h.lo ho hg hn, h.hS, h.hB⟩
theorem Bg.add {x : Rw} (h : Bg B S w0 w P turn deep t L) (hr : w.ownsRow 0 x.2.1 1 x.1 x.2.2.length x.2.2) (hb : ∀ g, x.1.ownBlock = some g → ∀ y ∈ L, y.1.ownBlock ≠ some g) (ht : x.2.1 = 42 ∨ x.2.1 = 3) (hn : ∀ g, x.1.ownBlock = some g → w0.heap.size ≤ g) : Bg B S w0 w P turn deep t (x :: L) :=
  ⟨h.sg.add hr hb ht, ⟨h.fr.st, fun k hk => by
    rcases hk with e | ⟨y, hy, e⟩
    · exact h.fr.gr k (.inl e)
    · rcases List.mem_cons.1 hy with a | a
      · subst a
        exact .inr ⟨hn k e, (hr.lt k e).2⟩
      · exact h.fr.gr k (.inr ⟨y, a, e⟩)⟩, h.hS, h.hB⟩
theorem Bg.cell (h : Bg B S w0 w P turn deep t L) (i : Nat) (v : Value) (e : (bookCs false turn deep t)[i]? = some v) : w.cell? ⟨P, i, none⟩ = some v := h.sg.box.cell i v e
theorem Bg.free (h : Bg B S w0 w P turn deep t L) (i : Nat) : w.frozen? ⟨P, i, none⟩ = false := h.sg.box.free i
theorem Bg.row (h : Bg B S w0 w P turn deep t L) {x : Rw} (hx : x ∈ L) : w.ownsRow 0 x.2.1 1 x.1 x.2.2.length x.2.2 := h.sg.its.row x hx
end
theorem its_less {w : World} {B C : Nat} {e : TypeId} {size : Nat} {v : Value} {n : Nat} {xs : List Value} (h : w.ownsRow B e size v n xs) (hb : C ≤ B) : w.ownsRow C e size v n xs := by
  refine ⟨h.1, ?_⟩
  rcases h.2 with h1 | ⟨g, cap, cur, hv, hg, h2⟩
  · exact .inl h1
  · exact .inr ⟨g, cap, cur, hv, Nat.le_trans hb hg, h2⟩
theorem iv_src {w : World} {v : Value} {c : List Int} (h : Iv w v c) : SrcAt w v c.length 1 (ic c) := by
  obtain ⟨a, cap, rfl, hl⟩ := h
  refine ⟨a, cap, rfl, by simp [ic], fun u hu => ?_, fun e => ?_, fun ad e j u hj => ?_⟩
  · obtain ⟨z, _, rfl⟩ := List.mem_map.1 hu
    rfl
  · rcases Nat.eq_zero_or_pos c.length with h0 | h0
    · exact h0
    · obtain ⟨g, e2, _⟩ := hl 0 h0
      rw [e] at e2
      cases e2
  · have hjl : j < c.length := by simpa [ic] using (List.getElem?_eq_some_iff.1 hj).1
    obtain ⟨g, e2, _, hc⟩ := hl j hjl
    rw [e] at e2
    injection e2 with e2
    subst e2
    rw [addr_none, Nat.zero_add, hc]
    simpa [ic, hjl] using hj

set_option maxRecDepth 10000 in
set_option maxHeartbeats 4000000 in
theorem ints_any {B P seen : Nat} {turn : Nat} {v vO vT vW vN vM vD : Value} {c : List Int} {mark : Int} {O T : Rw} {xW xN xM xD : List Value} {X : List Rw} {R : World → Prop} (w : World) (h : Sg w P turn 0 ⟨vO, vT, vW, vN, .slice none 0 0, vM, vD, .slice none 0 0, .int .i64 seen⟩ ((v, 3, ic c) :: O :: T :: (vW, 42, xW) :: (vN, 42, xN) :: (vM, 3, xM) :: (vD, 3, xD) :: X)) (hB : ∀ k, BS P ((v, 3, ic c) :: O :: T :: (vW, 42, xW) :: (vN, 42, xN) :: (vM, 3, xM) :: (vD, 3, xD) :: X) k → B ≤ k) (hl : c.length ≤ 100000 ∧ xW.length ≤ 100000 ∧ xN.length ≤ 100000 ∧ xM.length ≤ 100000 ∧ xD.length ≤ 100000 ∧ turn ≤ 100000 ∧ seen ≤ 100000)
    (hQ : ∀ (w' : World) (vW' vN' vM' vD' u : Value) (d : Int), (turn : Int) ≤ d → d ≤ turn + 8 → Bg B (BS P ((v, 3, ic c) :: O :: T :: (vW, 42, xW) :: (vN, 42, xN) :: (vM, 3, xM) :: (vD, 3, xD) :: X)) w w' P turn 1 ⟨vO, vT, vW', vN', .slice none 0 0, vM', vD', .slice none 0 0, .int .i64 ((seen : Int) + 1)⟩ ((u, 3, ic c) :: (v, 3, ic c) :: O :: T :: (vW', 42, xW ++ [v]) :: (vN', 42, xN ++ [u]) :: (vM', 3, xM ++ [.int .i64 mark]) :: (vD', 3, xD ++ [.int .i64 d]) :: X) → Calls Tryz.prog 43 #[.pointer (some ⟨P, 0, none⟩)] w' fun e w2 => e = .returned (.tuple #[]) ∧ R w2) :
    Calls Tryz.prog 14 #[.pointer (some ⟨P, 0, none⟩), v, .int .i64 mark] w fun e w' => e = .returned (.tuple #[]) ∧ R w' := by
  have hBw : B ≤ w.heap.size := Nat.le_of_lt (Nat.lt_of_le_of_lt (hB P (.inl rfl)) h.lt)
  obtain ⟨L0, hL0⟩ : ∃ L0, BS P ((v, 3, ic c) :: O :: T :: (vW, 42, xW) :: (vN, 42, xN) :: (vM, 3, xM) :: (vD, 3, xD) :: X) = L0 := ⟨_, rfl⟩
  have b0 : Bg B L0 w w P turn 0 ⟨vO, vT, vW, vN, .slice none 0 0, vM, vD, .slice none 0 0, .int .i64 seen⟩ ((v, 3, ic c) :: O :: T :: (vW, 42, xW) :: (vN, 42, xN) :: (vM, 3, xM) :: (vD, 3, xD) :: X) := ⟨h, by rw [← hL0]; exact Fr.refl _ _ _ _, by rw [← hL0]; exact hB, hBw⟩
  rw [hL0] at hQ
  have HQ : Hid (∀ (w' : World) (vW' vN' vM' vD' u : Value) (d : Int), (turn : Int) ≤ d → d ≤ turn + 8 → Bg B L0 w w' P turn 1 ⟨vO, vT, vW', vN', .slice none 0 0, vM', vD', .slice none 0 0, .int .i64 ((seen : Int) + 1)⟩ ((u, 3, ic c) :: (v, 3, ic c) :: O :: T :: (vW', 42, xW ++ [v]) :: (vN', 42, xN ++ [u]) :: (vM', 3, xM ++ [.int .i64 mark]) :: (vD', 3, xD ++ [.int .i64 d]) :: X) → Calls Tryz.prog 43 #[.pointer (some ⟨P, 0, none⟩)] w' fun e w2 => e = .returned (.tuple #[]) ∧ R w2) := hQ
  have rv : w.ownsRow 0 3 1 v c.length (ic c) := by have := h.its.row (v, 3, ic c) (by simp); simpa [ic] using this
  have rW : w.ownsRow 0 42 1 vW xW.length xW := h.its.row (vW, 42, xW) (by simp)
  have rN : w.ownsRow 0 42 1 vN xN.length xN := h.its.row (vN, 42, xN) (by simp)
  have rM : w.ownsRow 0 3 1 vM xM.length xM := h.its.row (vM, 3, xM) (by simp)
  have rD : w.ownsRow 0 3 1 vD xD.length xD := h.its.row (vD, 3, xD) (by simp)
  obtain ⟨va, vc, rfl⟩ := own_slice rv
  obtain ⟨Wa, Wc, rfl⟩ := own_slice rW
  obtain ⟨Na, Nc, rfl⟩ := own_slice rN
  obtain ⟨Ma, Mc, rfl⟩ := own_slice rM
  obtain ⟨Da, Dc, rfl⟩ := own_slice rD
  obtain ⟨l1, l2, l3, l4, l5, l6, l7⟩ := hl
  have k3 := b0.cell 3 (.int .i64 0) rfl
  have f3 := b0.free 3
  obtain ⟨W1, hW1⟩ : ∃ W, w.setCell ⟨P, 3, none⟩ (.int .i64 1) = W := ⟨_, rfl⟩
  have b1 : Bg B L0 w W1 P turn 1 ⟨vO, vT, .slice Wa xW.length Wc, .slice Na xN.length Nc, .slice none 0 0, .slice Ma xM.length Mc, .slice Da xD.length Dc, .slice none 0 0, .int .i64 seen⟩ ((.slice va c.length vc, 3, ic c) :: O :: T :: (.slice Wa xW.length Wc, 42, xW) :: (.slice Na xN.length Nc, 42, xN) :: (.slice Ma xM.length Mc, 3, xM) :: (.slice Da xD.length Dc, 3, xD) :: X) := by rw [← hW1]; exact b0.put 3 _ rfl
  have HB1 : Hid (Bg B L0 w W1 P turn 1 ⟨vO, vT, .slice Wa xW.length Wc, .slice Na xN.length Nc, .slice none 0 0, .slice Ma xM.length Mc, .slice Da xD.length Dc, .slice none 0 0, .int .i64 seen⟩ ((.slice va c.length vc, 3, ic c) :: O :: T :: (.slice Wa xW.length Wc, 42, xW) :: (.slice Na xN.length Nc, 42, xN) :: (.slice Ma xM.length Mc, 3, xM) :: (.slice Da xD.length Dc, 3, xD) :: X)) := b1
  have HWr : Hid (W1.ownsRow 0 42 1 (.slice Wa xW.length Wc) xW.length xW) := b1.row (x := (.slice Wa xW.length Wc, 42, xW)) (by simp)
  have k6 := b1.cell 6 (.slice Wa xW.length Wc) rfl
  have f6 := b1.free 6
  clear h hB hQ hL0 rv rW rN rM rD b0 b1
  go_enter Tryz.func14, Tryz.ntmps14
  go_wp2_with (first
    | (at_builtin; refine append_one W1 (.slice va c.length vc) rfl _ _ 41 42 (.slice none 0 0) 24 rfl bun41 binf42 rfl 0 _ _ _ (by rfl) HWr.out rfl _ rfl (by rfl) (by unfold maxLen; omega) (by omega) (Nat.zero_le _) ?_; intro v6 w6 ho6 hg6 hn6; obtain ⟨a6, c6, rfl⟩ := own_slice ho6; (have hB6 := Bg.app (A := [(.slice va c.length vc, 3, ic c), O, T]) (xs := xW) HB1.out ho6 hg6 hn6); (have q6 : w6.cell? ⟨P, 6, none⟩ = some (.slice Wa xW.length Wc) := hB6.cell 6 _ rfl); (have qz : ∀ i, w6.frozen? ⟨P, i, none⟩ = false := fun i => hB6.free i); obtain ⟨W2, hW2⟩ : ∃ W, w6.setCell ⟨P, 6, none⟩ (.slice a6 (xW.length + 1) c6) = W := ⟨_, rfl⟩; (have b2 := hB6.put (t' := ⟨vO, vT, .slice a6 (xW.length + 1) c6, .slice Na xN.length Nc, .slice none 0 0, .slice Ma xM.length Mc, .slice Da xD.length Dc, .slice none 0 0, .int .i64 seen⟩) 6 (.slice a6 (xW.length + 1) c6) rfl); rw [hW2] at b2; clear ho6 hg6 hn6 hB6))
  have HB2 : Hid (Bg B L0 w W2 P turn 1 ⟨vO, vT, .slice a6 (xW.length + 1) c6, .slice Na xN.length Nc, .slice none 0 0, .slice Ma xM.length Mc, .slice Da xD.length Dc, .slice none 0 0, .int .i64 seen⟩ ((.slice va c.length vc, 3, ic c) :: O :: T :: (.slice a6 (xW.length + 1) c6, 42, xW ++ [.slice va c.length vc]) :: (.slice Na xN.length Nc, 42, xN) :: (.slice Ma xM.length Mc, 3, xM) :: (.slice Da xD.length Dc, 3, xD) :: X)) := b2
  have HC0 : Hid (W2.drew.cell? ⟨P, 1, none⟩ = some (.bool false) ∧ W2.drew.cell? ⟨P, 7, none⟩ = some (.slice Na xN.length Nc)) := ⟨HB2.out.cell 1 (.bool false) rfl, HB2.out.cell 7 (.slice Na xN.length Nc) rfl⟩
  clear b2
  refine wp_region_T (fun w' => w'.cell? ⟨P, 1, none⟩ = some (.bool false)) (fun w' => w'.cell? ⟨P, 7, none⟩ = some (.slice Na xN.length Nc)) [12] (by kernel_rfl) HC0.out (fun hHeld => ?_)
  clear HC0
  have HBU : Hid (Bg B L0 w W2.drew P turn 1 ⟨vO, vT, .slice a6 (xW.length + 1) c6, .slice Na xN.length Nc, .slice none 0 0, .slice Ma xM.length Mc, .slice Da xD.length Dc, .slice none 0 0, .int .i64 seen⟩ ((.slice va c.length vc, 3, ic c) :: O :: T :: (.slice a6 (xW.length + 1) c6, 42, xW ++ [.slice va c.length vc]) :: (.slice Na xN.length Nc, 42, xN) :: (.slice Ma xM.length Mc, 3, xM) :: (.slice Da xD.length Dc, 3, xD) :: X)) := HB2.out.below (Below.refl _ _).drew
  generalize W2.drew = U at hHeld HBU ⊢
  refine wpAnyT_takeB (i := 0) (oi := ⟨some 23, .move (.tmp 0), _, _, _, _⟩) (v := ?vR2x0) rfl (by kernel_rfl) (by kernel_rfl) (by kernel_rfl) (by kernel_rfl) (fun _ _ _ h => h) (Or.inl ⟨by rfl, ?hyR2x0⟩) (by assumption) ?restR2x0
  case hyR2x0 => (intro w hSw; (try dsimp only at hSw); go_simp; try (with_reducible rfl))
  try simp only [Act.put, List.setIfInBounds_toArray, List.set_cons_zero, List.set_cons_succ]
  refine wpAnyT_takeB (i := 1) (oi := ⟨some 24, .move (.tmp 0), _, _, _, _⟩) (v := ?vR2x1) rfl (by kernel_rfl) (by kernel_rfl) (by kernel_rfl) (by kernel_rfl) (fun _ _ _ h => h) (Or.inl ⟨by rfl, ?hyR2x1⟩) (by assumption) ?restR2x1
  case hyR2x1 => (intro w hSw; (try dsimp only at hSw); go_simp; try (with_reducible rfl))
  try simp only [Act.put, List.setIfInBounds_toArray, List.set_cons_zero, List.set_cons_succ]
  refine wpAnyT_takeB (i := 2) (oi := ⟨some 25, .nilCheck (.tmp 24), _, _, _, _⟩) (v := ?vR2x2) rfl (by kernel_rfl) (by kernel_rfl) (by kernel_rfl) (by kernel_rfl) (fun _ _ _ h => h) (Or.inl ⟨by rfl, ?hyR2x2⟩) (by assumption) ?restR2x2
  case hyR2x2 => (intro w hSw; (try dsimp only at hSw); go_simp; try (with_reducible rfl))
  try simp only [Act.put, List.setIfInBounds_toArray, List.set_cons_zero, List.set_cons_succ]
  refine wpAnyT_takeB (i := 3) (oi := ⟨some 26, .fieldAddr 58 (.tmp 25) 7, _, _, _, _⟩) (v := ?vR2x3) rfl (by kernel_rfl) (by kernel_rfl) (by kernel_rfl) (by kernel_rfl) (fun _ _ _ h => h) (Or.inl ⟨by rfl, ?hyR2x3⟩) (by assumption) ?restR2x3
  case hyR2x3 => (intro w hSw; (try dsimp only at hSw); go_simp; try (with_reducible rfl))
  try simp only [Act.put, List.setIfInBounds_toArray, List.set_cons_zero, List.set_cons_succ]
  refine wpAnyT_take (i := 4) (oi := ⟨some 27, .load 41 (.tmp 26), _, _, _, _⟩) (v := ?vR2x4) rfl (by kernel_rfl) (by kernel_rfl) (by kernel_rfl) (by kernel_rfl) (by kernel_rfl) (fun _ _ _ h => h) (Or.inl ⟨by rfl, ?hyR2x4⟩) (by assumption) ?restR2x4
  case hyR2x4 => (intro w hSw; (try dsimp only at hSw); go_simp; try (with_reducible rfl))
  try simp only [Act.put, List.setIfInBounds_toArray, List.set_cons_zero, List.set_cons_succ]
  refine wpAnyT_takeB (i := 6) (oi := ⟨some 29, .move (.tmp 1), _, _, _, _⟩) (v := ?vR2x6) rfl (by kernel_rfl) (by kernel_rfl) (by kernel_rfl) (by kernel_rfl) (fun _ _ _ h => h) (Or.inl ⟨by rfl, ?hyR2x6⟩) (by assumption) ?restR2x6
  case hyR2x6 => (intro w hSw; (try dsimp only at hSw); go_simp; try (with_reducible rfl))
  try simp only [Act.put, List.setIfInBounds_toArray, List.set_cons_zero, List.set_cons_succ]
  refine wpAnyT_one (i := 5) (o := ⟨some 28, .buildSlice 42 0 #[], _, _, _, _⟩) (by kernel_rfl) rfl (fun K hK => ?_)
  go_simp
  obtain ⟨Y, hY⟩ : ∃ Y, U.alloc (.cells #[] 3) = Y := ⟨_, rfl⟩
  have HbY : Hid (Below U.heap.size U Y) := by show Below _ _ _; rw [← hY]; exact (Below.refl _ _).alloc (Nat.le_refl _) _
  have HoY : Hid (Y.ownsRow U.heap.size 3 1 (.slice (some ⟨U.heap.size, 0, none⟩) 0 0) 0 []) := ⟨rfl, .inr ⟨U.heap.size, 0, #[], rfl, Nat.le_refl _, by rw [← hY]; exact heap_alloc_new U _, Nat.le_refl _, Nat.zero_le _, rfl, rfl⟩⟩
  have HBY : Hid (Bg B L0 w Y P turn 1 ⟨vO, vT, .slice a6 (xW.length + 1) c6, .slice Na xN.length Nc, .slice none 0 0, .slice Ma xM.length Mc, .slice Da xD.length Dc, .slice none 0 0, .int .i64 seen⟩ ((.slice va c.length vc, 3, ic c) :: O :: T :: (.slice a6 (xW.length + 1) c6, 42, xW ++ [.slice va c.length vc]) :: (.slice Na xN.length Nc, 42, xN) :: (.slice Ma xM.length Mc, 3, xM) :: (.slice Da xD.length Dc, 3, xD) :: X)) := HBU.out.below HbY.out
  rw [hY]
  clear hY hHeld
  have hHeld : _ ∧ _ := ⟨HBY.out.cell 1 (.bool false) rfl, HBY.out.cell 7 (.slice Na xN.length Nc) rfl⟩
  refine hK.out _ _ ⟨hHeld.1, fun _ => hHeld.2⟩ ?_
  clear hK K
  try simp only [Act.put, List.setIfInBounds_toArray, List.set_cons_zero, List.set_cons_succ]
  refine wpAnyT_one (i := 7) (o := ⟨some 30, .call { callee := .builtin .append, args := #[(.tmp 28), (.tmp 29)], argTypes := #[42, 42] }, _, _, _, _⟩) (by kernel_rfl) rfl (fun K hK => ?_)
  have HSv : SrcAt Y (.slice va c.length vc) c.length 1 (ic c) := iv_src (iv_row (B := 0) (by have := HBY.out.row (x := (.slice va c.length vc, 3, ic c)) (by simp); simpa [ic] using this))
  refine op_append_src Y (.tmp 28) (.tmp 29) 42 3 (.int .i64 0) 1 8 rfl bun42 binf3 rfl (by decide) U.heap.size _ _ 0 c.length [] (ic c) (by rfl) (by rfl) HoY.out HSv (by unfold maxLen; omega) (by omega) HbY.out.size (by rfl) ?_
  intro u w5 o1 o2 o3
  rw [Nat.zero_add, List.nil_append] at o1
  obtain ⟨ua, uc, rfl⟩ := own_slice o1
  have hb5 : Below U.heap.size U w5 := HbY.out.grown o2 HbY.out.size (fun g hg => (HoY.out.lt g hg).1)
  have HB5 : Hid (Bg B L0 w w5 P turn 1 ⟨vO, vT, .slice a6 (xW.length + 1) c6, .slice Na xN.length Nc, .slice none 0 0, .slice Ma xM.length Mc, .slice Da xD.length Dc, .slice none 0 0, .int .i64 seen⟩ ((.slice ua c.length uc, 3, ic c) :: (.slice va c.length vc, 3, ic c) :: O :: T :: (.slice a6 (xW.length + 1) c6, 42, xW ++ [.slice va c.length vc]) :: (.slice Na xN.length Nc, 42, xN) :: (.slice Ma xM.length Mc, 3, xM) :: (.slice Da xD.length Dc, 3, xD) :: X)) := (HBU.out.below hb5).add (x := (.slice ua c.length uc, 3, ic c)) (by have := its_less o1 (Nat.zero_le _); simpa [ic] using this) (fun g hg y hy e => by have a1 := (o1.lt g hg).1; have a2 := HBU.out.sg.its.lt hy e; omega) (.inr rfl) (fun g hg => Nat.le_trans HBU.out.size (o1.lt g hg).1)
  clear HSv o1 o2 o3 hb5 hHeld
  have hHeld : _ ∧ _ := ⟨HB5.out.cell 1 (.bool false) rfl, HB5.out.cell 7 (.slice Na xN.length Nc) rfl⟩
  refine hK.out _ _ ⟨hHeld.1, fun _ => hHeld.2⟩ ?_
  clear hK K
  try simp only [Act.put, List.setIfInBounds_toArray, List.set_cons_zero, List.set_cons_succ]
  refine wpAnyT_one (i := 8) (o := ⟨some 31, .buildSlice 41 1 #[(0, (.tmp 30))], _, _, _, _⟩) (by kernel_rfl) rfl (fun K hK => ?_)
  go_simp
  obtain ⟨Z, hZ⟩ : ∃ Z, w5.alloc (.cells #[.slice ua c.length uc] 42) = Z := ⟨_, rfl⟩
  have HbZ : Hid (Below w5.heap.size w5 Z) := by show Below _ _ _; rw [← hZ]; exact (Below.refl _ _).alloc (Nat.le_refl _) _
  have HSz : Hid (SrcAt Z (.slice (some ⟨w5.heap.size, 0, none⟩) 1 1) 1 1 [.slice ua c.length uc]) := src_one (by rw [← hZ]; exact heap_alloc_new w5 _) rfl
  have HZ : Hid (w5.alloc (.cells #[.slice ua c.length uc] 42) = Z ∧ Z.heap.size = w5.heap.size + 1) := ⟨hZ, by rw [← hZ]; simp⟩
  rw [hZ]
  clear hZ hHeld
  have hHeld : _ ∧ _ := ⟨(HB5.out.below HbZ.out).cell 1 (.bool false) rfl, (HB5.out.below HbZ.out).cell 7 (.slice Na xN.length Nc) rfl⟩
  refine hK.out _ _ ⟨hHeld.1, fun _ => hHeld.2⟩ ?_
  clear hK K
  try simp only [Act.put, List.setIfInBounds_toArray, List.set_cons_zero, List.set_cons_succ]
  refine wpAnyT_one (i := 9) (o := ⟨some 32, .call { callee := .builtin .append, args := #[(.tmp 27), (.tmp 31)], argTypes := #[41, 41] }, _, _, _, _⟩) (by kernel_rfl) rfl (fun K hK => ?_)
  have hown : Z.ownsRow 0 42 1 (.slice Na xN.length Nc) xN.length xN := (HB5.out.below HbZ.out).row (x := (.slice Na xN.length Nc, 42, xN)) (by simp)
  refine op_append_src Z (.tmp 27) (.tmp 31) 41 42 (.slice none 0 0) 1 24 rfl bun41 binf42 rfl (by decide) 0 _ _ xN.length 1 xN _ (by rfl) (by rfl) hown HSz.out (by unfold maxLen; omega) (by omega) (Nat.zero_le _) (by rfl) ?_
  intro v7 w7 o1 o2 o3
  obtain ⟨a7, c7, rfl⟩ := own_slice o1
  have hB7 := Bg.app (A := [(.slice ua c.length uc, 3, ic c), (.slice va c.length vc, 3, ic c), O, T, (.slice a6 (xW.length + 1) c6, 42, xW ++ [.slice va c.length vc])]) (xs := xN) HB5.out o1 (by rw [HZ.out.1]; exact o2) (by rw [← HZ.out.2]; exact o3)
  have HB7 : Hid (Bg B L0 w w7 P turn 1 ⟨vO, vT, .slice a6 (xW.length + 1) c6, .slice Na xN.length Nc, .slice none 0 0, .slice Ma xM.length Mc, .slice Da xD.length Dc, .slice none 0 0, .int .i64 seen⟩ ((.slice ua c.length uc, 3, ic c) :: (.slice va c.length vc, 3, ic c) :: O :: T :: (.slice a6 (xW.length + 1) c6, 42, xW ++ [.slice va c.length vc]) :: (.slice a7 (xN.length + 1) c7, 42, xN ++ [.slice ua c.length uc]) :: (.slice Ma xM.length Mc, 3, xM) :: (.slice Da xD.length Dc, 3, xD) :: X)) := hB7
  clear o1 o2 o3 hown hHeld hB7
  have c1 := HB7.out.cell 1 (.bool false) rfl
  have c7' := HB7.out.cell 7 (.slice Na xN.length Nc) rfl
  have cz : ∀ i, w7.frozen? ⟨P, i, none⟩ = false := fun i => HB7.out.free i
  refine hK.out _ _ ⟨c1, fun _ => c7'⟩ ?_
  have hHeld := (⟨c1, c7'⟩ : _ ∧ _)
  clear hK K
  try simp only [Act.put, List.setIfInBounds_toArray, List.set_cons_zero, List.set_cons_succ]
  refine wpAnyT_takeB (i := 10) (oi := ⟨some 33, .nilCheck (.tmp 23), _, _, _, _⟩) (v := ?vR2x10) rfl (by kernel_rfl) (by kernel_rfl) (by kernel_rfl) (by kernel_rfl) (fun _ _ _ h => h) (Or.inl ⟨by rfl, ?hyR2x10⟩) (by assumption) ?restR2x10
  case hyR2x10 => (intro w hSw; (try dsimp only at hSw); go_simp; try (with_reducible rfl))
  try simp only [Act.put, List.setIfInBounds_toArray, List.set_cons_zero, List.set_cons_succ]
  refine wpAnyT_takeB (i := 11) (oi := ⟨some 34, .fieldAddr 58 (.tmp 33) 7, _, _, _, _⟩) (v := ?vR2x11) rfl (by kernel_rfl) (by kernel_rfl) (by kernel_rfl) (by kernel_rfl) (fun _ _ _ h => h) (Or.inl ⟨by rfl, ?hyR2x11⟩) (by assumption) ?restR2x11
  case hyR2x11 => (intro w hSw; (try dsimp only at hSw); go_simp; try (with_reducible rfl))
  try simp only [Act.put, List.setIfInBounds_toArray, List.set_cons_zero, List.set_cons_succ]
  refine wpAnyT_late (i := 12) (o := ⟨none, .store 41 (.tmp 34) (.tmp 32), _, _, _, _⟩) (by kernel_rfl) rfl (by kernel_rfl) (fun K hK => ?_)
  go_simp
  refine hK.out _ _ ?shR2x12 ?restR2x12
  case shR2x12 => ((try dsimp only); exact ((HB7.out.put (t' := ⟨vO, vT, .slice a6 (xW.length + 1) c6, .slice a7 (xN.length + 1) c7, .slice none 0 0, .slice Ma xM.length Mc, .slice Da xD.length Dc, .slice none 0 0, .int .i64 seen⟩) 7 (.slice a7 (xN.length + 1) c7) rfl).cell 1 (.bool false) rfl))
  clear hK K
  try simp only [Act.put, List.setIfInBounds_toArray, List.set_cons_zero, List.set_cons_succ]
  refine wpAnyT_done (by kernel_rfl) ?_ _
  obtain ⟨W3, hW3⟩ : ∃ W, w7.setCell ⟨P, 7, none⟩ (.slice a7 (xN.length + 1) c7) = W := ⟨_, rfl⟩
  have b3 := HB7.out.put (t' := ⟨vO, vT, .slice a6 (xW.length + 1) c6, .slice a7 (xN.length + 1) c7, .slice none 0 0, .slice Ma xM.length Mc, .slice Da xD.length Dc, .slice none 0 0, .int .i64 seen⟩) 7 (.slice a7 (xN.length + 1) c7) rfl
  rw [hW3] at b3
  try rw [hW3]
  have HB3 : Hid (Bg B L0 w W3 P turn 1 ⟨vO, vT, .slice a6 (xW.length + 1) c6, .slice a7 (xN.length + 1) c7, .slice none 0 0, .slice Ma xM.length Mc, .slice Da xD.length Dc, .slice none 0 0, .int .i64 seen⟩ ((.slice ua c.length uc, 3, ic c) :: (.slice va c.length vc, 3, ic c) :: O :: T :: (.slice a6 (xW.length + 1) c6, 42, xW ++ [.slice va c.length vc]) :: (.slice a7 (xN.length + 1) c7, 42, xN ++ [.slice ua c.length uc]) :: (.slice Ma xM.length Mc, 3, xM) :: (.slice Da xD.length Dc, 3, xD) :: X)) := b3
  have HMr : Hid (W3.ownsRow 0 3 1 (.slice Ma xM.length Mc) xM.length xM) := b3.row (x := (.slice Ma xM.length Mc, 3, xM)) (by simp)
  have k9 := b3.cell 9 (.slice Ma xM.length Mc) rfl
  have f9 := b3.free 9
  clear b3 hHeld c1 c7' cz hW3
  go_wp2_with (first
    | (at_builtin; refine append_one W3 (.int .i64 mark) rfl _ _ 42 3 (.int .i64 0) 8 rfl bun42 binf3 rfl 0 _ _ _ (by rfl) HMr.out rfl _ rfl (by rfl) (by unfold maxLen; omega) (by omega) (Nat.zero_le _) ?_; intro v9 w9 ho9 hg9 hn9; obtain ⟨a9, c9, rfl⟩ := own_slice ho9; (have hB9 := Bg.app (A := [(.slice ua c.length uc, 3, ic c), (.slice va c.length vc, 3, ic c), O, T, (.slice a6 (xW.length + 1) c6, 42, xW ++ [.slice va c.length vc]), (.slice a7 (xN.length + 1) c7, 42, xN ++ [.slice ua c.length uc])]) (xs := xM) HB3.out ho9 hg9 hn9); (have q9 : w9.cell? ⟨P, 9, none⟩ = some (.slice Ma xM.length Mc) := hB9.cell 9 _ rfl); (have qz : ∀ i, w9.frozen? ⟨P, i, none⟩ = false := fun i => hB9.free i); obtain ⟨W4, hW4⟩ : ∃ W, w9.setCell ⟨P, 9, none⟩ (.slice a9 (xM.length + 1) c9) = W := ⟨_, rfl⟩; (have b4 := hB9.put (t' := ⟨vO, vT, .slice a6 (xW.length + 1) c6, .slice a7 (xN.length + 1) c7, .slice none 0 0, .slice a9 (xM.length + 1) c9, .slice Da xD.length Dc, .slice none 0 0, .int .i64 seen⟩) 9 (.slice a9 (xM.length + 1) c9) rfl); rw [hW4] at b4; clear ho9 hg9 hn9 hB9))
  have HB4 : Hid (Bg B L0 w W4 P turn 1 ⟨vO, vT, .slice a6 (xW.length + 1) c6, .slice a7 (xN.length + 1) c7, .slice none 0 0, .slice a9 (xM.length + 1) c9, .slice Da xD.length Dc, .slice none 0 0, .int .i64 seen⟩ ((.slice ua c.length uc, 3, ic c) :: (.slice va c.length vc, 3, ic c) :: O :: T :: (.slice a6 (xW.length + 1) c6, 42, xW ++ [.slice va c.length vc]) :: (.slice a7 (xN.length + 1) c7, 42, xN ++ [.slice ua c.length uc]) :: (.slice a9 (xM.length + 1) c9, 3, xM ++ [.int .i64 mark]) :: (.slice Da xD.length Dc, 3, xD) :: X)) := b4
  have HC4 : Hid (W4.drew.cell? ⟨P, 12, none⟩ = some (.int .i64 seen) ∧ W4.drew.cell? ⟨P, 10, none⟩ = some (.slice Da xD.length Dc)) := ⟨HB4.out.cell 12 (.int .i64 seen) rfl, HB4.out.cell 10 (.slice Da xD.length Dc) rfl⟩
  have HDue : Hid (∀ w' : World, BkAt w' P false turn 1 ⟨vO, vT, .slice a6 (xW.length + 1) c6, .slice a7 (xN.length + 1) c7, .slice none 0 0, .slice a9 (xM.length + 1) c9, .slice Da xD.length Dc, .slice none 0 0, .int .i64 seen⟩ → Calls Tryz.prog 42 #[.pointer (some ⟨P, 0, none⟩), .int .i64 (seen : Int)] w' fun e w2 => (∃ d : Int, e = .returned (.int .i64 d) ∧ (turn : Int) ≤ d ∧ d ≤ turn + 8) ∧ w2 = w') := fun w' hq => due_any P turn 1 _ seen w' hq ⟨by omega, by omega⟩ (by omega)
  clear b4
  refine wp_region_T (fun w' => w'.cell? ⟨P, 12, none⟩ = some (.int .i64 seen)) (fun w' => w'.cell? ⟨P, 10, none⟩ = some (.slice Da xD.length Dc)) [15] (by kernel_rfl) HC4.out (fun hHeld => ?_)
  clear HC4
  have HBU : Hid (Bg B L0 w W4.drew P turn 1 ⟨vO, vT, .slice a6 (xW.length + 1) c6, .slice a7 (xN.length + 1) c7, .slice none 0 0, .slice a9 (xM.length + 1) c9, .slice Da xD.length Dc, .slice none 0 0, .int .i64 seen⟩ ((.slice ua c.length uc, 3, ic c) :: (.slice va c.length vc, 3, ic c) :: O :: T :: (.slice a6 (xW.length + 1) c6, 42, xW ++ [.slice va c.length vc]) :: (.slice a7 (xN.length + 1) c7, 42, xN ++ [.slice ua c.length uc]) :: (.slice a9 (xM.length + 1) c9, 3, xM ++ [.int .i64 mark]) :: (.slice Da xD.length Dc, 3, xD) :: X)) := HB4.out.below (Below.refl _ _).drew
  generalize W4.drew = U at hHeld HBU ⊢
  refine wpAnyT_takeB (i := 0) (oi := ⟨some 45, .move (.tmp 0), _, _, _, _⟩) (v := ?vR4x0) rfl (by kernel_rfl) (by kernel_rfl) (by kernel_rfl) (by kernel_rfl) (fun _ _ _ h => h) (Or.inl ⟨by rfl, ?hyR4x0⟩) (by assumption) ?restR4x0
  case hyR4x0 => (intro w hSw; (try dsimp only at hSw); go_simp; try (with_reducible rfl))
  try simp only [Act.put, List.setIfInBounds_toArray, List.set_cons_zero, List.set_cons_succ]
  refine wpAnyT_takeB (i := 1) (oi := ⟨some 46, .move (.tmp 0), _, _, _, _⟩) (v := ?vR4x1) rfl (by kernel_rfl) (by kernel_rfl) (by kernel_rfl) (by kernel_rfl) (fun _ _ _ h => h) (Or.inl ⟨by rfl, ?hyR4x1⟩) (by assumption) ?restR4x1
  case hyR4x1 => (intro w hSw; (try dsimp only at hSw); go_simp; try (with_reducible rfl))
  try simp only [Act.put, List.setIfInBounds_toArray, List.set_cons_zero, List.set_cons_succ]
  refine wpAnyT_takeB (i := 2) (oi := ⟨some 47, .nilCheck (.tmp 46), _, _, _, _⟩) (v := ?vR4x2) rfl (by kernel_rfl) (by kernel_rfl) (by kernel_rfl) (by kernel_rfl) (fun _ _ _ h => h) (Or.inl ⟨by rfl, ?hyR4x2⟩) (by assumption) ?restR4x2
  case hyR4x2 => (intro w hSw; (try dsimp only at hSw); go_simp; try (with_reducible rfl))
  try simp only [Act.put, List.setIfInBounds_toArray, List.set_cons_zero, List.set_cons_succ]
  refine wpAnyT_takeB (i := 3) (oi := ⟨some 48, .fieldAddr 58 (.tmp 47) 10, _, _, _, _⟩) (v := ?vR4x3) rfl (by kernel_rfl) (by kernel_rfl) (by kernel_rfl) (by kernel_rfl) (fun _ _ _ h => h) (Or.inl ⟨by rfl, ?hyR4x3⟩) (by assumption) ?restR4x3
  case hyR4x3 => (intro w hSw; (try dsimp only at hSw); go_simp; try (with_reducible rfl))
  try simp only [Act.put, List.setIfInBounds_toArray, List.set_cons_zero, List.set_cons_succ]
  refine wpAnyT_take (i := 4) (oi := ⟨some 49, .load 42 (.tmp 48), _, _, _, _⟩) (v := ?vR4x4) rfl (by kernel_rfl) (by kernel_rfl) (by kernel_rfl) (by kernel_rfl) (by kernel_rfl) (fun _ _ _ h => h) (Or.inl ⟨by rfl, ?hyR4x4⟩) (by assumption) ?restR4x4
  case hyR4x4 => (intro w hSw; (try dsimp only at hSw); go_simp; try (with_reducible rfl))
  try simp only [Act.put, List.setIfInBounds_toArray, List.set_cons_zero, List.set_cons_succ]
  refine wpAnyT_takeB (i := 5) (oi := ⟨some 50, .move (.tmp 0), _, _, _, _⟩) (v := ?vR4x5) rfl (by kernel_rfl) (by kernel_rfl) (by kernel_rfl) (by kernel_rfl) (fun _ _ _ h => h) (Or.inl ⟨by rfl, ?hyR4x5⟩) (by assumption) ?restR4x5
  case hyR4x5 => (intro w hSw; (try dsimp only at hSw); go_simp; try (with_reducible rfl))
  try simp only [Act.put, List.setIfInBounds_toArray, List.set_cons_zero, List.set_cons_succ]
  refine wpAnyT_takeB (i := 6) (oi := ⟨some 51, .move (.tmp 0), _, _, _, _⟩) (v := ?vR4x6) rfl (by kernel_rfl) (by kernel_rfl) (by kernel_rfl) (by kernel_rfl) (fun _ _ _ h => h) (Or.inl ⟨by rfl, ?hyR4x6⟩) (by assumption) ?restR4x6
  case hyR4x6 => (intro w hSw; (try dsimp only at hSw); go_simp; try (with_reducible rfl))
  try simp only [Act.put, List.setIfInBounds_toArray, List.set_cons_zero, List.set_cons_succ]
  refine wpAnyT_takeB (i := 7) (oi := ⟨some 52, .nilCheck (.tmp 51), _, _, _, _⟩) (v := ?vR4x7) rfl (by kernel_rfl) (by kernel_rfl) (by kernel_rfl) (by kernel_rfl) (fun _ _ _ h => h) (Or.inl ⟨by rfl, ?hyR4x7⟩) (by assumption) ?restR4x7
  case hyR4x7 => (intro w hSw; (try dsimp only at hSw); go_simp; try (with_reducible rfl))
  try simp only [Act.put, List.setIfInBounds_toArray, List.set_cons_zero, List.set_cons_succ]
  refine wpAnyT_takeB (i := 8) (oi := ⟨some 53, .fieldAddr 58 (.tmp 52) 12, _, _, _, _⟩) (v := ?vR4x8) rfl (by kernel_rfl) (by kernel_rfl) (by kernel_rfl) (by kernel_rfl) (fun _ _ _ h => h) (Or.inl ⟨by rfl, ?hyR4x8⟩) (by assumption) ?restR4x8
  case hyR4x8 => (intro w hSw; (try dsimp only at hSw); go_simp; try (with_reducible rfl))
  try simp only [Act.put, List.setIfInBounds_toArray, List.set_cons_zero, List.set_cons_succ]
  refine wpAnyT_takeB (i := 9) (oi := ⟨some 54, .load 3 (.tmp 53), _, _, _, _⟩) (v := ?vR4x9) rfl (by kernel_rfl) (by kernel_rfl) (by kernel_rfl) (by kernel_rfl) (fun _ _ _ h => h) (Or.inl ⟨by rfl, ?hyR4x9⟩) (by assumption) ?restR4x9
  case hyR4x9 => (intro w hSw; (try dsimp only at hSw); go_simp; try (with_reducible rfl))
  try simp only [Act.put, List.setIfInBounds_toArray, List.set_cons_zero, List.set_cons_succ]
  refine wpAnyT_one (i := 10) (o := ⟨some 55, .call { callee := .value (.func 42), args := #[(.tmp 50), (.tmp 54)], argTypes := #[40, 3] }, _, _, _, _⟩) (by kernel_rfl) rfl (fun K hK => ?_)
  go_simp
  refine calls_at (HDue.out U HBU.out.sg.box) (by with_reducible rfl) (by with_reducible rfl) ?_
  rintro e wq ⟨⟨d, rfl, hd1, hd2⟩, rfl⟩
  go_wp2_with fail
  refine hK.out _ _ ⟨hHeld.1, fun _ => hHeld.2⟩ ?_
  clear hK K
  try simp only [Act.put, List.setIfInBounds_toArray, List.set_cons_zero, List.set_cons_succ]
  refine wpAnyT_one (i := 11) (o := ⟨some 56, .buildSlice 42 1 #[(0, (.tmp 55))], _, _, _, _⟩) (by kernel_rfl) rfl (fun K hK => ?_)
  go_simp
  obtain ⟨Z, hZ⟩ : ∃ Z, wq.alloc (.cells #[.int .i64 d] 3) = Z := ⟨_, rfl⟩
  have HbZ : Hid (Below wq.heap.size wq Z) := by show Below _ _ _; rw [← hZ]; exact (Below.refl _ _).alloc (Nat.le_refl _) _
  have HSz : Hid (SrcAt Z (.slice (some ⟨wq.heap.size, 0, none⟩) 1 1) 1 1 [.int .i64 d]) := src_one (by rw [← hZ]; exact heap_alloc_new wq _) rfl
  have HZ : Hid (wq.alloc (.cells #[.int .i64 d] 3) = Z ∧ Z.heap.size = wq.heap.size + 1) := ⟨hZ, by rw [← hZ]; simp⟩
  rw [hZ]
  clear hZ hHeld
  have hHeld : _ ∧ _ := ⟨(HBU.out.below HbZ.out).cell 12 (.int .i64 seen) rfl, (HBU.out.below HbZ.out).cell 10 (.slice Da xD.length Dc) rfl⟩
  refine hK.out _ _ ⟨hHeld.1, fun _ => hHeld.2⟩ ?_
  clear hK K
  try simp only [Act.put, List.setIfInBounds_toArray, List.set_cons_zero, List.set_cons_succ]
  refine wpAnyT_one (i := 12) (o := ⟨some 57, .call { callee := .builtin .append, args := #[(.tmp 49), (.tmp 56)], argTypes := #[42, 42] }, _, _, _, _⟩) (by kernel_rfl) rfl (fun K hK => ?_)
  have hown : Z.ownsRow 0 3 1 (.slice Da xD.length Dc) xD.length xD := (HBU.out.below HbZ.out).row (x := (.slice Da xD.length Dc, 3, xD)) (by simp)
  refine op_append_src Z (.tmp 49) (.tmp 56) 42 3 (.int .i64 0) 1 8 rfl bun42 binf3 rfl (by decide) 0 _ _ xD.length 1 xD _ (by rfl) (by rfl) hown HSz.out (by unfold maxLen; omega) (by omega) (Nat.zero_le _) (by rfl) ?_
  intro v8 w8 o1 o2 o3
  obtain ⟨ad, cd, rfl⟩ := own_slice o1
  have hB8 := Bg.app (A := [(.slice ua c.length uc, 3, ic c), (.slice va c.length vc, 3, ic c), O, T, (.slice a6 (xW.length + 1) c6, 42, xW ++ [.slice va c.length vc]), (.slice a7 (xN.length + 1) c7, 42, xN ++ [.slice ua c.length uc]), (.slice a9 (xM.length + 1) c9, 3, xM ++ [.int .i64 mark])]) (xs := xD) HBU.out o1 (by rw [HZ.out.1]; exact o2) (by rw [← HZ.out.2]; exact o3)
  have HB8 : Hid (Bg B L0 w w8 P turn 1 ⟨vO, vT, .slice a6 (xW.length + 1) c6, .slice a7 (xN.length + 1) c7, .slice none 0 0, .slice a9 (xM.length + 1) c9, .slice Da xD.length Dc, .slice none 0 0, .int .i64 seen⟩ ((.slice ua c.length uc, 3, ic c) :: (.slice va c.length vc, 3, ic c) :: O :: T :: (.slice a6 (xW.length + 1) c6, 42, xW ++ [.slice va c.length vc]) :: (.slice a7 (xN.length + 1) c7, 42, xN ++ [.slice ua c.length uc]) :: (.slice a9 (xM.length + 1) c9, 3, xM ++ [.int .i64 mark]) :: (.slice ad (xD.length + 1) cd, 3, xD ++ [.int .i64 d]) :: X)) := hB8
  clear o1 o2 o3 hown hHeld hB8
  have c1 := HB8.out.cell 12 (.int .i64 seen) rfl
  have c10 := HB8.out.cell 10 (.slice Da xD.length Dc) rfl
  have cz : ∀ i, w8.frozen? ⟨P, i, none⟩ = false := fun i => HB8.out.free i
  refine hK.out _ _ ⟨c1, fun _ => c10⟩ ?_
  have hHeld := (⟨c1, c10⟩ : _ ∧ _)
  clear hK K
  try simp only [Act.put, List.setIfInBounds_toArray, List.set_cons_zero, List.set_cons_succ]
  refine wpAnyT_takeB (i := 13) (oi := ⟨some 58, .nilCheck (.tmp 45), _, _, _, _⟩) (v := ?vR4x13) rfl (by kernel_rfl) (by kernel_rfl) (by kernel_rfl) (by kernel_rfl) (fun _ _ _ h => h) (Or.inl ⟨by rfl, ?hyR4x13⟩) (by assumption) ?restR4x13
  case hyR4x13 => (intro w hSw; (try dsimp only at hSw); go_simp; try (with_reducible rfl))
  try simp only [Act.put, List.setIfInBounds_toArray, List.set_cons_zero, List.set_cons_succ]
  refine wpAnyT_takeB (i := 14) (oi := ⟨some 59, .fieldAddr 58 (.tmp 58) 10, _, _, _, _⟩) (v := ?vR4x14) rfl (by kernel_rfl) (by kernel_rfl) (by kernel_rfl) (by kernel_rfl) (fun _ _ _ h => h) (Or.inl ⟨by rfl, ?hyR4x14⟩) (by assumption) ?restR4x14
  case hyR4x14 => (intro w hSw; (try dsimp only at hSw); go_simp; try (with_reducible rfl))
  try simp only [Act.put, List.setIfInBounds_toArray, List.set_cons_zero, List.set_cons_succ]
  refine wpAnyT_late (i := 15) (o := ⟨none, .store 42 (.tmp 59) (.tmp 57), _, _, _, _⟩) (by kernel_rfl) rfl (by kernel_rfl) (fun K hK => ?_)
  go_simp
  refine hK.out _ _ ?shR4x15 ?restR4x15
  case shR4x15 => ((try dsimp only); exact ((HB8.out.put (t' := ⟨vO, vT, .slice a6 (xW.length + 1) c6, .slice a7 (xN.length + 1) c7, .slice none 0 0, .slice a9 (xM.length + 1) c9, .slice ad (xD.length + 1) cd, .slice none 0 0, .int .i64 seen⟩) 10 (.slice ad (xD.length + 1) cd) rfl).cell 12 (.int .i64 seen) rfl))
  clear hK K
  try simp only [Act.put, List.setIfInBounds_toArray, List.set_cons_zero, List.set_cons_succ]
  refine wpAnyT_done (by kernel_rfl) ?_ _
  obtain ⟨W5, hW5⟩ : ∃ W, w8.setCell ⟨P, 10, none⟩ (.slice ad (xD.length + 1) cd) = W := ⟨_, rfl⟩
  have b5 := HB8.out.put (t' := ⟨vO, vT, .slice a6 (xW.length + 1) c6, .slice a7 (xN.length + 1) c7, .slice none 0 0, .slice a9 (xM.length + 1) c9, .slice ad (xD.length + 1) cd, .slice none 0 0, .int .i64 seen⟩) 10 (.slice ad (xD.length + 1) cd) rfl
  rw [hW5] at b5
  try rw [hW5]
  have k12 := b5.cell 12 (.int .i64 seen) rfl
  have f12 := b5.free 12
  have es : IntKind.i64.wrap ((seen : Int) + 1) = (seen : Int) + 1 := wrap_id (by omega) (by omega)
  obtain ⟨W6, hW6⟩ : ∃ W, W5.setCell ⟨P, 12, none⟩ (.int .i64 ((seen : Int) + 1)) = W := ⟨_, rfl⟩
  have b6 := b5.put (t' := ⟨vO, vT, .slice a6 (xW.length + 1) c6, .slice a7 (xN.length + 1) c7, .slice none 0 0, .slice a9 (xM.length + 1) c9, .slice ad (xD.length + 1) cd, .slice none 0 0, .int .i64 ((seen : Int) + 1)⟩) 12 (.int .i64 ((seen : Int) + 1)) rfl
  rw [hW6] at b6
  have HQ6 : Hid (Calls Tryz.prog 43 #[.pointer (some ⟨P, 0, none⟩)] W6 fun e w2 => e = .returned (.tuple #[]) ∧ R w2) := HQ.out W6 _ _ _ _ _ d hd1 hd2 b6
  clear hHeld c1 c10 cz hW5 b5 b6
  go_wp2_with fail
  refine calls_at HQ6.out (by with_reducible rfl) (by with_reducible rfl) ?_
  rintro e wz ⟨rfl, hr⟩
  have HRz : Hid (R wz) := hr
  clear hr
  go_wp2_with fail
  go_end0
  exact ⟨rfl, HRz.out⟩
end Go.Proofs.YtchpapppkmnfnaaGreatDoor

namespace Go.Proofs.YtchpapppkmnfnaaGreatDoor
open Go Go.RowKit Go.Lib

/-- What an append has done. -/
def App (w w' : World) (v v' : Value) (n m : Nat) : Prop :=
  (∃ g cap, v = .slice (some ⟨g, 0, none⟩) n cap ∧ v' = .slice (some ⟨g, 0, none⟩) (n + m) cap) ∨ (w.grownBy w' none ∧ v'.ownBlock = some w.heap.size)

theorem run_append_k {P : Program} (w : World) (base : Nat) (t ty e : TypeId) (i : TypeInfo) (z : Value) (size bytes : Nat) (ht : P.underlying t = some (.slice e)) (hi : P.info? e = some i) (hz : i.zero = some z)
    (hsize : i.size = size) (hby : i.bytes = bytes) (hzs : z.cells.size = size) (hsz : 0 < size)
    (v : Value) (n : Nat) (xs : List Value) (hown : w.ownsRow base e size v n xs)
    (a : Addr) (m c : Nat) (news : List Value) (hl : news.length = m * size) (hnews : ∀ j u, news[j]? = some u → w.cell? (a.add j) = some u) (h1 : ∀ u ∈ news, u.oneCell' = true)
    (h63 : n + m ≤ maxLen) (hbytes : (n + m) * bytes ≤ 140737488355328) (hbase : base ≤ w.heap.size) (hm : 0 < m) :
    ∃ v' w', (Builtin.append_ #[t, t] ty #[v, .slice (some a) m c]).run P w = .ok v' w' ∧ w'.ownsRow base e size v' (n + m) (xs ++ news) ∧ w.grownBy w' v.ownBlock ∧ App w w' v v' n m := by
  obtain ⟨v', w', hr, ho, hg, hnil⟩ := run_append_own (P := P) w base t ty e i z size bytes ht hi hz hsize hby hzs hsz v n xs hown a m c news hl hnews h1 h63 hbytes hbase
  refine ⟨v', w', hr, ho, hg, ?_⟩
  subst hsize
  subst hby
  have hsmall : n + m ≤ 9223372036854775807 := by simp only [maxLen] at h63; omega
  obtain ⟨hxl, hcase⟩ := hown
  rcases hcase with ⟨rfl, rfl⟩ | ⟨g, cap, cur, rfl, hbg, hgg, hnc, hcm, hcs, htake⟩
  · have hr2 := run_append_nil (P := P) w t ty e i z ht hi hz a m c news hl hnews (by omega) (by omega) (by have hb := hbytes; simp only [Nat.zero_add] at hb; omega)
    rw [hr] at hr2
    injection hr2 with e1 e2
    exact .inr ⟨by rw [e2]; exact ⟨rfl, rfl, rfl, by simp, fun k hk _ => heap_alloc_old w.drew _ hk⟩, by rw [e1]; rfl⟩
  · by_cases hroom : n + m ≤ cap
    · have hfit : n * i.size + news.length ≤ cur.size := by rw [hl, hcs, ← Nat.add_mul]; exact Nat.mul_le_mul_right _ hroom
      have hr2 := run_append_room (P := P) w t ty e i ht hi g n cap cur hgg a m c news hl hnews h1 hroom hfit
      rw [hr] at hr2
      injection hr2 with e1 e2
      exact .inl ⟨g, cap, rfl, e1⟩
    · have holds : ∀ j u, xs[j]? = some u → w.cell? ((⟨g, 0, none⟩ : Addr).add j) = some u := World.ownsRow.cells (base := base) (e := e) (size := i.size) (n := n) (v := .slice (some ⟨g, 0, none⟩) n cap) ⟨hxl, .inr ⟨g, cap, cur, rfl, hbg, hgg, hnc, hcm, hcs, htake⟩⟩ rfl
      have hr2 := run_append_grow (P := P) w t ty e i z ht hi hz ⟨g, 0, none⟩ n cap xs hxl holds a m c news hl hnews (by omega) (by omega) (growslice_fits (by omega) hbytes)
      rw [hr] at hr2
      injection hr2 with e1 e2
      exact .inr ⟨by rw [e2]; exact ⟨rfl, rfl, rfl, by simp, fun k hk _ => heap_alloc_old w.drew _ hk⟩, by rw [e1]; rfl⟩
theorem append_keep {P : Program} {ops : Array Oper} {rest : List Oper} {o : Oper} {a : Act} {Q : Exit → Act → World → Prop} (w : World) (hgd : o.guard = none) (s x : Operand) (t e : TypeId) (z : Value) (size bytes : Nat)
    (ho : o.op = .call { callee := .builtin .append, args := #[s, x], argTypes := #[t, t] }) (ht : P.underlying t = some (.slice e)) (hinfo : (P.info? e).map (fun i => (i.zero, i.size, i.bytes)) = some (some z, size, bytes)) (hzs : z.cells.size = size) (hsz : 0 < size)
    (base : Nat) (v xv : Value) (n m : Nat) (xs news : List Value) (hs : a.eval s = v) (hx : a.eval x = xv) (hown : w.ownsRow base e size v n xs) (hsrc : SrcAt w xv m size news) (h63 : n + m ≤ maxLen) (hbytes : (n + m) * bytes ≤ 140737488355328) (hbase : base ≤ w.heap.size) (hm : 0 < m)
    (h : ∀ v' w', w'.ownsRow base e size v' (n + m) (xs ++ news) → w.grownBy w' v.ownBlock → App w w' v v' n m → wpList P ops Q rest (a.put o.dst v') w') : wpList P ops Q (o :: rest) a w := by
  obtain ⟨i0, hi, hz0, hz1, hz2⟩ := info_of hinfo
  obtain ⟨ad, c, rfl, hl, h1, hnil, hcells⟩ := hsrc
  cases ad with
  | none => exact absurd (hnil rfl) (by omega)
  | some ad =>
    refine wpList_plain hgd fun _ hK => ?_
    obtain ⟨v', w', hr, h2, h3, h4⟩ := run_append_k (P := P) w base t o.type e i0 z size bytes ht hi hz0 hz1 hz2 hzs hsz v n xs hown ad m c news hl (hcells ad rfl) h1 h63 hbytes hbase hm
    unfold Oper.wp execOp
    simp only [ho, resolve, invoke, builtin, Sem.run_bind, Sem.run_pure, Result.andThen_ok, List.map_toArray, List.map_cons, List.map_nil, hs, hx, hr]
    exact hK _ _ (h v' w' h2 h3 h4)
end Go.Proofs.YtchpapppkmnfnaaGreatDoor

namespace Go.Proofs.YtchpapppkmnfnaaGreatDoor
open Go.RowKit

/-- So it is laid on. -/
def tl (mark : Int) (n : Nat) : List Int := (List.range n).map fun i : Nat => mark + 6 + 5 * (i : Int)
theorem tl_succ (mark : Int) (n : Nat) : tl mark (n + 1) = tl mark n ++ [mark + 6 + 5 * (n : Int)] := by unfold tl; rw [List.range_succ, List.map_append]; rfl
theorem tl_len (mark : Int) (n : Nat) : (tl mark n).length = n := by simp [tl]
/-- A head of a row. -/
theorem row_head {w : World} {v v' : Value} {c d : List Int} {cap : Nat} {a : Option Addr} (h : w.ownsRow 0 3 1 v (c ++ d).length (ic (c ++ d))) (hv : v = .slice a (c ++ d).length cap) (hv' : v' = .slice a c.length cap) (ha : a = none → c = []) : Iv w v' c := by
  rcases own_cells h with ⟨e, e2⟩ | ⟨g, cap', e, _, hg, _, hc⟩
  · have : c = [] := by
      have h0 : (c ++ d).length = 0 := e2
      rw [List.length_append] at h0
      exact List.length_eq_zero_iff.1 (by omega)
    subst this
    exact ⟨a, cap, hv', fun j hj => absurd hj (Nat.not_lt_zero _)⟩
  · rw [hv] at e
    injection e with e1 _ _
    refine ⟨a, cap, hv', fun j hj => ⟨g, e1, hg, hc j _ ?_⟩⟩
    simp [ic, hj, List.getElem?_append_left]
/-- A list is the head of a row. -/
def Vw (Y : List Rw) (l : Value) (c : List Int) : Prop := ∃ y ∈ Y, ∃ a cap cap' d, y = (.slice a (c ++ d).length cap', 3, ic (c ++ d)) ∧ l = .slice a c.length cap
theorem Vw.iv {w : World} {Y L : List Rw} {l : Value} {c : List Int} (h : Vw Y l c) (hi : Its w L) (hs : ∀ y ∈ Y, y ∈ L) : Iv w l c := by
  obtain ⟨y, hy, a, cap, cap', d, rfl, rfl⟩ := h
  have hr := hi.row _ (hs _ hy)
  have hr' : w.ownsRow 0 3 1 (.slice a (c ++ d).length cap') (c ++ d).length (ic (c ++ d)) := by simpa [ic] using hr
  rcases own_cells hr' with ⟨e, e2⟩ | ⟨g, cap2, e, _, hg, _, hc⟩
  · have : c = [] := by
      rw [List.length_append] at e2
      exact List.length_eq_zero_iff.1 (by omega)
    subst this
    exact ⟨a, cap, rfl, fun j hj => absurd hj (Nat.not_lt_zero _)⟩
  · injection e with e1 _ _
    exact ⟨a, cap, rfl, fun j hj => ⟨g, e1, hg, hc j _ (by simp [ic, hj, List.getElem?_append_left])⟩⟩
theorem Vw.more {Y Z : List Rw} {l : Value} {c : List Int} (h : Vw Y l c) (hs : ∀ y ∈ Y, y ∈ Z) : Vw Z l c := by
  obtain ⟨y, hy, h2⟩ := h
  exact ⟨y, hs y hy, h2⟩
theorem vw_self {w : World} {Y : List Rw} {l : Value} {c : List Int} (hr : w.ownsRow 0 3 1 l c.length (ic c)) (hy : (l, 3, ic c) ∈ Y) : Vw Y l c := by
  obtain ⟨a, cap, rfl⟩ := own_slice hr
  exact ⟨_, hy, a, cap, cap, [], by rw [List.append_nil], rfl⟩
/-- A row's head is a row. -/
theorem row_take {w : World} {a : Option Addr} {cap n m : Nat} {xs ys : List Value} (h : w.ownsRow 0 3 1 (.slice a (n + m) cap) (n + m) (xs ++ ys)) (hx : xs.length = n) (h0 : a = none → n = 0 ∧ cap = 0) : w.ownsRow 0 3 1 (.slice a n cap) n xs := by
  refine ⟨by omega, ?_⟩
  rcases h.2 with ⟨e, e2⟩ | ⟨g, cap2, cur, e, h2, h3, h4, h5, h6, h7⟩
  · injection e with e1 _ e3
    obtain ⟨z1, z2⟩ := h0 e1
    exact .inl ⟨by rw [e1, z1, z2], z1⟩
  · injection e with e1 _ e3
    subst e1 e3
    refine .inr ⟨g, cap, cur, rfl, h2, h3, by omega, h5, h6, ?_⟩
    have e4 : cur.toList.take n = (cur.toList.take ((n + m) * 1)).take n := by rw [List.take_take, Nat.min_eq_left (by omega)]
    rw [Nat.mul_one, e4, h7, List.take_append_of_le_length (by omega), List.take_of_length_le (by omega)]
/-- A list that is being laid on. -/
def GrSt (B : Nat) (S : Nat → Prop) (w0 w : World) (P : Nat) (turn deep : Int) (t : Tx) (rest : List Rw) (l g : Value) (c : List Int) (mark : Int) (i : Nat) : Prop :=
  (∃ a cap, l = .slice a c.length cap ∧ g = .slice a (c.length + i) cap ∧ (a = none → c.length = 0 ∧ cap = 0) ∧ Bg B S w0 w P turn deep t ((g, 3, ic (c ++ tl mark i)) :: rest)) ∨ Bg B S w0 w P turn deep t ((g, 3, ic (c ++ tl mark i)) :: (l, 3, ic c) :: rest)
section
variable {B P : Nat} {S : Nat → Prop} {w0 w w' : World} {turn deep : Int} {t : Tx} {rest : List Rw} {l g v' : Value} {c : List Int} {mark : Int} {i : Nat}
theorem GrSt.bg (h : GrSt B S w0 w P turn deep t rest l g c mark i) : ∃ Z, Bg B S w0 w P turn deep t ((g, 3, ic (c ++ tl mark i)) :: Z) := by
  rcases h with ⟨_, _, _, _, _, h⟩ | h
  · exact ⟨_, h⟩
  · exact ⟨_, h⟩
theorem GrSt.row (h : GrSt B S w0 w P turn deep t rest l g c mark i) : w.ownsRow 0 3 1 g (c.length + i) (ic (c ++ tl mark i)) := by
  obtain ⟨Z, hb⟩ := h.bg
  have := hb.row (x := (g, 3, ic (c ++ tl mark i))) (by simp)
  have e : (ic (c ++ tl mark i)).length = c.length + i := by simp [ic, tl]
  simpa [e] using this
theorem gr_step (h : GrSt B S w0 w P turn deep t rest l g c mark i) (o1 : w'.ownsRow 0 3 1 v' (c.length + i + 1) (ic (c ++ tl mark i) ++ [.int .i64 (mark + 6 + 5 * (i : Int))])) (o2 : (w.alloc (.cells #[.int .i64 (mark + 6 + 5 * (i : Int))] 3)).grownBy w' g.ownBlock) (o3 : App (w.alloc (.cells #[.int .i64 (mark + 6 + 5 * (i : Int))] 3)) w' g v' (c.length + i) 1) : GrSt B S w0 w' P turn deep t rest l v' c mark (i + 1) := by
  have e1 : ic (c ++ tl mark i) ++ [.int .i64 (mark + 6 + 5 * (i : Int))] = ic (c ++ tl mark (i + 1)) := by simp [ic, tl_succ]
  have e2 : (ic (c ++ tl mark i)).length = c.length + i := by simp [ic, tl]
  have hY : (w.alloc (.cells #[.int .i64 (mark + 6 + 5 * (i : Int))] 3)).heap.size = w.heap.size + 1 := by simp
  have hn : v'.ownBlock = g.ownBlock ∨ v'.ownBlock = some (w.heap.size + 1) := by
    rcases o3 with ⟨b, cap, rfl, rfl⟩ | ⟨_, e⟩
    · exact .inl rfl
    · exact .inr (by rw [e, hY])
  have o1' : w'.ownsRow 0 3 1 v' ((ic (c ++ tl mark i)).length + 1) (ic (c ++ tl mark i) ++ [.int .i64 (mark + 6 + 5 * (i : Int))]) := by rw [e2]; exact o1
  rcases h with ⟨a, cap, hl, hg, ha, hb⟩ | hb
  · rcases o3 with ⟨b, cap2, eg, ev⟩ | ⟨hgn, en⟩
    · have hb2 := Bg.app (A := []) (xs := ic (c ++ tl mark i)) hb o1' o2 hn
      rw [hg] at eg
      injection eg with q1 _ q3
      refine .inl ⟨a, cap, hl, by rw [ev, q1, q3]; rfl, ha, ?_⟩
      rw [e1] at hb2
      exact hb2
    · refine .inr ?_
      have hrow : w.ownsRow 0 3 1 l c.length (ic c) := by
        have hr := hb.row (x := (g, 3, ic (c ++ tl mark i))) (by simp)
        have hr2 : w.ownsRow 0 3 1 (.slice a (c.length + i) cap) (c.length + i) (ic c ++ ic (tl mark i)) := by
          have : w.ownsRow 0 3 1 g (c.length + i) (ic (c ++ tl mark i)) := by simpa [e2] using hr
          rw [hg] at this
          simpa [ic] using this
        rw [hl]
        exact row_take hr2 (by simp [ic]) ha
      have hbl : Below w.heap.size w w' := ((Below.refl _ _).alloc (Nat.le_refl _) _).grown hgn (by simp) (fun k hk => by cases hk)
      have hlb : ∀ k, l.ownBlock = some k → g.ownBlock = some k := fun k hk => by
        rw [hl] at hk
        rw [hg]
        cases a with
        | none => exact hk
        | some x => exact hk
      have s1 : Sg w P turn deep t ((l, 3, ic c) :: rest) := by
        refine ⟨hb.sg.box, ?_, fun x hx => ?_⟩
        · refine Its.turn (A := []) (x := (g, 3, ic (c ++ tl mark i))) (x' := (l, 3, ic c)) hb.sg.its (by simpa [ic] using hrow) (fun _ _ _ => rfl) (.inl ?_)
          show l.ownBlock = g.ownBlock
          rw [hl, hg]
          cases a <;> rfl
        · rcases List.mem_cons.1 hx with e | e
          · rw [e]; exact .inr rfl
          · exact hb.sg.typ x (List.mem_cons_of_mem _ e)
      have f1 : Fr B S w0 w P ((l, 3, ic c) :: rest) := ⟨hb.fr.st, fun k hk => hb.fr.gr k (by
        rcases hk with e | ⟨x, hx, e⟩
        · exact .inl e
        · rcases List.mem_cons.1 hx with e2 | e2
          · subst e2; exact .inr ⟨(g, 3, ic (c ++ tl mark i)), by simp, hlb k e⟩
          · exact .inr ⟨x, List.mem_cons_of_mem _ e2, e⟩)⟩
      have b1 : Bg B S w0 w' P turn deep t ((l, 3, ic c) :: rest) := (Bg.mk s1 f1 hb.hS hb.hB).below hbl
      rw [hY] at en
      have hfresh : ∀ k, v'.ownBlock = some k → w.heap.size ≤ k := fun k hk => by
        rw [en] at hk
        injection hk with hk
        omega
      refine b1.add (x := (v', 3, ic (c ++ tl mark (i + 1)))) ?_ (fun k hk y hy e => ?_) (.inr rfl) (fun k hk => Nat.le_trans hb.size (hfresh k hk))
      · rw [← e1]
        simpa [e2] using o1
      · have a1 := hfresh k hk
        have a2 := s1.its.lt hy e
        omega
  · refine .inr ?_
    have hb2 := Bg.app (A := []) (xs := ic (c ++ tl mark i)) hb o1' o2 hn
    rw [e1] at hb2
    exact hb2
/-- In the end. -/
theorem GrSt.fin (h : GrSt B S w0 w P turn deep t rest l g c mark i) : ∃ Y, Bg B S w0 w P turn deep t (Y ++ rest) ∧ (g, 3, ic (c ++ tl mark i)) ∈ Y ∧ Vw Y l c := by
  rcases h with ⟨a, cap, hl, hg, ha, hb⟩ | hb
  · exact ⟨[(g, 3, ic (c ++ tl mark i))], hb, by simp, (g, 3, ic (c ++ tl mark i)), by simp, a, cap, cap, tl mark i, by rw [hg, List.length_append, tl_len], hl⟩
  · refine ⟨[(g, 3, ic (c ++ tl mark i)), (l, 3, ic c)], hb, by simp, vw_self (w := w) ?_ (by simp)⟩
    have := hb.row (x := (l, 3, ic c)) (by simp)
    simpa [ic] using this
end
end Go.Proofs.YtchpapppkmnfnaaGreatDoor
