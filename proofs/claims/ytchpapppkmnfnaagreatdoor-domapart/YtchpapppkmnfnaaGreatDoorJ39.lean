/-
  Put together: DrMark, DrBack, DtM2.
-/
import Derived.Test.YtchpapppkmnfnaaGreatDoorJ38
import Derived.Test.YtchpapppkmnfnaaGreatDoorMdRegU
import Derived.Test.YtchpapppkmnfnaaGreatDoorDmBack
namespace Go.Proofs.YtchpapppkmnfnaaGreatDoor
open Go.RowKit

/-- Lists stay, where blocks of their types stay. -/
def Keeps (S : Nat → Prop) (w w' : World) : Prop := ∀ k cur t, S k → (t = 42 ∨ t = 3) → w.heap[k]? = some (.cells cur t (0, 0)) → w'.heap[k]? = some (.cells cur t (0, 0))
theorem own_keeps {S : Nat → Prop} {w w' : World} {B : Nat} {e : TypeId} {size : Nat} {v : Value} {n : Nat} {xs : List Value} (h : w.ownsRow B e size v n xs) (hS : ∀ g, v.ownBlock = some g → S g) (he : e = 42 ∨ e = 3) (hk : Keeps S w w') : w'.ownsRow B e size v n xs :=
  own_keep h fun g hg => by
    obtain ⟨cur, hc⟩ := own_type h hg
    rw [hk g cur e (hS g hg) he hc, hc]
theorem LssR.keepT {S : Nat → Prop} {w w' : World} {v : Value} {LL : List (List Int)} (h : LssR S w v LL) (hk : Keeps S w w') : LssR S w' v LL := by
  obtain ⟨cs, h1, h2, h3⟩ := h
  refine ⟨cs, own_keeps h1 h2 (.inl rfl) hk, h2, fun i hi => ?_⟩
  obtain ⟨u, hu, hl⟩ := h3 i hi
  exact ⟨u, hu, own_keeps hl.1 hl.2 (.inr rfl) hk, hl.2⟩
theorem type_ne {w : World} {k g : Nat} {c d : Array Value} {s t : TypeId} (h1 : w.heap[k]? = some (.cells c s (0, 0))) (h2 : w.heap[g]? = some (.cells d t (0, 0))) (h : s ≠ t) : k ≠ g := fun e => by
  rw [e, h2] at h1
  injection h1 with h1
  injection h1 with _ e2 _
  exact h e2.symm
theorem rs_mark {B : Nat} {S : Nat → Prop} {w w2 w6 : World} {r : Nat} {LL NN : List (List Int)} {MM : List (List (List Int))} {dv mv u v6 : Value} {cs : List Value} (h : RsAt B S w r LL MM) (ho : w.heap[r]? = some (.cells #[dv, mv] 92 (0, 0))) (hd : LssR S w dv LL)
    (m1 : w.ownsRow 0 41 1 mv MM.length cs) (m2 : ∀ g, mv.ownBlock = some g → S g) (m3 : ∀ i (h : i < MM.length), ∃ x, cs[i]? = some x ∧ LssR S w x MM[i] ∧ ∀ g, dv.ownBlock = some g → x.ownBlock ≠ some g)
    (hb : Below w.heap.size w w2) (hN : Few NN) (hF : FrR w.heap.size w2 u NN) (ho6 : w6.ownsRow 0 41 1 v6 (MM.length + 1) (cs ++ [u])) (hg : (w2.alloc (.cells #[u] 41)).grownBy w6 mv.ownBlock) (hv6 : mv.ownBlock = v6.ownBlock ∨ ∃ g, v6.ownBlock = some g ∧ w2.heap.size ≤ g) (hm : MM.length + 1 ≤ 10000) :
    (∃ S', RsAt B S' (w6.setCell ⟨r, 1, none⟩ v6) r LL (MM ++ [NN]) ∧ SStp B S w (w6.setCell ⟨r, 1, none⟩ v6) ∧ Grown S w (w6.setCell ⟨r, 1, none⟩ v6) S') ∧ w6.heap[r]? = some (.cells #[dv, mv] 92 (0, 0)) := by
  have hBw : B ≤ w.heap.size := Nat.le_of_lt (Nat.lt_of_le_of_lt (h.lo r h.sr) (h.lt r h.sr))
  have hs6 : w2.heap.size + 1 ≤ w6.heap.size := by have := hg.size; simpa using this
  have hmr : ∀ g, mv.ownBlock = some g → g ≠ r := fun g hg' => by
    obtain ⟨cur, hc⟩ := own_type m1 hg'
    exact type_ne hc ho (by decide)
  have far : ∀ k, k < w2.heap.size → mv.ownBlock ≠ some k → w6.heap[k]? = w2.heap[k]? := fun k hk hn => by
    rw [hg.block k (by simp; omega) (fun e => hn e.symm), heap_alloc_old w2 _ hk]
  have hr6 : w6.heap[r]? = some (.cells #[dv, mv] 92 (0, 0)) := by
    rw [far r (Nat.lt_of_lt_of_le (h.lt r h.sr) hb.size) (fun e => hmr r e rfl), hb.block r (h.lt r h.sr), ho]
  have hsz : (w6.setCell ⟨r, 1, none⟩ v6).heap.size = w6.heap.size := by simp
  have hK : Keeps (fun _ => True) w2 (w6.setCell ⟨r, 1, none⟩ v6) := fun k cur t _ ht hc => by
    have hkl := (Array.getElem?_eq_some_iff.1 hc).1
    have h1 : mv.ownBlock ≠ some k := fun e => by
      obtain ⟨cur', hc'⟩ := own_type (own_keep m1 (w' := w2) fun g hg' => hb.block g (h.lt g (m2 g hg'))) e
      refine type_ne hc hc' ?_ rfl
      rcases ht with rfl | rfl <;> decide
    have h2 : w6.heap[k]? = some (.cells cur t (0, 0)) := (far k hkl h1).trans hc
    rw [heap_setCell_other _ _ _ _ (type_ne h2 hr6 (by rcases ht with rfl | rfl <;> decide)), h2]
  have hKS : Keeps S w (w6.setCell ⟨r, 1, none⟩ v6) := fun k cur t hS ht hc => hK k cur t trivial ht ((hb.block k (h.lt k hS)).trans hc)
  have hcl : cs.length = MM.length := by have := m1.1; omega
  have sub : ∀ k, S k → S k ∨ (w.heap.size ≤ k ∧ k < w6.heap.size) := fun k hk => .inl hk
  have hul : ∀ g, u.ownBlock = some g → w.heap.size ≤ g ∧ g < w2.heap.size := fun g hg' => hF.lo hg'
  have hnew : LssR (fun k => S k ∨ (w.heap.size ≤ k ∧ k < w6.heap.size)) (w6.setCell ⟨r, 1, none⟩ v6) u NN :=
    (hF.lss (S := fun k => S k ∨ (w.heap.size ≤ k ∧ k < w6.heap.size)) (fun k a b => .inr ⟨a, by omega⟩)).keepT fun k cur t _ ht hc => hK k cur t trivial ht hc
  refine ⟨⟨fun k => S k ∨ (w.heap.size ≤ k ∧ k < w6.heap.size), ⟨⟨dv, v6, ?_, (hd.keepT hKS).more sub, ⟨cs ++ [u], ?_, ?_, fun i hi => ?_⟩⟩, .inl h.sr, ?_, ?_, h.few, ?_, by rw [List.length_append]; exact hm⟩, ⟨?_, ?_⟩, ?_⟩, hr6⟩
  · rw [heap_setCell_same _ _ _ _ _ _ hr6]
    rfl
  · rw [List.length_append]
    refine own_keep ho6 fun g hg' => heap_setCell_other _ _ _ _ ?_
    obtain ⟨cur, hc⟩ := own_type ho6 hg'
    exact type_ne hc hr6 (by decide)
  · intro g hg'
    rcases hv6 with e | ⟨g', e, e2⟩
    · exact .inl (m2 g (e.trans hg'))
    · rw [e] at hg'
      injection hg' with hg'
      subst hg'
      exact .inr ⟨Nat.le_trans hb.size e2, (ho6.lt _ e).2⟩
  · rw [List.length_append, List.length_singleton] at hi
    by_cases hil : i < MM.length
    · obtain ⟨x, hx, hl, ha⟩ := m3 i hil
      refine ⟨x, by rw [List.getElem?_append_left (by omega)]; exact hx, ?_, ha⟩
      rw [List.getElem_append_left hil]
      exact (hl.keepT hKS).more sub
    · have : i = MM.length := by omega
      subst this
      refine ⟨u, by rw [List.getElem?_append_right (by omega), hcl]; simp, ?_, fun g hg' e => ?_⟩
      · rw [List.getElem_append_right (Nat.le_refl _)]
        simp only [Nat.sub_self, List.getElem_singleton]
        exact hnew
      · obtain ⟨_, _, d2, _⟩ := hd
        have a1 := h.lt g (d2 g hg')
        have a2 := hul g e
        omega
  · rintro k (e | e)
    · exact h.lo k e
    · omega
  · rintro k (e | e)
    · rw [hsz]; have := h.lt k e; have := hb.size; omega
    · rw [hsz]; exact e.2
  · intro M hM
    rcases List.mem_append.1 hM with hM | hM
    · exact h.fews M hM
    · rw [List.mem_singleton.1 hM]; exact hN
  · exact (((hb.mono hBw).alloc (Nat.le_trans hBw hb.size) _).grown hg (by simp; have := hb.size; omega) (fun g hg' => h.lo g (m2 g hg'))).setCell (h.lo r h.sr) _
  · exact ((Off.of_below hb).trans ((Off.of_below ((Below.refl _ _).alloc (Nat.le_refl _) _)).trans (Off.grown hg fun g hg' => m2 g hg'))).trans (Off.set _ h.sr)
  · rintro k (e | e)
    · exact .inl e
    · exact .inr (by rw [hsz]; exact e)
def RmOut (B : Nat) (S : Nat → Prop) (r : Nat) (LL : List (List Int)) (MM : List (List (List Int))) (w : World) (e : Ending) (w' : World) : Prop := e = .returned (.int .i64 (MM.length : Int)) ∧ ∃ S', RsAt B S' w' r LL (MM ++ [LL]) ∧ SStp B S w w' ∧ Grown S w w' S'

theorem src_1 {w : World} {b : Nat} {u : Value} {t : TypeId} (h : w.heap[b]? = some (.cells #[u] t (0, 0))) (h1 : u.oneCell' = true) : SrcAt w (.slice (some ⟨b, 0, none⟩) 1 1) 1 1 [u] :=
  ⟨_, _, rfl, rfl, (fun v hv => by rw [List.mem_singleton.1 hv]; exact h1), (fun e => by cases e), fun ad e j v hj => by
    injection e with e
    subst e
    exact World.news_of_block h j v hj⟩
set_option maxRecDepth 10000 in
set_option maxHeartbeats 1000000 in
theorem rMark_any {B : Nat} {S : Nat → Prop} {r : Nat} {LL : List (List Int)} {MM : List (List (List Int))} (w : World) (h : RsAt B S w r LL MM) (hm : MM.length + 1 ≤ 10000) : Calls Tryz.prog 34 #[.pointer (some ⟨r, 0, none⟩)] w (RmOut B S r LL MM w) := by
  obtain ⟨dv, mv, ho, hd, cs, m1, m2, m3⟩ := h.ex
  have HOw : Hid (∀ w', Below w.heap.size w w' → Calls Tryz.prog 80 #[dv] w' (OwOut LL w')) := fun w' hb => own_any w' (hd.keep fun k hk => hb.block k (h.lt k hk)) (fun k hk => Nat.lt_of_lt_of_le (h.lt k hk) hb.size) h.few
  have HC : Hid (∀ w', Below w.heap.size w w' → w'.cell? ⟨r, 0, none⟩ = some dv ∧ w'.cell? ⟨r, 1, none⟩ = some mv ∧ w'.ownsRow 0 41 1 mv MM.length cs) := fun w' hb => by
    have f := (hb.block r (h.lt r h.sr)).trans ho
    exact ⟨cell_of f 0, cell_of f 1, own_keep m1 fun g hg => hb.block g (h.lt g (m2 g hg))⟩
  have HE : Hid (∀ (w2 w6 : World) (u v6 : Value), Below w.heap.size w w2 → FrR w.heap.size w2 u LL → w6.ownsRow 0 41 1 v6 (MM.length + 1) (cs ++ [u]) → (w2.alloc (.cells #[u] 41)).grownBy w6 mv.ownBlock → (mv.ownBlock = v6.ownBlock ∨ ∃ g, v6.ownBlock = some g ∧ w2.heap.size ≤ g) → (∃ S', RsAt B S' (w6.setCell ⟨r, 1, none⟩ v6) r LL (MM ++ [LL]) ∧ SStp B S w (w6.setCell ⟨r, 1, none⟩ v6) ∧ Grown S w (w6.setCell ⟨r, 1, none⟩ v6) S') ∧ w6.heap[r]? = some (.cells #[dv, mv] 92 (0, 0))) := fun w2 w6 u v6 a1 a2 a3 a4 a5 => rs_mark h ho hd m1 m2 m3 a1 h.few a2 a3 a4 a5 hm
  have HC0 : Hid (w.drew.cell? ⟨r, 0, none⟩ = some dv ∧ w.drew.cell? ⟨r, 1, none⟩ = some mv) := ⟨(HC.out _ (Below.refl _ _).drew).1, (HC.out _ (Below.refl _ _).drew).2.1⟩
  obtain ⟨da, dc, rfl⟩ : ∃ a c, dv = .slice a LL.length c := by obtain ⟨_, d1, _⟩ := hd; exact own_slice d1
  obtain ⟨ma, mc, rfl⟩ := own_slice m1
  have hmI : (MM.length : Int) + 1 ≤ 10000 := by omega
  clear h ho hd m1 m2 m3
  go_enter Tryz.func34, Tryz.ntmps34
  go_wp2_with fail
  refine wp_region_T (fun w' => w'.cell? ⟨r, 0, none⟩ = some (.slice da LL.length dc)) (fun w' => w'.cell? ⟨r, 1, none⟩ = some (.slice ma MM.length mc)) [14] (by kernel_rfl) HC0.out (fun hHeld => ?_)
  clear HC0
  have HWs : Hid (Below w.heap.size w w.drew) := (Below.refl _ _).drew
  generalize w.drew = U at hHeld HWs ⊢
  refine wpAnyT_takeB (i := 0) (oi := ⟨some 3, .move (.tmp 0), _, _, _, _⟩) (v := ?vR1x0) rfl (by kernel_rfl) (by kernel_rfl) (by kernel_rfl) (by kernel_rfl) (fun _ _ _ h => h) (Or.inl ⟨by rfl, ?hyR1x0⟩) (by assumption) ?restR1x0
  case hyR1x0 => (intro w hSw; (try dsimp only at hSw); go_simp; try (with_reducible rfl))
  try simp only [Act.put, List.setIfInBounds_toArray, List.set_cons_zero, List.set_cons_succ]
  refine wpAnyT_takeB (i := 1) (oi := ⟨some 4, .move (.tmp 0), _, _, _, _⟩) (v := ?vR1x1) rfl (by kernel_rfl) (by kernel_rfl) (by kernel_rfl) (by kernel_rfl) (fun _ _ _ h => h) (Or.inl ⟨by rfl, ?hyR1x1⟩) (by assumption) ?restR1x1
  case hyR1x1 => (intro w hSw; (try dsimp only at hSw); go_simp; try (with_reducible rfl))
  try simp only [Act.put, List.setIfInBounds_toArray, List.set_cons_zero, List.set_cons_succ]
  refine wpAnyT_takeB (i := 2) (oi := ⟨some 5, .nilCheck (.tmp 4), _, _, _, _⟩) (v := ?vR1x2) rfl (by kernel_rfl) (by kernel_rfl) (by kernel_rfl) (by kernel_rfl) (fun _ _ _ h => h) (Or.inl ⟨by rfl, ?hyR1x2⟩) (by assumption) ?restR1x2
  case hyR1x2 => (intro w hSw; (try dsimp only at hSw); go_simp; try (with_reducible rfl))
  try simp only [Act.put, List.setIfInBounds_toArray, List.set_cons_zero, List.set_cons_succ]
  refine wpAnyT_takeB (i := 3) (oi := ⟨some 6, .fieldAddr 92 (.tmp 5) 1, _, _, _, _⟩) (v := ?vR1x3) rfl (by kernel_rfl) (by kernel_rfl) (by kernel_rfl) (by kernel_rfl) (fun _ _ _ h => h) (Or.inl ⟨by rfl, ?hyR1x3⟩) (by assumption) ?restR1x3
  case hyR1x3 => (intro w hSw; (try dsimp only at hSw); go_simp; try (with_reducible rfl))
  try simp only [Act.put, List.setIfInBounds_toArray, List.set_cons_zero, List.set_cons_succ]
  refine wpAnyT_take (i := 4) (oi := ⟨some 7, .load 50 (.tmp 6), _, _, _, _⟩) (v := ?vR1x4) rfl (by kernel_rfl) (by kernel_rfl) (by kernel_rfl) (by kernel_rfl) (by kernel_rfl) (fun _ _ _ h => h) (Or.inl ⟨by rfl, ?hyR1x4⟩) (by assumption) ?restR1x4
  case hyR1x4 => (intro w hSw; (try dsimp only at hSw); go_simp; try (with_reducible rfl))
  try simp only [Act.put, List.setIfInBounds_toArray, List.set_cons_zero, List.set_cons_succ]
  refine wpAnyT_takeB (i := 5) (oi := ⟨some 8, .move (.tmp 0), _, _, _, _⟩) (v := ?vR1x5) rfl (by kernel_rfl) (by kernel_rfl) (by kernel_rfl) (by kernel_rfl) (fun _ _ _ h => h) (Or.inl ⟨by rfl, ?hyR1x5⟩) (by assumption) ?restR1x5
  case hyR1x5 => (intro w hSw; (try dsimp only at hSw); go_simp; try (with_reducible rfl))
  try simp only [Act.put, List.setIfInBounds_toArray, List.set_cons_zero, List.set_cons_succ]
  refine wpAnyT_takeB (i := 6) (oi := ⟨some 9, .nilCheck (.tmp 8), _, _, _, _⟩) (v := ?vR1x6) rfl (by kernel_rfl) (by kernel_rfl) (by kernel_rfl) (by kernel_rfl) (fun _ _ _ h => h) (Or.inl ⟨by rfl, ?hyR1x6⟩) (by assumption) ?restR1x6
  case hyR1x6 => (intro w hSw; (try dsimp only at hSw); go_simp; try (with_reducible rfl))
  try simp only [Act.put, List.setIfInBounds_toArray, List.set_cons_zero, List.set_cons_succ]
  refine wpAnyT_takeB (i := 7) (oi := ⟨some 10, .fieldAddr 92 (.tmp 9) 0, _, _, _, _⟩) (v := ?vR1x7) rfl (by kernel_rfl) (by kernel_rfl) (by kernel_rfl) (by kernel_rfl) (fun _ _ _ h => h) (Or.inl ⟨by rfl, ?hyR1x7⟩) (by assumption) ?restR1x7
  case hyR1x7 => (intro w hSw; (try dsimp only at hSw); go_simp; try (with_reducible rfl))
  try simp only [Act.put, List.setIfInBounds_toArray, List.set_cons_zero, List.set_cons_succ]
  refine wpAnyT_takeB (i := 8) (oi := ⟨some 11, .load 41 (.tmp 10), _, _, _, _⟩) (v := ?vR1x8) rfl (by kernel_rfl) (by kernel_rfl) (by kernel_rfl) (by kernel_rfl) (fun _ _ _ h => h) (Or.inl ⟨by rfl, ?hyR1x8⟩) (by assumption) ?restR1x8
  case hyR1x8 => (intro w hSw; (try dsimp only at hSw); go_simp; try (with_reducible rfl))
  try simp only [Act.put, List.setIfInBounds_toArray, List.set_cons_zero, List.set_cons_succ]
  refine wpAnyT_one (i := 9) (o := ⟨some 12, .call { callee := .value (.func 80), args := #[(.tmp 11)], argTypes := #[41] }, _, _, _, _⟩) (by kernel_rfl) rfl (fun K hK => ?_)
  go_simp
  refine calls_at (HOw.out U HWs.out) (by with_reducible rfl) (by with_reducible rfl) ?_
  rintro e w2 ⟨u, rfl, hF, hb⟩
  obtain ⟨ua, uc, rfl⟩ : ∃ a c, u = .slice a LL.length c := by obtain ⟨_, d1, _⟩ := hF; exact own_slice d1
  go_wp2_with fail
  have HB2 : Hid (Below w.heap.size w w2) := bl_next HWs.out hb
  have HF : Hid (FrR w.heap.size w2 (.slice ua LL.length uc) LL) := by
    obtain ⟨cs', f1, f2⟩ := hF
    refine ⟨cs', own_lessR f1 HWs.out.size, fun i hi => ?_⟩
    obtain ⟨x, hx, hl⟩ := f2 i hi
    exact ⟨x, hx, own_lessR hl HWs.out.size⟩
  clear hHeld hb hF
  have hHeld : _ ∧ _ := ⟨(HC.out w2 HB2.out).1, (HC.out w2 HB2.out).2.1⟩
  refine hK.out _ _ ⟨hHeld.1, fun _ => hHeld.2⟩ ?_
  clear hK K
  try simp only [Act.put, List.setIfInBounds_toArray, List.set_cons_zero, List.set_cons_succ]
  refine wpAnyT_one (i := 10) (o := ⟨some 13, .buildSlice 50 1 #[(0, (.tmp 12))], _, _, _, _⟩) (by kernel_rfl) rfl (fun K hK => ?_)
  go_simp
  obtain ⟨Y, hY⟩ : ∃ Y, w2.alloc (.cells #[.slice ua LL.length uc] 41) = Y := ⟨_, rfl⟩
  have HBY : Hid (Below w.heap.size w Y) := by show Below _ _ _; rw [← hY]; exact HB2.out.alloc HB2.out.size _
  have HSc2 : Hid (SrcAt Y (.slice (some ⟨w2.heap.size, 0, none⟩) 1 1) 1 1 [.slice ua LL.length uc]) := src_1 (by rw [← hY]; exact heap_alloc_new w2 _) rfl
  have HY : Hid (w2.alloc (.cells #[.slice ua LL.length uc] 41) = Y) := hY
  have HYs : Hid (w2.heap.size ≤ Y.heap.size) := by show _ ≤ _; rw [← hY]; simp
  rw [hY]
  clear hY hHeld
  have hHeld : _ ∧ _ := ⟨(HC.out Y HBY.out).1, (HC.out Y HBY.out).2.1⟩
  refine hK.out _ _ ⟨hHeld.1, fun _ => hHeld.2⟩ ?_
  clear hK K
  try simp only [Act.put, List.setIfInBounds_toArray, List.set_cons_zero, List.set_cons_succ]
  refine wpAnyT_one (i := 11) (o := ⟨some 14, .call { callee := .builtin .append, args := #[(.tmp 7), (.tmp 13)], argTypes := #[50, 50] }, _, _, _, _⟩) (by kernel_rfl) rfl (fun K hK => ?_)
  have hown : Y.ownsRow 0 41 1 (.slice ma MM.length mc) MM.length cs := (HC.out Y HBY.out).2.2
  refine op_append_src Y (.tmp 7) (.tmp 13) 50 41 (.slice none 0 0) 1 24 rfl un64 inf63 rfl (by decide) 0 _ _ MM.length 1 cs _ (by rfl) (by rfl) hown HSc2.out (by unfold maxLen; omega) (by omega) (Nat.zero_le _) (by rfl) ?_
  intro v6 w6 o1 o2 o3
  obtain ⟨a6, c6, rfl⟩ := own_slice o1
  have hE := HE.out w2 w6 _ _ HB2.out HF.out o1 (by rw [HY.out]; exact o2) (by
    rcases o3 with e | e
    · exact .inl e.symm
    · exact .inr ⟨_, e, HYs.out⟩)
  have HSx : Hid (∃ S', RsAt B S' (w6.setCell ⟨r, 1, none⟩ (.slice a6 (MM.length + 1) c6)) r LL (MM ++ [LL]) ∧ SStp B S w (w6.setCell ⟨r, 1, none⟩ (.slice a6 (MM.length + 1) c6)) ∧ Grown S w (w6.setCell ⟨r, 1, none⟩ (.slice a6 (MM.length + 1) c6)) S') := hE.1
  have GP : Hid (w6.heap[r]? = some (.cells #[.slice da LL.length dc, .slice ma MM.length mc] 92 (0, 0))) := hE.2
  have c0 : w6.cell? ⟨r, 0, none⟩ = some (.slice da LL.length dc) := cell_of hE.2 0
  have c1 : w6.cell? ⟨r, 1, none⟩ = some (.slice ma MM.length mc) := cell_of hE.2 1
  have cz : ∀ i, w6.frozen? ⟨r, i, none⟩ = false := frozen_of hE.2
  clear hE o1 o2 o3 hown hHeld
  refine hK.out _ _ ⟨c0, fun _ => c1⟩ ?_
  have hHeld := (⟨c0, c1⟩ : _ ∧ _)
  clear hK K
  try simp only [Act.put, List.setIfInBounds_toArray, List.set_cons_zero, List.set_cons_succ]
  refine wpAnyT_takeB (i := 12) (oi := ⟨some 15, .nilCheck (.tmp 3), _, _, _, _⟩) (v := ?vR1x12) rfl (by kernel_rfl) (by kernel_rfl) (by kernel_rfl) (by kernel_rfl) (fun _ _ _ h => h) (Or.inl ⟨by rfl, ?hyR1x12⟩) (by assumption) ?restR1x12
  case hyR1x12 => (intro w hSw; (try dsimp only at hSw); go_simp; try (with_reducible rfl))
  try simp only [Act.put, List.setIfInBounds_toArray, List.set_cons_zero, List.set_cons_succ]
  refine wpAnyT_takeB (i := 13) (oi := ⟨some 16, .fieldAddr 92 (.tmp 15) 1, _, _, _, _⟩) (v := ?vR1x13) rfl (by kernel_rfl) (by kernel_rfl) (by kernel_rfl) (by kernel_rfl) (fun _ _ _ h => h) (Or.inl ⟨by rfl, ?hyR1x13⟩) (by assumption) ?restR1x13
  case hyR1x13 => (intro w hSw; (try dsimp only at hSw); go_simp; try (with_reducible rfl))
  try simp only [Act.put, List.setIfInBounds_toArray, List.set_cons_zero, List.set_cons_succ]
  refine wpAnyT_late (i := 14) (o := ⟨none, .store 50 (.tmp 16) (.tmp 14), _, _, _, _⟩) (by kernel_rfl) rfl (by kernel_rfl) (fun K hK => ?_)
  go_simp
  refine hK.out _ _ ?shR1x14 ?restR1x14
  case shR1x14 => ((try dsimp only); exact (cell_of (heap_setCell_same w6 r 1 _ 92 _ GP.out) 0).trans rfl)
  clear hK K
  try simp only [Act.put, List.setIfInBounds_toArray, List.set_cons_zero, List.set_cons_succ]
  refine wpAnyT_done (by kernel_rfl) ?_ _
  obtain ⟨X, hX⟩ : ∃ X, w6.setCell ⟨r, 1, none⟩ (.slice a6 (MM.length + 1) c6) = X := ⟨_, rfl⟩
  have x1 : X.cell? ⟨r, 1, none⟩ = some (.slice a6 (MM.length + 1) c6) := by rw [← hX]; exact (cell_of (heap_setCell_same w6 r 1 _ 92 _ GP.out) 1).trans rfl
  rw [hX] at HSx
  try rw [hX]
  clear hX c0 c1 cz hHeld
  go_wp2_with fail
  go_ret
  exact ⟨ret_int (by omega), HSx.out⟩
end Go.Proofs.YtchpapppkmnfnaaGreatDoor

namespace Go.Proofs.YtchpapppkmnfnaaGreatDoor
open Go.RowKit

theorem own_take {w : World} {B : Nat} {e : TypeId} {g n q cap : Nat} {xs : List Value} (h : w.ownsRow B e 1 (.slice (some ⟨g, 0, none⟩) n cap) n xs) (hq : q ≤ n) : w.ownsRow B e 1 (.slice (some ⟨g, 0, none⟩) q cap) q (xs.take q) := by
  have hl := h.1
  refine ⟨by rw [List.length_take]; omega, .inr ?_⟩
  rcases h.2 with ⟨h1, _⟩ | ⟨g', cap', cur, hv, e2, e3, e4, e5, e6, e7⟩
  · cases h1
  · injection hv with a1 _ a3
    injection a1 with a1
    injection a1 with a1 _ _
    subst a1 a3
    refine ⟨g, cap, cur, rfl, e2, e3, by omega, e5, e6, ?_⟩
    rw [← e7, List.take_take]
    congr 1
    omega
def backL (MM : List (List (List Int))) (k : Int) : Bool := decide (0 ≤ k) && decide (k < (MM.length : Int))
theorem rs_back {B : Nat} {S : Nat → Prop} {w w2 : World} {r : Nat} {LL : List (List Int)} {MM : List (List (List Int))} {dv u : Value} {ma : Option Addr} {mc q : Nat} (h : RsAt B S w r LL MM) (ho : w.heap[r]? = some (.cells #[dv, .slice ma MM.length mc] 92 (0, 0))) (hm : MksR S w (.slice ma MM.length mc) dv MM) (hq : q < MM.length)
    (hb : Below w.heap.size w w2) (hF : FrR w.heap.size w2 u MM[q]) :
    (∃ S', RsAt B S' ((w2.setCell ⟨r, 0, none⟩ u).setCell ⟨r, 1, none⟩ (.slice ma q mc)) r MM[q] (MM.take q) ∧ SStp B S w ((w2.setCell ⟨r, 0, none⟩ u).setCell ⟨r, 1, none⟩ (.slice ma q mc)) ∧ Grown S w ((w2.setCell ⟨r, 0, none⟩ u).setCell ⟨r, 1, none⟩ (.slice ma q mc)) S') := by
  have hBw : B ≤ w.heap.size := Nat.le_of_lt (Nat.lt_of_le_of_lt (h.lo r h.sr) (h.lt r h.sr))
  have hr2 : w2.heap[r]? = some (.cells #[dv, .slice ma MM.length mc] 92 (0, 0)) := (hb.block r (h.lt r h.sr)).trans ho
  have hsz : ((w2.setCell ⟨r, 0, none⟩ u).setCell ⟨r, 1, none⟩ (.slice ma q mc)).heap.size = w2.heap.size := by simp
  have oth : ∀ k, k ≠ r → ((w2.setCell ⟨r, 0, none⟩ u).setCell ⟨r, 1, none⟩ (.slice ma q mc)).heap[k]? = w2.heap[k]? := fun k hk => by
    rw [heap_setCell_other _ _ _ _ hk, heap_setCell_other _ _ _ _ hk]
  have hK : Keeps (fun _ => True) w2 ((w2.setCell ⟨r, 0, none⟩ u).setCell ⟨r, 1, none⟩ (.slice ma q mc)) := fun k cur t _ ht hc => by
    rw [oth k (type_ne hc hr2 (by rcases ht with rfl | rfl <;> decide)), hc]
  have hKS : Keeps S w ((w2.setCell ⟨r, 0, none⟩ u).setCell ⟨r, 1, none⟩ (.slice ma q mc)) := fun k cur t hS ht hc => hK k cur t trivial ht ((hb.block k (h.lt k hS)).trans hc)
  obtain ⟨cs, m1, m2, m3⟩ := hm
  have hcl : cs.length = MM.length := by have := m1.1; omega
  obtain ⟨g, rfl⟩ : ∃ g, ma = some ⟨g, 0, none⟩ := by
    rcases m1.2 with ⟨e, e2⟩ | ⟨g, cap, cur, e, _⟩
    · omega
    · injection e with e _ _
      exact ⟨g, e⟩
  have sub : ∀ k, S k → S k ∨ (w.heap.size ≤ k ∧ k < w2.heap.size) := fun k hk => .inl hk
  refine ⟨fun k => S k ∨ (w.heap.size ≤ k ∧ k < w2.heap.size), ⟨⟨u, .slice (some ⟨g, 0, none⟩) q mc, ?_, ?_, ⟨cs.take q, ?_, ?_, fun i hi => ?_⟩⟩, .inl h.sr, ?_, ?_, h.fews _ (List.getElem_mem hq), fun M hM => h.fews M (List.mem_of_mem_take hM), ?_⟩, ⟨?_, ?_⟩, ?_⟩
  · have f1 := heap_setCell_same w2 r 0 _ 92 u hr2
    rw [heap_setCell_same _ r 1 _ 92 _ f1]
    rfl
  · exact (hF.lss (S := fun k => S k ∨ (w.heap.size ≤ k ∧ k < w2.heap.size)) (fun k a b => .inr ⟨a, b⟩)).keepT fun k cur t _ ht hc => hK k cur t trivial ht hc
  · rw [List.length_take, Nat.min_eq_left (by omega)]
    refine own_keep (own_take m1 (by omega)) fun g' hg' => ?_
    have e : g = g' := by injection hg'
    subst e
    obtain ⟨cur, hc⟩ := own_type m1 (g := g) rfl
    have h2 := (hb.block g (h.lt g (m2 g rfl))).trans hc
    rw [oth g (type_ne h2 hr2 (by decide)), h2, hc]
  · intro g' hg'
    exact .inl (m2 g' hg')
  · rw [List.length_take] at hi
    obtain ⟨x, hx, hl, _⟩ := m3 i (by omega)
    refine ⟨x, by rw [List.getElem?_take, if_pos (by omega)]; exact hx, ?_, fun g' hg' e => ?_⟩
    · rw [List.getElem_take]
      exact (hl.keepT hKS).more sub
    · have a1 := (hF.lo hg').1
      obtain ⟨_, _, d2, _⟩ := hl
      have a2 := h.lt g' (d2 g' e)
      omega
  · rintro k (e | e)
    · exact h.lo k e
    · omega
  · rintro k (e | e)
    · rw [hsz]; have := h.lt k e; have := hb.size; omega
    · rw [hsz]; exact e.2
  · rw [List.length_take]; have := h.ms; omega
  · exact ((hb.mono hBw).setCell (h.lo r h.sr) _).setCell (h.lo r h.sr) _
  · exact ((Off.of_below hb).trans (Off.set _ h.sr)).trans (Off.set _ h.sr)
  · rintro k (e | e)
    · exact .inl e
    · exact .inr (by rw [hsz]; exact e)
def RbOut (B : Nat) (S : Nat → Prop) (r : Nat) (LL : List (List Int)) (MM : List (List (List Int))) (k : Int) (w : World) (e : Ending) (w' : World) : Prop := e = .returned (.bool (backL MM k)) ∧ ∃ S', RsAt B S' w' r (if backL MM k then MM.getD k.toNat [] else LL) (if backL MM k then MM.take k.toNat else MM) ∧ SStp B S w w' ∧ Grown S w w' S'

set_option maxRecDepth 10000 in
set_option maxHeartbeats 1000000 in
theorem rBack_any {B : Nat} {S : Nat → Prop} {r : Nat} {LL : List (List Int)} {MM : List (List (List Int))} (k : Int) (w : World) (h : RsAt B S w r LL MM) : Calls Tryz.prog 35 #[.pointer (some ⟨r, 0, none⟩), .int .i64 k] w (RbOut B S r LL MM k w) := by
  have hBw : B ≤ w.heap.size := Nat.le_of_lt (Nat.lt_of_le_of_lt (h.lo r h.sr) (h.lt r h.sr))
  obtain ⟨dv, mv, ho, hd, hmk⟩ := h.ex
  have c1 : w.cell? ⟨r, 1, none⟩ = some mv := cell_of ho 1
  have HA : Hid (RsAt B S w r LL MM) := h
  obtain ⟨ma, mc, rfl⟩ : ∃ a c, mv = .slice a MM.length c := by obtain ⟨_, d1, _⟩ := hmk; exact own_slice d1
  by_cases h0 : 0 ≤ k
  · by_cases h1 : k < (MM.length : Int)
    · obtain ⟨q, rfl, hq⟩ : ∃ q : Nat, k = (q : Int) ∧ q < MM.length := ⟨k.toNat, by omega, by omega⟩
      have hbk : backL MM (q : Int) = true := by simp [backL]; omega
      have HE : Hid (∀ w2 u, Below w.heap.size w w2 → FrR w.heap.size w2 u MM[q] → ∃ S', RsAt B S' ((w2.setCell ⟨r, 0, none⟩ u).setCell ⟨r, 1, none⟩ (.slice ma q mc)) r MM[q] (MM.take q) ∧ SStp B S w ((w2.setCell ⟨r, 0, none⟩ u).setCell ⟨r, 1, none⟩ (.slice ma q mc)) ∧ Grown S w ((w2.setCell ⟨r, 0, none⟩ u).setCell ⟨r, 1, none⟩ (.slice ma q mc)) S') := fun w2 u a1 a2 => rs_back h ho hmk hq a1 a2
      obtain ⟨cs, m1, m2, m3⟩ := hmk
      obtain ⟨x, hx, hl, _⟩ := m3 q hq
      have HOw : Hid (Calls Tryz.prog 80 #[x] w (OwOut MM[q] w)) := own_any w hl h.lt (h.fews _ (List.getElem_mem hq))
      obtain ⟨g, rfl, c2, hcap⟩ : ∃ g, ma = some ⟨g, 0, none⟩ ∧ w.cell? ⟨g, q, none⟩ = some x ∧ MM.length ≤ mc := by
        rcases own_cells m1 with ⟨e, e2⟩ | ⟨g, cap, e, _, _, e4, hc⟩
        · omega
        · injection e with e _ e3
          exact ⟨g, e, hc q x hx, by omega⟩
      have hqI : (q : Int) < (MM.length : Int) := by omega
      have hms := h.ms
      obtain ⟨M, hMM⟩ : ∃ M, MM[q] = M := ⟨_, rfl⟩
      have HD : Hid (MM.getD q [] = M) := by show _ = _; rw [List.getD_eq_getElem?_getD, List.getElem?_eq_getElem hq, hMM]; rfl
      rw [hMM] at HOw
      simp only [hMM] at HE
      obtain ⟨xa, xc, rfl⟩ : ∃ a c, x = .slice a MM[q].length c := by obtain ⟨_, d1, _⟩ := hl; exact own_slice d1
      have HR : Hid (w.heap[r]? = some (.cells #[dv, .slice (some ⟨g, 0, none⟩) MM.length mc] 92 (0, 0)) ∧ r < w.heap.size) := ⟨ho, h.lt r h.sr⟩
      have hcapI : (q : Int) ≤ (mc : Int) := by omega
      rw [hMM] at HOw c2
      clear h ho hd m1 m2 m3 hx hl hMM
      go_enter Tryz.func35, Tryz.ntmps35
      go_wp2_with fail
      refine calls_at HOw.out (by with_reducible rfl) (by with_reducible rfl) ?_
      rintro e w2 ⟨u, rfl, hF, hb⟩
      obtain ⟨ua, uc, rfl⟩ : ∃ a c, u = .slice a M.length c := by obtain ⟨_, d1, _⟩ := hF; exact own_slice d1
      have g2 : w2.heap[r]? = some (.cells #[dv, .slice (some ⟨g, 0, none⟩) MM.length mc] 92 (0, 0)) := (hb.block r HR.out.2).trans HR.out.1
      have g3 := heap_setCell_same w2 r 0 _ 92 (.slice ua M.length uc) g2
      have HEd := HE.out w2 _ hb hF
      have HEx : Hid (∃ S', RsAt B S' ((w2.setCell ⟨r, 0, none⟩ (.slice ua M.length uc)).setCell ⟨r, 1, none⟩ (.slice (some ⟨g, 0, none⟩) q mc)) r M (MM.take q) ∧ SStp B S w ((w2.setCell ⟨r, 0, none⟩ (.slice ua M.length uc)).setCell ⟨r, 1, none⟩ (.slice (some ⟨g, 0, none⟩) q mc)) ∧ Grown S w ((w2.setCell ⟨r, 0, none⟩ (.slice ua M.length uc)).setCell ⟨r, 1, none⟩ (.slice (some ⟨g, 0, none⟩) q mc)) S') := HEd
      have d0 : w2.cell? ⟨r, 0, none⟩ = some dv := cell_of g2 0
      have d1 : w2.cell? ⟨r, 1, none⟩ = some (.slice (some ⟨g, 0, none⟩) MM.length mc) := cell_of g2 1
      have dz : ∀ i, w2.frozen? ⟨r, i, none⟩ = false := frozen_of g2
      obtain ⟨X, hX⟩ : ∃ X, w2.setCell ⟨r, 0, none⟩ (.slice ua M.length uc) = X := ⟨_, rfl⟩
      rw [hX] at g3 HEx
      have x0 : X.cell? ⟨r, 0, none⟩ = some (.slice ua M.length uc) := (cell_of g3 0).trans rfl
      have x1 : X.cell? ⟨r, 1, none⟩ = some (.slice (some ⟨g, 0, none⟩) MM.length mc) := (cell_of g3 1).trans rfl
      have xz : ∀ i, X.frozen? ⟨r, i, none⟩ = false := frozen_of g3
      clear hF hb g2 g3 HEd
      go_wp2_with fail
      go_ret
      obtain ⟨S', q1, q2, q3⟩ := HEx.out
      refine ⟨ret_bool hbk.symm, S', ?_, q2, q3⟩
      rw [hbk, if_pos rfl, if_pos rfl, Int.toNat_natCast, HD.out]
      exact q1
    · have hbk : backL MM k = false := by simp [backL, h1]
      have h1' : (MM.length : Int) ≤ k := by omega
      clear h ho hd hmk
      go_enter Tryz.func35, Tryz.ntmps35
      go_wp2_with fail
      go_ret
      exact ⟨ret_bool hbk.symm, S, by rw [hbk]; exact HA.out, SStp.refl _ _ _, Grown.refl _ _ _⟩
  · have hbk : backL MM k = false := by simp [backL, h0]
    have h0' : k < 0 := by omega
    clear h ho hd hmk
    go_enter Tryz.func35, Tryz.ntmps35
    go_wp2_with fail
    go_ret
    exact ⟨ret_bool hbk.symm, S, by rw [hbk]; exact HA.out, SStp.refl _ _ _, Grown.refl _ _ _⟩
end Go.Proofs.YtchpapppkmnfnaaGreatDoor

namespace Go.Proofs.YtchpapppkmnfnaaGreatDoor
open Go.RowKit

theorem all_bits {d : Dm} (h : d.Ok) (ha : d.Any) : d.all = ((List.range 64).filter (bt d.a d.b)).map fun k : Nat => d.f + (k : Int) := by
  have hf := fine_of h ha
  refine up_ext hf.up ?_ fun v => ?_
  · rw [List.pairwise_map]
    exact ((List.pairwise_lt_range (n := 64)).filter _).imp fun hlt => by omega
  · rw [hf.all, Dm.has_is h, List.mem_map]
    constructor
    · rintro ⟨k, hk, rfl, hb⟩
      exact ⟨k, List.mem_filter.2 ⟨List.mem_range.2 hk, hb⟩, rfl⟩
    · rintro ⟨k, hk, rfl⟩
      obtain ⟨h1, h2⟩ := List.mem_filter.1 hk
      exact ⟨k, List.mem_range.1 h1, rfl, h2⟩
theorem all_len {d : Dm} (h : d.Ok) (ha : d.Any) : (d.all.length : Int) = d.size := by
  rw [all_bits h ha, List.length_map, ← List.countP_eq_length_filter]
  exact (bSize_is h.a h.b).symm
theorem all_len64 {d : Dm} (h : d.Ok) (ha : d.Any) : d.all.length ≤ 64 := by
  rw [all_bits h ha, List.length_map]
  exact Nat.le_trans (List.length_filter_le _ _) (by simp)
theorem all_pos {d : Dm} (h : d.Ok) (ha : d.Any) : 0 < d.all.length := List.length_pos_iff.2 (all_ne (fine_of h ha))
theorem up_first : ∀ {L : List Int} (h : 0 < L.length) {x : Int}, L.Pairwise (· < ·) → x ∈ L → (∀ v ∈ L, x ≤ v) → L[0] = x
  | l :: L, _, x, hu, hx, hm => by
    rcases List.mem_cons.1 hx with e | e
    · exact e.symm
    · have h1 := (List.pairwise_cons.1 hu).1 x e
      have h2 := hm l (by simp)
      omega
theorem up_last {L : List Int} (h : 0 < L.length) {x : Int} (hu : L.Pairwise (· < ·)) (hx : x ∈ L) (hm : ∀ v ∈ L, v ≤ x) : L[L.length - 1] = x := by
  obtain ⟨i, hi, rfl⟩ := List.mem_iff_getElem.1 hx
  have h1 := hm L[L.length - 1] (List.getElem_mem _)
  by_cases e : i = L.length - 1
  · simp [e]
  · have := List.pairwise_iff_getElem.1 hu i (L.length - 1) hi (by omega) (by omega)
    omega
theorem all_first {d : Dm} (h : d.Ok) (ha : d.Any) : d.all[0]'(all_pos h ha) = d.lo := by
  have hf := fine_of h ha
  exact up_first _ hf.up ((hf.all _).2 hf.loIn) fun v hv => hf.least v ((hf.all v).1 hv)
theorem all_last {d : Dm} (h : d.Ok) (ha : d.Any) : d.all[d.all.length - 1]'(by have := all_pos h ha; omega) = d.hi := by
  have hf := fine_of h ha
  exact up_last (all_pos h ha) hf.up ((hf.all _).2 hf.hiIn) fun v hv => hf.most v ((hf.all v).1 hv)
theorem all_has {d : Dm} (h : d.Ok) (ha : d.Any) (v : Int) : d.has v = d.all.any (fun u => u == v) := by
  have hf := fine_of h ha
  cases hh : d.has v with
  | true =>
    symm
    rw [List.any_eq_true]
    exact ⟨v, (hf.all v).2 hh, by simp⟩
  | false =>
    symm
    rw [List.any_eq_false]
    intro u hu e
    have : u = v := by simpa using e
    subst this
    rw [(hf.all u).1 hu] at hh
    cases hh

/-- Marks. -/
theorem mks_mark {s : St} (hl : s.noted.length = s.marks * s.now.length) : mksOf s.mark = mksOf s ++ [s.now.map Dm.all] := by
  unfold mksOf St.mark
  simp only
  rw [List.range_succ, List.map_append]
  congr 1
  · refine List.map_congr_left fun i hi => ?_
    have hi := List.mem_range.1 hi
    have : (i + 1) * s.now.length ≤ s.marks * s.now.length := Nat.mul_le_mul_right _ hi
    rw [Nat.succ_mul] at this
    rw [List.drop_append_of_le_length (by omega), List.take_append_of_le_length (by rw [List.length_drop]; omega)]
  · simp only [List.map_cons, List.map_nil]
    rw [List.drop_append, List.drop_eq_nil_of_le (by omega), hl]
    simp
theorem mks_back {s : St} {k : Int} (hl : s.noted.length = s.marks * s.now.length) (hk : s.backB k = true) : mksOf (s.back k) = (mksOf s).take k.toNat ∧ ∃ h : k.toNat < (mksOf s).length, (s.back k).now.map Dm.all = (mksOf s)[k.toNat] := by
  have hk2 : 0 ≤ k ∧ k < (s.marks : Int) := by
    unfold St.backB at hk
    simpa using hk
  have hkm : k.toNat < s.marks := by omega
  have h1 : (k.toNat + 1) * s.now.length ≤ s.marks * s.now.length := Nat.mul_le_mul_right _ hkm
  rw [Nat.succ_mul] at h1
  have hn : ((s.noted.drop (k.toNat * s.now.length)).take s.now.length).length = s.now.length := by
    rw [List.length_take, List.length_drop]; omega
  unfold St.back
  rw [if_pos hk]
  refine ⟨?_, by simp [mksOf]; omega, by simp [mksOf]⟩
  unfold mksOf
  simp only [hn]
  rw [← List.map_take]
  have hr : (List.range s.marks).take k.toNat = List.range k.toNat := by
    rw [List.take_range]; congr 1; omega
  rw [hr]
  refine List.map_congr_left fun i hi => ?_
  have hi := List.mem_range.1 hi
  have h2 : (i + 1) * s.now.length ≤ k.toNat * s.now.length := Nat.mul_le_mul_right _ hi
  rw [Nat.succ_mul] at h2
  rw [List.drop_take, List.take_take]
  congr 2
  omega
end Go.Proofs.YtchpapppkmnfnaaGreatDoor
