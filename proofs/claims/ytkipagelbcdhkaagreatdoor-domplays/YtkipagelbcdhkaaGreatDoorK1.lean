/-
  Put together: DrOwn, DrMark, DrBack, DrCopy.
-/
import Derived.Test.YtkipagelbcdhkaaGreatDoorDrReads
import Derived.Test.YtkipagelbcdhkaaGreatDoorDrNew
import Derived.Test.YtkipagelbcdhkaaGreatDoorMdRegU
namespace Go.Proofs.YtkipagelbcdhkaaGreatDoor
open Go.RowKit

/-- Lists in blocks that are n or more. -/
def FrR (n : Nat) (w : World) (u : Value) (LL : List (List Int)) : Prop := ∃ cs, w.ownsRow n 53 1 u LL.length cs ∧ ∀ i (h : i < LL.length), ∃ x, cs[i]? = some x ∧ w.ownsRow n 3 1 x LL[i].length (LL[i].map (.int .i64))
theorem FrR.below {n : Nat} {w w' : World} {u : Value} {LL : List (List Int)} (h : FrR n w u LL) (hb : Below w.heap.size w w') : FrR n w' u LL := by
  obtain ⟨cs, h2, h3⟩ := h
  refine ⟨cs, own_belowR h2 hb, fun i hi => ?_⟩
  obtain ⟨x, hx, hl⟩ := h3 i hi
  exact ⟨x, hx, own_belowR hl hb⟩
theorem FrR.nil (n : Nat) (w : World) : FrR n w (.slice none 0 0) [] := ⟨[], World.ownsRow_nil _ _ _ _, fun _ hi => absurd hi (Nat.not_lt_zero _)⟩
theorem FrR.lss {n : Nat} {S : Nat → Prop} {w : World} {u : Value} {LL : List (List Int)} (h : FrR n w u LL) (hS : ∀ k, n ≤ k → k < w.heap.size → S k) : LssR S w u LL := by
  obtain ⟨cs, h2, h3⟩ := h
  refine ⟨cs, own_lessR h2 (Nat.zero_le _), fun g hg => hS g (h2.lt g hg).1 (h2.lt g hg).2, fun i hi => ?_⟩
  obtain ⟨x, hx, hl⟩ := h3 i hi
  exact ⟨x, hx, own_lessR hl (Nat.zero_le _), fun g hg => hS g (hl.lt g hg).1 (hl.lt g hg).2⟩
theorem FrR.lo {n : Nat} {w : World} {u : Value} {LL : List (List Int)} (h : FrR n w u LL) {g : Nat} (hg : u.ownBlock = some g) : n ≤ g ∧ g < w.heap.size := by
  obtain ⟨cs, h2, _⟩ := h
  exact h2.lt g hg
theorem FrR.next {n : Nat} {w w' : World} {LL : List (List Int)} {ov u v' : Value} {L : List Int} {cs : List Value} (h2 : w.ownsRow n 53 1 ov LL.length cs) (h3 : ∀ i (h : i < LL.length), ∃ x, cs[i]? = some x ∧ w.ownsRow n 3 1 x LL[i].length (LL[i].map (.int .i64)))
    (hu : w.ownsRow n 3 1 u L.length (L.map (.int .i64))) (ho : w'.ownsRow n 53 1 v' (LL.length + 1) (cs ++ [u])) (hg : (w.alloc (.cells #[u] 53)).grownBy w' ov.ownBlock) : FrR n w' v' (LL ++ [L]) := by
  have hcl : cs.length = LL.length := by have := h2.1; omega
  have row : ∀ {v : Value} {m : Nat} {xs : List Value}, w.ownsRow n 3 1 v m xs → w'.ownsRow n 3 1 v m xs := fun {v m xs} hv => by
    refine own_keep hv fun g hgv => ?_
    obtain ⟨cur, hcur⟩ := own_type hv hgv
    have hlt := (Array.getElem?_eq_some_iff.1 hcur).1
    rw [hg.block g (by simp; omega) (fun e => ?_), heap_alloc_old w _ hlt]
    obtain ⟨cur', hcur'⟩ := own_type h2 e.symm
    rw [hcur] at hcur'
    injection hcur' with hcur'
    injection hcur' with _ e2 _
    cases e2
  refine ⟨cs ++ [u], by rw [List.length_append]; exact ho, fun i hi => ?_⟩
  rw [List.length_append, List.length_singleton] at hi
  by_cases hil : i < LL.length
  · obtain ⟨x, hx, hl⟩ := h3 i hil
    refine ⟨x, by rw [List.getElem?_append_left (by omega)]; exact hx, ?_⟩
    rw [List.getElem_append_left hil]
    exact row hl
  · have : i = LL.length := by omega
    subst this
    refine ⟨u, by rw [List.getElem?_append_right (by omega), hcl]; simp, ?_⟩
    rw [List.getElem_append_right (Nat.le_refl _)]
    simp only [Nat.sub_self, List.getElem_singleton]
    exact row hu
def OwOut (LL : List (List Int)) (w : World) (e : Ending) (w' : World) : Prop := ∃ u, e = .returned u ∧ FrR w.heap.size w' u LL ∧ Below w.heap.size w w'

set_option maxRecDepth 10000 in
set_option maxHeartbeats 1000000 in
theorem own_any {S : Nat → Prop} {v : Value} {LL : List (List Int)} (w : World) (h : LssR S w v LL) (hS : ∀ k, S k → k < w.heap.size) (hf : Few LL) : Calls Tryz.prog 54 #[v] w (OwOut LL w) := by
  obtain ⟨a, cap, rfl, hr⟩ := h.form
  have HR : Hid (∀ w', Below w.heap.size w w' → ∀ j (hj : j < LL.length), ∃ g u, a = some ⟨g, 0, none⟩ ∧ w'.cell? ⟨g, j, none⟩ = some u ∧ LsR S w' u LL[j]) := fun w' hb j hj => by
    obtain ⟨g, u, e, h1, h2, h3, _⟩ := hr j hj
    exact ⟨g, u, e, (hb.cell (p := ⟨g, j, none⟩) (hS g h1)).trans h2, h3.keep fun k hk => hb.block k (hS k hk)⟩
  have hn := hf.n
  have HLn : Hid (∀ j (hj : j < LL.length), LL[j].length ≤ 64) := fun j hj => hf.ls _ (List.getElem_mem hj)
  have HNil : Hid (∀ (w : World) (B : Nat) (e : TypeId) (s : Nat), w.ownsRow B e s (.slice none 0 0) 0 []) := fun w B e s => World.ownsRow_nil w B e s
  clear h hr hS hf
  go_enter Tryz.func54, Tryz.ntmps54
  go_wp2_with fail
  go_loopw [3, 4] (fun oq iv wr => ∃ (k : Nat) (ov : Value), oq = ov ∧ iv = .int .i64 (k : Int) ∧ k ≤ LL.length ∧ Hid (FrR w.heap.size wr ov (LL.take k)) ∧ Hid (Below w.heap.size w wr)) (fun _ iv _ => LL.length - (intOf iv).toNat)
  case atStart => exact ⟨0, _, rfl, rfl, Nat.zero_le _, FrR.nil _ _, Below.refl _ _⟩
  case round =>
    obtain ⟨k, _, rfl, rfl, hk, HF, HBr⟩ := hrel
    by_cases hkn : k < LL.length
    · have hkI : (k : Int) < (LL.length : Int) := by omega
      obtain ⟨g, u, rfl, c0, hl⟩ := HR.out wr HBr.out k hkn
      have hl64 := HLn.out k hkn
      have HTk : Hid (LL.take (k + 1) = LL.take k ++ [LL[k]]) := List.take_succ_eq_append_getElem hkn
      have HSr := ls_src hl
      obtain ⟨la, lc, rfl, _⟩ := hl.form
      obtain ⟨L, hLL⟩ : ∃ L, LL[k] = L := ⟨_, rfl⟩
      rw [hLL] at hl64 HTk HSr c0
      have HSrc : Hid (SrcAt wr (.slice la L.length lc) L.length 1 (L.map (.int .i64))) := HSr
      have HKl : Hid ((LL.take k).length = k) := by show _ = _; rw [List.length_take]; omega
      clear HSr hl hLL
      go_wp2_with (first
        | (at_builtin; refine append_src wr rfl (.const (.slice none 0 0)) (.tmp 15) 53 3 (.int .i64 0) 1 8 rfl un53 inf3 rfl (by decide) wr.heap.size _ _ 0 L.length [] _ (by rfl) (by rfl) (HNil.out _ _ _ _) HSrc.out (by unfold maxLen; omega) (by omega) (Nat.le_refl _) ?_; intro v2 w2 ho2 hg2 hn2; rw [Nat.zero_add, List.nil_append] at ho2; obtain ⟨a2, c2, rfl⟩ := own_slice ho2; (have hbx : Below wr.heap.size wr w2 := (Below.refl _ _).grown hg2 (Nat.le_refl _) (fun g hg => by cases hg)); (have HB2 : Hid (Below w.heap.size w w2) := HBr.out.trans (hbx.mono HBr.out.size)); (have HU2 : Hid (w2.ownsRow w.heap.size 3 1 (.slice a2 L.length c2) L.length (L.map (.int .i64))) := own_lessR ho2 HBr.out.size); obtain ⟨cs, k2, k3⟩ := HF.out.below hbx; (have HK : Hid (w2.ownsRow w.heap.size 53 1 u3 (LL.take k).length cs ∧ ∀ i (h : i < (LL.take k).length), ∃ x, cs[i]? = some x ∧ w2.ownsRow w.heap.size 3 1 x (LL.take k)[i].length ((LL.take k)[i].map (.int .i64))) := ⟨k2, k3⟩); clear ho2 hg2 hn2 hbx k2 k3)
        | (at_builtin; refine append_one w2 (.slice a2 L.length c2) rfl _ _ 63 53 (.slice none 0 0) 24 rfl un63 inf53 rfl w.heap.size _ _ _ (by rfl) HK.out.1 rfl _ rfl (by rfl) (by rw [HKl.out]; unfold maxLen; omega) (by rw [HKl.out]; omega) HB2.out.size ?_; intro v6 w6 ho6 hg6 hn6; (have HF6 : Hid (FrR w.heap.size w6 v6 (LL.take k ++ [L])) := FrR.next HK.out.1 HK.out.2 HU2.out ho6 hg6); (have HB6 : Hid (Below w.heap.size w w6) := (HB2.out.alloc HB2.out.size _).grown hg6 (Nat.le_trans HB2.out.size (by simp)) (fun g hg => (HK.out.1.lt g hg).1)); clear ho6 hg6 hn6))
      go_roundw
      case rel => exact ⟨k + 1, v6, rfl, by go_num, hkn, by rw [HTk.out]; exact HF6, HB6⟩
      case measure => simp [intOf]; omega
    · have hke : k = LL.length := by omega
      subst hke
      have hkI : ¬ (LL.length : Int) < (LL.length : Int) := by omega
      rw [List.take_length] at HF
      go_wp2_with fail
      go_ret
      exact ⟨_, rfl, HF.out, HBr.out⟩
end Go.Proofs.YtkipagelbcdhkaaGreatDoor

namespace Go.Proofs.YtkipagelbcdhkaaGreatDoor
open Go.RowKit

/-- Lists stay, where blocks of their types stay. -/
def Keeps (S : Nat → Prop) (w w' : World) : Prop := ∀ k cur t, S k → (t = 53 ∨ t = 3) → w.heap[k]? = some (.cells cur t (0, 0)) → w'.heap[k]? = some (.cells cur t (0, 0))
theorem own_keeps {S : Nat → Prop} {w w' : World} {B : Nat} {e : TypeId} {size : Nat} {v : Value} {n : Nat} {xs : List Value} (h : w.ownsRow B e size v n xs) (hS : ∀ g, v.ownBlock = some g → S g) (he : e = 53 ∨ e = 3) (hk : Keeps S w w') : w'.ownsRow B e size v n xs :=
  own_keep h fun g hg => by
    obtain ⟨cur, hc⟩ := own_type h hg
    rw [hk g cur e (hS g hg) he hc, hc]
theorem LssR.keepT {S : Nat → Prop} {w w' : World} {v : Value} {LL : List (List Int)} (h : LssR S w v LL) (hk : Keeps S w w') : LssR S w' v LL := by
  obtain ⟨cs, h1, h2, h3⟩ := h
  refine ⟨cs, own_keeps h1 h2 (.inl rfl) hk, h2, fun i hi => ?_⟩
  obtain ⟨u, hu, hl⟩ := h3 i hi
  exact ⟨u, hu, own_keeps hl.1 hl.2 (.inr rfl) hk, hl.2⟩
theorem type_ne {w : World} {k g : Nat} {c d : Array Value} {s t : TypeId} (h1 : w.heap[k]? = some (.cells c s (0, 0))) (h2 : w.heap[g]? = some (.cells d t (0, 0))) (h : s ≠ t) : k ≠ g := fun e => by
  rw [e, h2] at h1
  injection h1 with h1
  injection h1 with _ e2 _
  exact h e2.symm
theorem rs_mark {B : Nat} {S : Nat → Prop} {w w2 w6 : World} {r : Nat} {LL NN : List (List Int)} {MM : List (List (List Int))} {dv mv u v6 : Value} {cs : List Value} (h : RsAt B S w r LL MM) (ho : w.heap[r]? = some (.cells #[dv, mv] 66 (0, 0))) (hd : LssR S w dv LL)
    (m1 : w.ownsRow 0 63 1 mv MM.length cs) (m2 : ∀ g, mv.ownBlock = some g → S g) (m3 : ∀ i (h : i < MM.length), ∃ x, cs[i]? = some x ∧ LssR S w x MM[i] ∧ ∀ g, dv.ownBlock = some g → x.ownBlock ≠ some g)
    (hb : Below w.heap.size w w2) (hN : Few NN) (hF : FrR w.heap.size w2 u NN) (ho6 : w6.ownsRow 0 63 1 v6 (MM.length + 1) (cs ++ [u])) (hg : (w2.alloc (.cells #[u] 63)).grownBy w6 mv.ownBlock) (hv6 : mv.ownBlock = v6.ownBlock ∨ ∃ g, v6.ownBlock = some g ∧ w2.heap.size ≤ g) (hm : MM.length + 1 ≤ 10000) :
    (∃ S', RsAt B S' (w6.setCell ⟨r, 1, none⟩ v6) r LL (MM ++ [NN]) ∧ SStp B S w (w6.setCell ⟨r, 1, none⟩ v6) ∧ Grown S w (w6.setCell ⟨r, 1, none⟩ v6) S') ∧ w6.heap[r]? = some (.cells #[dv, mv] 66 (0, 0)) := by
  have hBw : B ≤ w.heap.size := Nat.le_of_lt (Nat.lt_of_le_of_lt (h.lo r h.sr) (h.lt r h.sr))
  have hs6 : w2.heap.size + 1 ≤ w6.heap.size := by have := hg.size; simpa using this
  have hmr : ∀ g, mv.ownBlock = some g → g ≠ r := fun g hg' => by
    obtain ⟨cur, hc⟩ := own_type m1 hg'
    exact type_ne hc ho (by decide)
  have far : ∀ k, k < w2.heap.size → mv.ownBlock ≠ some k → w6.heap[k]? = w2.heap[k]? := fun k hk hn => by
    rw [hg.block k (by simp; omega) (fun e => hn e.symm), heap_alloc_old w2 _ hk]
  have hr6 : w6.heap[r]? = some (.cells #[dv, mv] 66 (0, 0)) := by
    rw [far r (Nat.lt_of_lt_of_le (h.lt r h.sr) hb.size) (fun e => hmr r e rfl), hb.block r (h.lt r h.sr), ho]
  have hsz : (w6.setCell ⟨r, 1, none⟩ v6).heap.size = w6.heap.size := by simp
  have hK : Keeps (fun _ => True) w2 (w6.setCell ⟨r, 1, none⟩ v6) := fun k cur t _ ht hc => by
    have hkl := (Array.getElem?_eq_some_iff.1 hc).1
    have h1 : mv.ownBlock ≠ some k := fun e => by
      obtain ⟨cur', hc'⟩ := own_type (own_keep m1 (w' := w2) fun g hg' => hb.block g (h.lt g (m2 g hg'))) e
      refine type_ne hc hc' ?_ rfl
      rcases ht with rfl | rfl <;> decide
    have h2 : w6.heap[k]? = some (.cells cur t (0, 0)) := (far k hkl h1).trans hc
    rw [heap_setCell_other _ _ _ _ (type_ne h2 hr6 (by rcases ht with rfl | rfl <;> decide)), h2]
  have hKS : Keeps S w (w6.setCell ⟨r, 1, none⟩ v6) := fun k cur t hS ht hc => hK k cur t trivial ht ((hb.block k (h.lt k hS)).trans hc)
  have hcl : cs.length = MM.length := by have := m1.1; omega
  have sub : ∀ k, S k → S k ∨ (w.heap.size ≤ k ∧ k < w6.heap.size) := fun k hk => .inl hk
  have hul : ∀ g, u.ownBlock = some g → w.heap.size ≤ g ∧ g < w2.heap.size := fun g hg' => hF.lo hg'
  have hnew : LssR (fun k => S k ∨ (w.heap.size ≤ k ∧ k < w6.heap.size)) (w6.setCell ⟨r, 1, none⟩ v6) u NN :=
    (hF.lss (S := fun k => S k ∨ (w.heap.size ≤ k ∧ k < w6.heap.size)) (fun k a b => .inr ⟨a, by omega⟩)).keepT fun k cur t _ ht hc => hK k cur t trivial ht hc
  refine ⟨⟨fun k => S k ∨ (w.heap.size ≤ k ∧ k < w6.heap.size), ⟨⟨dv, v6, ?_, (hd.keepT hKS).more sub, ⟨cs ++ [u], ?_, ?_, fun i hi => ?_⟩⟩, .inl h.sr, ?_, ?_, h.few, ?_, by rw [List.length_append]; exact hm⟩, ⟨?_, ?_⟩, ?_⟩, hr6⟩
  · rw [heap_setCell_same _ _ _ _ _ _ hr6]
    rfl
  · rw [List.length_append]
    refine own_keep ho6 fun g hg' => heap_setCell_other _ _ _ _ ?_
    obtain ⟨cur, hc⟩ := own_type ho6 hg'
    exact type_ne hc hr6 (by decide)
  · intro g hg'
    rcases hv6 with e | ⟨g', e, e2⟩
    · exact .inl (m2 g (e.trans hg'))
    · rw [e] at hg'
      injection hg' with hg'
      subst hg'
      exact .inr ⟨Nat.le_trans hb.size e2, (ho6.lt _ e).2⟩
  · rw [List.length_append, List.length_singleton] at hi
    by_cases hil : i < MM.length
    · obtain ⟨x, hx, hl, ha⟩ := m3 i hil
      refine ⟨x, by rw [List.getElem?_append_left (by omega)]; exact hx, ?_, ha⟩
      rw [List.getElem_append_left hil]
      exact (hl.keepT hKS).more sub
    · have : i = MM.length := by omega
      subst this
      refine ⟨u, by rw [List.getElem?_append_right (by omega), hcl]; simp, ?_, fun g hg' e => ?_⟩
      · rw [List.getElem_append_right (Nat.le_refl _)]
        simp only [Nat.sub_self, List.getElem_singleton]
        exact hnew
      · obtain ⟨_, _, d2, _⟩ := hd
        have a1 := h.lt g (d2 g hg')
        have a2 := hul g e
        omega
  · rintro k (e | e)
    · exact h.lo k e
    · omega
  · rintro k (e | e)
    · rw [hsz]; have := h.lt k e; have := hb.size; omega
    · rw [hsz]; exact e.2
  · intro M hM
    rcases List.mem_append.1 hM with hM | hM
    · exact h.fews M hM
    · rw [List.mem_singleton.1 hM]; exact hN
  · exact (((hb.mono hBw).alloc (Nat.le_trans hBw hb.size) _).grown hg (by simp; have := hb.size; omega) (fun g hg' => h.lo g (m2 g hg'))).setCell (h.lo r h.sr) _
  · exact ((Off.of_below hb).trans ((Off.of_below ((Below.refl _ _).alloc (Nat.le_refl _) _)).trans (Off.grown hg fun g hg' => m2 g hg'))).trans (Off.set _ h.sr)
  · rintro k (e | e)
    · exact .inl e
    · exact .inr (by rw [hsz]; exact e)
def RmOut (B : Nat) (S : Nat → Prop) (r : Nat) (LL : List (List Int)) (MM : List (List (List Int))) (w : World) (e : Ending) (w' : World) : Prop := e = .returned (.int .i64 (MM.length : Int)) ∧ ∃ S', RsAt B S' w' r LL (MM ++ [LL]) ∧ SStp B S w w' ∧ Grown S w w' S'

theorem src_1 {w : World} {b : Nat} {u : Value} {t : TypeId} (h : w.heap[b]? = some (.cells #[u] t (0, 0))) (h1 : u.oneCell' = true) : SrcAt w (.slice (some ⟨b, 0, none⟩) 1 1) 1 1 [u] :=
  ⟨_, _, rfl, rfl, (fun v hv => by rw [List.mem_singleton.1 hv]; exact h1), (fun e => by cases e), fun ad e j v hj => by
    injection e with e
    subst e
    exact World.news_of_block h j v hj⟩
set_option maxRecDepth 10000 in
set_option maxHeartbeats 1000000 in
theorem rMark_any {B : Nat} {S : Nat → Prop} {r : Nat} {LL : List (List Int)} {MM : List (List (List Int))} (w : World) (h : RsAt B S w r LL MM) (hm : MM.length + 1 ≤ 10000) : Calls Tryz.prog 36 #[.pointer (some ⟨r, 0, none⟩)] w (RmOut B S r LL MM w) := by
  obtain ⟨dv, mv, ho, hd, cs, m1, m2, m3⟩ := h.ex
  have HOw : Hid (∀ w', Below w.heap.size w w' → Calls Tryz.prog 54 #[dv] w' (OwOut LL w')) := fun w' hb => own_any w' (hd.keep fun k hk => hb.block k (h.lt k hk)) (fun k hk => Nat.lt_of_lt_of_le (h.lt k hk) hb.size) h.few
  have HC : Hid (∀ w', Below w.heap.size w w' → w'.cell? ⟨r, 0, none⟩ = some dv ∧ w'.cell? ⟨r, 1, none⟩ = some mv ∧ w'.ownsRow 0 63 1 mv MM.length cs) := fun w' hb => by
    have f := (hb.block r (h.lt r h.sr)).trans ho
    exact ⟨cell_of f 0, cell_of f 1, own_keep m1 fun g hg => hb.block g (h.lt g (m2 g hg))⟩
  have HE : Hid (∀ (w2 w6 : World) (u v6 : Value), Below w.heap.size w w2 → FrR w.heap.size w2 u LL → w6.ownsRow 0 63 1 v6 (MM.length + 1) (cs ++ [u]) → (w2.alloc (.cells #[u] 63)).grownBy w6 mv.ownBlock → (mv.ownBlock = v6.ownBlock ∨ ∃ g, v6.ownBlock = some g ∧ w2.heap.size ≤ g) → (∃ S', RsAt B S' (w6.setCell ⟨r, 1, none⟩ v6) r LL (MM ++ [LL]) ∧ SStp B S w (w6.setCell ⟨r, 1, none⟩ v6) ∧ Grown S w (w6.setCell ⟨r, 1, none⟩ v6) S') ∧ w6.heap[r]? = some (.cells #[dv, mv] 66 (0, 0))) := fun w2 w6 u v6 a1 a2 a3 a4 a5 => rs_mark h ho hd m1 m2 m3 a1 h.few a2 a3 a4 a5 hm
  have HC0 : Hid (w.drew.cell? ⟨r, 0, none⟩ = some dv ∧ w.drew.cell? ⟨r, 1, none⟩ = some mv) := ⟨(HC.out _ (Below.refl _ _).drew).1, (HC.out _ (Below.refl _ _).drew).2.1⟩
  obtain ⟨da, dc, rfl⟩ : ∃ a c, dv = .slice a LL.length c := by obtain ⟨_, d1, _⟩ := hd; exact own_slice d1
  obtain ⟨ma, mc, rfl⟩ := own_slice m1
  have hmI : (MM.length : Int) + 1 ≤ 10000 := by omega
  clear h ho hd m1 m2 m3
  go_enter Tryz.func36, Tryz.ntmps36
  go_wp2_with fail
  refine wp_region_T (fun w' => w'.cell? ⟨r, 0, none⟩ = some (.slice da LL.length dc)) (fun w' => w'.cell? ⟨r, 1, none⟩ = some (.slice ma MM.length mc)) [14] (by kernel_rfl) HC0.out (fun hHeld => ?_)
  clear HC0
  have HWs : Hid (Below w.heap.size w w.drew) := (Below.refl _ _).drew
  generalize w.drew = U at hHeld HWs ⊢
  refine wpAnyT_takeB (i := 0) (oi := ⟨some 3, .move (.tmp 0), _, _, _, _⟩) (v := ?vR1x0) rfl (by kernel_rfl) (by kernel_rfl) (by kernel_rfl) (by kernel_rfl) (fun _ _ _ h => h) (Or.inl ⟨by rfl, ?hyR1x0⟩) (by assumption) ?restR1x0
  case hyR1x0 => (intro w hSw; (try dsimp only at hSw); go_simp; try (with_reducible rfl))
  try simp only [Act.put, List.setIfInBounds_toArray, List.set_cons_zero, List.set_cons_succ]
  refine wpAnyT_takeB (i := 1) (oi := ⟨some 4, .move (.tmp 0), _, _, _, _⟩) (v := ?vR1x1) rfl (by kernel_rfl) (by kernel_rfl) (by kernel_rfl) (by kernel_rfl) (fun _ _ _ h => h) (Or.inl ⟨by rfl, ?hyR1x1⟩) (by assumption) ?restR1x1
  case hyR1x1 => (intro w hSw; (try dsimp only at hSw); go_simp; try (with_reducible rfl))
  try simp only [Act.put, List.setIfInBounds_toArray, List.set_cons_zero, List.set_cons_succ]
  refine wpAnyT_takeB (i := 2) (oi := ⟨some 5, .nilCheck (.tmp 4), _, _, _, _⟩) (v := ?vR1x2) rfl (by kernel_rfl) (by kernel_rfl) (by kernel_rfl) (by kernel_rfl) (fun _ _ _ h => h) (Or.inl ⟨by rfl, ?hyR1x2⟩) (by assumption) ?restR1x2
  case hyR1x2 => (intro w hSw; (try dsimp only at hSw); go_simp; try (with_reducible rfl))
  try simp only [Act.put, List.setIfInBounds_toArray, List.set_cons_zero, List.set_cons_succ]
  refine wpAnyT_takeB (i := 3) (oi := ⟨some 6, .fieldAddr 66 (.tmp 5) 1, _, _, _, _⟩) (v := ?vR1x3) rfl (by kernel_rfl) (by kernel_rfl) (by kernel_rfl) (by kernel_rfl) (fun _ _ _ h => h) (Or.inl ⟨by rfl, ?hyR1x3⟩) (by assumption) ?restR1x3
  case hyR1x3 => (intro w hSw; (try dsimp only at hSw); go_simp; try (with_reducible rfl))
  try simp only [Act.put, List.setIfInBounds_toArray, List.set_cons_zero, List.set_cons_succ]
  refine wpAnyT_take (i := 4) (oi := ⟨some 7, .load 64 (.tmp 6), _, _, _, _⟩) (v := ?vR1x4) rfl (by kernel_rfl) (by kernel_rfl) (by kernel_rfl) (by kernel_rfl) (by kernel_rfl) (fun _ _ _ h => h) (Or.inl ⟨by rfl, ?hyR1x4⟩) (by assumption) ?restR1x4
  case hyR1x4 => (intro w hSw; (try dsimp only at hSw); go_simp; try (with_reducible rfl))
  try simp only [Act.put, List.setIfInBounds_toArray, List.set_cons_zero, List.set_cons_succ]
  refine wpAnyT_takeB (i := 5) (oi := ⟨some 8, .move (.tmp 0), _, _, _, _⟩) (v := ?vR1x5) rfl (by kernel_rfl) (by kernel_rfl) (by kernel_rfl) (by kernel_rfl) (fun _ _ _ h => h) (Or.inl ⟨by rfl, ?hyR1x5⟩) (by assumption) ?restR1x5
  case hyR1x5 => (intro w hSw; (try dsimp only at hSw); go_simp; try (with_reducible rfl))
  try simp only [Act.put, List.setIfInBounds_toArray, List.set_cons_zero, List.set_cons_succ]
  refine wpAnyT_takeB (i := 6) (oi := ⟨some 9, .nilCheck (.tmp 8), _, _, _, _⟩) (v := ?vR1x6) rfl (by kernel_rfl) (by kernel_rfl) (by kernel_rfl) (by kernel_rfl) (fun _ _ _ h => h) (Or.inl ⟨by rfl, ?hyR1x6⟩) (by assumption) ?restR1x6
  case hyR1x6 => (intro w hSw; (try dsimp only at hSw); go_simp; try (with_reducible rfl))
  try simp only [Act.put, List.setIfInBounds_toArray, List.set_cons_zero, List.set_cons_succ]
  refine wpAnyT_takeB (i := 7) (oi := ⟨some 10, .fieldAddr 66 (.tmp 9) 0, _, _, _, _⟩) (v := ?vR1x7) rfl (by kernel_rfl) (by kernel_rfl) (by kernel_rfl) (by kernel_rfl) (fun _ _ _ h => h) (Or.inl ⟨by rfl, ?hyR1x7⟩) (by assumption) ?restR1x7
  case hyR1x7 => (intro w hSw; (try dsimp only at hSw); go_simp; try (with_reducible rfl))
  try simp only [Act.put, List.setIfInBounds_toArray, List.set_cons_zero, List.set_cons_succ]
  refine wpAnyT_takeB (i := 8) (oi := ⟨some 11, .load 63 (.tmp 10), _, _, _, _⟩) (v := ?vR1x8) rfl (by kernel_rfl) (by kernel_rfl) (by kernel_rfl) (by kernel_rfl) (fun _ _ _ h => h) (Or.inl ⟨by rfl, ?hyR1x8⟩) (by assumption) ?restR1x8
  case hyR1x8 => (intro w hSw; (try dsimp only at hSw); go_simp; try (with_reducible rfl))
  try simp only [Act.put, List.setIfInBounds_toArray, List.set_cons_zero, List.set_cons_succ]
  refine wpAnyT_one (i := 9) (o := ⟨some 12, .call { callee := .value (.func 54), args := #[(.tmp 11)], argTypes := #[63] }, _, _, _, _⟩) (by kernel_rfl) rfl (fun K hK => ?_)
  go_simp
  refine calls_at (HOw.out U HWs.out) (by with_reducible rfl) (by with_reducible rfl) ?_
  rintro e w2 ⟨u, rfl, hF, hb⟩
  obtain ⟨ua, uc, rfl⟩ : ∃ a c, u = .slice a LL.length c := by obtain ⟨_, d1, _⟩ := hF; exact own_slice d1
  go_wp2_with fail
  have HB2 : Hid (Below w.heap.size w w2) := bl_next HWs.out hb
  have HF : Hid (FrR w.heap.size w2 (.slice ua LL.length uc) LL) := by
    obtain ⟨cs', f1, f2⟩ := hF
    refine ⟨cs', own_lessR f1 HWs.out.size, fun i hi => ?_⟩
    obtain ⟨x, hx, hl⟩ := f2 i hi
    exact ⟨x, hx, own_lessR hl HWs.out.size⟩
  clear hHeld hb hF
  have hHeld : _ ∧ _ := ⟨(HC.out w2 HB2.out).1, (HC.out w2 HB2.out).2.1⟩
  refine hK.out _ _ ⟨hHeld.1, fun _ => hHeld.2⟩ ?_
  clear hK K
  try simp only [Act.put, List.setIfInBounds_toArray, List.set_cons_zero, List.set_cons_succ]
  refine wpAnyT_one (i := 10) (o := ⟨some 13, .buildSlice 64 1 #[(0, (.tmp 12))], _, _, _, _⟩) (by kernel_rfl) rfl (fun K hK => ?_)
  go_simp
  obtain ⟨Y, hY⟩ : ∃ Y, w2.alloc (.cells #[.slice ua LL.length uc] 63) = Y := ⟨_, rfl⟩
  have HBY : Hid (Below w.heap.size w Y) := by show Below _ _ _; rw [← hY]; exact HB2.out.alloc HB2.out.size _
  have HSc2 : Hid (SrcAt Y (.slice (some ⟨w2.heap.size, 0, none⟩) 1 1) 1 1 [.slice ua LL.length uc]) := src_1 (by rw [← hY]; exact heap_alloc_new w2 _) rfl
  have HY : Hid (w2.alloc (.cells #[.slice ua LL.length uc] 63) = Y) := hY
  have HYs : Hid (w2.heap.size ≤ Y.heap.size) := by show _ ≤ _; rw [← hY]; simp
  rw [hY]
  clear hY hHeld
  have hHeld : _ ∧ _ := ⟨(HC.out Y HBY.out).1, (HC.out Y HBY.out).2.1⟩
  refine hK.out _ _ ⟨hHeld.1, fun _ => hHeld.2⟩ ?_
  clear hK K
  try simp only [Act.put, List.setIfInBounds_toArray, List.set_cons_zero, List.set_cons_succ]
  refine wpAnyT_one (i := 11) (o := ⟨some 14, .call { callee := .builtin .append, args := #[(.tmp 7), (.tmp 13)], argTypes := #[64, 64] }, _, _, _, _⟩) (by kernel_rfl) rfl (fun K hK => ?_)
  have hown : Y.ownsRow 0 63 1 (.slice ma MM.length mc) MM.length cs := (HC.out Y HBY.out).2.2
  refine op_append_src Y (.tmp 7) (.tmp 13) 64 63 (.slice none 0 0) 1 24 rfl un64 inf63 rfl (by decide) 0 _ _ MM.length 1 cs _ (by rfl) (by rfl) hown HSc2.out (by unfold maxLen; omega) (by omega) (Nat.zero_le _) (by rfl) ?_
  intro v6 w6 o1 o2 o3
  obtain ⟨a6, c6, rfl⟩ := own_slice o1
  have hE := HE.out w2 w6 _ _ HB2.out HF.out o1 (by rw [HY.out]; exact o2) (by
    rcases o3 with e | e
    · exact .inl e.symm
    · exact .inr ⟨_, e, HYs.out⟩)
  have HSx : Hid (∃ S', RsAt B S' (w6.setCell ⟨r, 1, none⟩ (.slice a6 (MM.length + 1) c6)) r LL (MM ++ [LL]) ∧ SStp B S w (w6.setCell ⟨r, 1, none⟩ (.slice a6 (MM.length + 1) c6)) ∧ Grown S w (w6.setCell ⟨r, 1, none⟩ (.slice a6 (MM.length + 1) c6)) S') := hE.1
  have GP : Hid (w6.heap[r]? = some (.cells #[.slice da LL.length dc, .slice ma MM.length mc] 66 (0, 0))) := hE.2
  have c0 : w6.cell? ⟨r, 0, none⟩ = some (.slice da LL.length dc) := cell_of hE.2 0
  have c1 : w6.cell? ⟨r, 1, none⟩ = some (.slice ma MM.length mc) := cell_of hE.2 1
  have cz : ∀ i, w6.frozen? ⟨r, i, none⟩ = false := frozen_of hE.2
  clear hE o1 o2 o3 hown hHeld
  refine hK.out _ _ ⟨c0, fun _ => c1⟩ ?_
  have hHeld := (⟨c0, c1⟩ : _ ∧ _)
  clear hK K
  try simp only [Act.put, List.setIfInBounds_toArray, List.set_cons_zero, List.set_cons_succ]
  refine wpAnyT_takeB (i := 12) (oi := ⟨some 15, .nilCheck (.tmp 3), _, _, _, _⟩) (v := ?vR1x12) rfl (by kernel_rfl) (by kernel_rfl) (by kernel_rfl) (by kernel_rfl) (fun _ _ _ h => h) (Or.inl ⟨by rfl, ?hyR1x12⟩) (by assumption) ?restR1x12
  case hyR1x12 => (intro w hSw; (try dsimp only at hSw); go_simp; try (with_reducible rfl))
  try simp only [Act.put, List.setIfInBounds_toArray, List.set_cons_zero, List.set_cons_succ]
  refine wpAnyT_takeB (i := 13) (oi := ⟨some 16, .fieldAddr 66 (.tmp 15) 1, _, _, _, _⟩) (v := ?vR1x13) rfl (by kernel_rfl) (by kernel_rfl) (by kernel_rfl) (by kernel_rfl) (fun _ _ _ h => h) (Or.inl ⟨by rfl, ?hyR1x13⟩) (by assumption) ?restR1x13
  case hyR1x13 => (intro w hSw; (try dsimp only at hSw); go_simp; try (with_reducible rfl))
  try simp only [Act.put, List.setIfInBounds_toArray, List.set_cons_zero, List.set_cons_succ]
  refine wpAnyT_late (i := 14) (o := ⟨none, .store 64 (.tmp 16) (.tmp 14), _, _, _, _⟩) (by kernel_rfl) rfl (by kernel_rfl) (fun K hK => ?_)
  go_simp
  refine hK.out _ _ ?shR1x14 ?restR1x14
  case shR1x14 => ((try dsimp only); exact (cell_of (heap_setCell_same w6 r 1 _ 66 _ GP.out) 0).trans rfl)
  clear hK K
  try simp only [Act.put, List.setIfInBounds_toArray, List.set_cons_zero, List.set_cons_succ]
  refine wpAnyT_done (by kernel_rfl) ?_ _
  obtain ⟨X, hX⟩ : ∃ X, w6.setCell ⟨r, 1, none⟩ (.slice a6 (MM.length + 1) c6) = X := ⟨_, rfl⟩
  have x1 : X.cell? ⟨r, 1, none⟩ = some (.slice a6 (MM.length + 1) c6) := by rw [← hX]; exact (cell_of (heap_setCell_same w6 r 1 _ 66 _ GP.out) 1).trans rfl
  rw [hX] at HSx
  try rw [hX]
  clear hX c0 c1 cz hHeld
  go_wp2_with fail
  go_ret
  exact ⟨ret_int (by omega), HSx.out⟩
end Go.Proofs.YtkipagelbcdhkaaGreatDoor

namespace Go.Proofs.YtkipagelbcdhkaaGreatDoor
open Go.RowKit

theorem own_take {w : World} {B : Nat} {e : TypeId} {g n q cap : Nat} {xs : List Value} (h : w.ownsRow B e 1 (.slice (some ⟨g, 0, none⟩) n cap) n xs) (hq : q ≤ n) : w.ownsRow B e 1 (.slice (some ⟨g, 0, none⟩) q cap) q (xs.take q) := by
  have hl := h.1
  refine ⟨by rw [List.length_take]; omega, .inr ?_⟩
  rcases h.2 with ⟨h1, _⟩ | ⟨g', cap', cur, hv, e2, e3, e4, e5, e6, e7⟩
  · cases h1
  · injection hv with a1 _ a3
    injection a1 with a1
    injection a1 with a1 _ _
    subst a1 a3
    refine ⟨g, cap, cur, rfl, e2, e3, by omega, e5, e6, ?_⟩
    rw [← e7, List.take_take]
    congr 1
    omega
def backL (MM : List (List (List Int))) (k : Int) : Bool := decide (0 ≤ k) && decide (k < (MM.length : Int))
theorem rs_back {B : Nat} {S : Nat → Prop} {w w2 : World} {r : Nat} {LL : List (List Int)} {MM : List (List (List Int))} {dv u : Value} {ma : Option Addr} {mc q : Nat} (h : RsAt B S w r LL MM) (ho : w.heap[r]? = some (.cells #[dv, .slice ma MM.length mc] 66 (0, 0))) (hm : MksR S w (.slice ma MM.length mc) dv MM) (hq : q < MM.length)
    (hb : Below w.heap.size w w2) (hF : FrR w.heap.size w2 u MM[q]) :
    (∃ S', RsAt B S' ((w2.setCell ⟨r, 0, none⟩ u).setCell ⟨r, 1, none⟩ (.slice ma q mc)) r MM[q] (MM.take q) ∧ SStp B S w ((w2.setCell ⟨r, 0, none⟩ u).setCell ⟨r, 1, none⟩ (.slice ma q mc)) ∧ Grown S w ((w2.setCell ⟨r, 0, none⟩ u).setCell ⟨r, 1, none⟩ (.slice ma q mc)) S') := by
  have hBw : B ≤ w.heap.size := Nat.le_of_lt (Nat.lt_of_le_of_lt (h.lo r h.sr) (h.lt r h.sr))
  have hr2 : w2.heap[r]? = some (.cells #[dv, .slice ma MM.length mc] 66 (0, 0)) := (hb.block r (h.lt r h.sr)).trans ho
  have hsz : ((w2.setCell ⟨r, 0, none⟩ u).setCell ⟨r, 1, none⟩ (.slice ma q mc)).heap.size = w2.heap.size := by simp
  have oth : ∀ k, k ≠ r → ((w2.setCell ⟨r, 0, none⟩ u).setCell ⟨r, 1, none⟩ (.slice ma q mc)).heap[k]? = w2.heap[k]? := fun k hk => by
    rw [heap_setCell_other _ _ _ _ hk, heap_setCell_other _ _ _ _ hk]
  have hK : Keeps (fun _ => True) w2 ((w2.setCell ⟨r, 0, none⟩ u).setCell ⟨r, 1, none⟩ (.slice ma q mc)) := fun k cur t _ ht hc => by
    rw [oth k (type_ne hc hr2 (by rcases ht with rfl | rfl <;> decide)), hc]
  have hKS : Keeps S w ((w2.setCell ⟨r, 0, none⟩ u).setCell ⟨r, 1, none⟩ (.slice ma q mc)) := fun k cur t hS ht hc => hK k cur t trivial ht ((hb.block k (h.lt k hS)).trans hc)
  obtain ⟨cs, m1, m2, m3⟩ := hm
  have hcl : cs.length = MM.length := by have := m1.1; omega
  obtain ⟨g, rfl⟩ : ∃ g, ma = some ⟨g, 0, none⟩ := by
    rcases m1.2 with ⟨e, e2⟩ | ⟨g, cap, cur, e, _⟩
    · omega
    · injection e with e _ _
      exact ⟨g, e⟩
  have sub : ∀ k, S k → S k ∨ (w.heap.size ≤ k ∧ k < w2.heap.size) := fun k hk => .inl hk
  refine ⟨fun k => S k ∨ (w.heap.size ≤ k ∧ k < w2.heap.size), ⟨⟨u, .slice (some ⟨g, 0, none⟩) q mc, ?_, ?_, ⟨cs.take q, ?_, ?_, fun i hi => ?_⟩⟩, .inl h.sr, ?_, ?_, h.fews _ (List.getElem_mem hq), fun M hM => h.fews M (List.mem_of_mem_take hM), ?_⟩, ⟨?_, ?_⟩, ?_⟩
  · have f1 := heap_setCell_same w2 r 0 _ 66 u hr2
    rw [heap_setCell_same _ r 1 _ 66 _ f1]
    rfl
  · exact (hF.lss (S := fun k => S k ∨ (w.heap.size ≤ k ∧ k < w2.heap.size)) (fun k a b => .inr ⟨a, b⟩)).keepT fun k cur t _ ht hc => hK k cur t trivial ht hc
  · rw [List.length_take, Nat.min_eq_left (by omega)]
    refine own_keep (own_take m1 (by omega)) fun g' hg' => ?_
    have e : g = g' := by injection hg'
    subst e
    obtain ⟨cur, hc⟩ := own_type m1 (g := g) rfl
    have h2 := (hb.block g (h.lt g (m2 g rfl))).trans hc
    rw [oth g (type_ne h2 hr2 (by decide)), h2, hc]
  · intro g' hg'
    exact .inl (m2 g' hg')
  · rw [List.length_take] at hi
    obtain ⟨x, hx, hl, _⟩ := m3 i (by omega)
    refine ⟨x, by rw [List.getElem?_take, if_pos (by omega)]; exact hx, ?_, fun g' hg' e => ?_⟩
    · rw [List.getElem_take]
      exact (hl.keepT hKS).more sub
    · have a1 := (hF.lo hg').1
      obtain ⟨_, _, d2, _⟩ := hl
      have a2 := h.lt g' (d2 g' e)
      omega
  · rintro k (e | e)
    · exact h.lo k e
    · omega
  · rintro k (e | e)
    · rw [hsz]; have := h.lt k e; have := hb.size; omega
    · rw [hsz]; exact e.2
  · rw [List.length_take]; have := h.ms; omega
  · exact ((hb.mono hBw).setCell (h.lo r h.sr) _).setCell (h.lo r h.sr) _
  · exact ((Off.of_below hb).trans (Off.set _ h.sr)).trans (Off.set _ h.sr)
  · rintro k (e | e)
    · exact .inl e
    · exact .inr (by rw [hsz]; exact e)
def RbOut (B : Nat) (S : Nat → Prop) (r : Nat) (LL : List (List Int)) (MM : List (List (List Int))) (k : Int) (w : World) (e : Ending) (w' : World) : Prop := e = .returned (.bool (backL MM k)) ∧ ∃ S', RsAt B S' w' r (if backL MM k then MM.getD k.toNat [] else LL) (if backL MM k then MM.take k.toNat else MM) ∧ SStp B S w w' ∧ Grown S w w' S'

set_option maxRecDepth 10000 in
set_option maxHeartbeats 1000000 in
theorem rBack_any {B : Nat} {S : Nat → Prop} {r : Nat} {LL : List (List Int)} {MM : List (List (List Int))} (k : Int) (w : World) (h : RsAt B S w r LL MM) : Calls Tryz.prog 37 #[.pointer (some ⟨r, 0, none⟩), .int .i64 k] w (RbOut B S r LL MM k w) := by
  have hBw : B ≤ w.heap.size := Nat.le_of_lt (Nat.lt_of_le_of_lt (h.lo r h.sr) (h.lt r h.sr))
  obtain ⟨dv, mv, ho, hd, hmk⟩ := h.ex
  have c1 : w.cell? ⟨r, 1, none⟩ = some mv := cell_of ho 1
  have HA : Hid (RsAt B S w r LL MM) := h
  obtain ⟨ma, mc, rfl⟩ : ∃ a c, mv = .slice a MM.length c := by obtain ⟨_, d1, _⟩ := hmk; exact own_slice d1
  by_cases h0 : 0 ≤ k
  · by_cases h1 : k < (MM.length : Int)
    · obtain ⟨q, rfl, hq⟩ : ∃ q : Nat, k = (q : Int) ∧ q < MM.length := ⟨k.toNat, by omega, by omega⟩
      have hbk : backL MM (q : Int) = true := by simp [backL]; omega
      have HE : Hid (∀ w2 u, Below w.heap.size w w2 → FrR w.heap.size w2 u MM[q] → ∃ S', RsAt B S' ((w2.setCell ⟨r, 0, none⟩ u).setCell ⟨r, 1, none⟩ (.slice ma q mc)) r MM[q] (MM.take q) ∧ SStp B S w ((w2.setCell ⟨r, 0, none⟩ u).setCell ⟨r, 1, none⟩ (.slice ma q mc)) ∧ Grown S w ((w2.setCell ⟨r, 0, none⟩ u).setCell ⟨r, 1, none⟩ (.slice ma q mc)) S') := fun w2 u a1 a2 => rs_back h ho hmk hq a1 a2
      obtain ⟨cs, m1, m2, m3⟩ := hmk
      obtain ⟨x, hx, hl, _⟩ := m3 q hq
      have HOw : Hid (Calls Tryz.prog 54 #[x] w (OwOut MM[q] w)) := own_any w hl h.lt (h.fews _ (List.getElem_mem hq))
      obtain ⟨g, rfl, c2, hcap⟩ : ∃ g, ma = some ⟨g, 0, none⟩ ∧ w.cell? ⟨g, q, none⟩ = some x ∧ MM.length ≤ mc := by
        rcases own_cells m1 with ⟨e, e2⟩ | ⟨g, cap, e, _, _, e4, hc⟩
        · omega
        · injection e with e _ e3
          exact ⟨g, e, hc q x hx, by omega⟩
      have hqI : (q : Int) < (MM.length : Int) := by omega
      have hms := h.ms
      obtain ⟨M, hMM⟩ : ∃ M, MM[q] = M := ⟨_, rfl⟩
      have HD : Hid (MM.getD q [] = M) := by show _ = _; rw [List.getD_eq_getElem?_getD, List.getElem?_eq_getElem hq, hMM]; rfl
      rw [hMM] at HOw
      simp only [hMM] at HE
      obtain ⟨xa, xc, rfl⟩ : ∃ a c, x = .slice a MM[q].length c := by obtain ⟨_, d1, _⟩ := hl; exact own_slice d1
      have HR : Hid (w.heap[r]? = some (.cells #[dv, .slice (some ⟨g, 0, none⟩) MM.length mc] 66 (0, 0)) ∧ r < w.heap.size) := ⟨ho, h.lt r h.sr⟩
      have hcapI : (q : Int) ≤ (mc : Int) := by omega
      rw [hMM] at HOw c2
      clear h ho hd m1 m2 m3 hx hl hMM
      go_enter Tryz.func37, Tryz.ntmps37
      go_wp2_with fail
      refine calls_at HOw.out (by with_reducible rfl) (by with_reducible rfl) ?_
      rintro e w2 ⟨u, rfl, hF, hb⟩
      obtain ⟨ua, uc, rfl⟩ : ∃ a c, u = .slice a M.length c := by obtain ⟨_, d1, _⟩ := hF; exact own_slice d1
      have g2 : w2.heap[r]? = some (.cells #[dv, .slice (some ⟨g, 0, none⟩) MM.length mc] 66 (0, 0)) := (hb.block r HR.out.2).trans HR.out.1
      have g3 := heap_setCell_same w2 r 0 _ 66 (.slice ua M.length uc) g2
      have HEd := HE.out w2 _ hb hF
      have HEx : Hid (∃ S', RsAt B S' ((w2.setCell ⟨r, 0, none⟩ (.slice ua M.length uc)).setCell ⟨r, 1, none⟩ (.slice (some ⟨g, 0, none⟩) q mc)) r M (MM.take q) ∧ SStp B S w ((w2.setCell ⟨r, 0, none⟩ (.slice ua M.length uc)).setCell ⟨r, 1, none⟩ (.slice (some ⟨g, 0, none⟩) q mc)) ∧ Grown S w ((w2.setCell ⟨r, 0, none⟩ (.slice ua M.length uc)).setCell ⟨r, 1, none⟩ (.slice (some ⟨g, 0, none⟩) q mc)) S') := HEd
      have d0 : w2.cell? ⟨r, 0, none⟩ = some dv := cell_of g2 0
      have d1 : w2.cell? ⟨r, 1, none⟩ = some (.slice (some ⟨g, 0, none⟩) MM.length mc) := cell_of g2 1
      have dz : ∀ i, w2.frozen? ⟨r, i, none⟩ = false := frozen_of g2
      obtain ⟨X, hX⟩ : ∃ X, w2.setCell ⟨r, 0, none⟩ (.slice ua M.length uc) = X := ⟨_, rfl⟩
      rw [hX] at g3 HEx
      have x0 : X.cell? ⟨r, 0, none⟩ = some (.slice ua M.length uc) := (cell_of g3 0).trans rfl
      have x1 : X.cell? ⟨r, 1, none⟩ = some (.slice (some ⟨g, 0, none⟩) MM.length mc) := (cell_of g3 1).trans rfl
      have xz : ∀ i, X.frozen? ⟨r, i, none⟩ = false := frozen_of g3
      clear hF hb g2 g3 HEd
      go_wp2_with fail
      go_ret
      obtain ⟨S', q1, q2, q3⟩ := HEx.out
      refine ⟨ret_bool hbk.symm, S', ?_, q2, q3⟩
      rw [hbk, if_pos rfl, if_pos rfl, Int.toNat_natCast, HD.out]
      exact q1
    · have hbk : backL MM k = false := by simp [backL, h1]
      have h1' : (MM.length : Int) ≤ k := by omega
      clear h ho hd hmk
      go_enter Tryz.func37, Tryz.ntmps37
      go_wp2_with fail
      go_ret
      exact ⟨ret_bool hbk.symm, S, by rw [hbk]; exact HA.out, SStp.refl _ _ _, Grown.refl _ _ _⟩
  · have hbk : backL MM k = false := by simp [backL, h0]
    have h0' : k < 0 := by omega
    clear h ho hd hmk
    go_enter Tryz.func37, Tryz.ntmps37
    go_wp2_with fail
    go_ret
    exact ⟨ret_bool hbk.symm, S, by rw [hbk]; exact HA.out, SStp.refl _ _ _, Grown.refl _ _ _⟩
end Go.Proofs.YtkipagelbcdhkaaGreatDoor

namespace Go.Proofs.YtkipagelbcdhkaaGreatDoor
open Go.RowKit

def RyOut (LL : List (List Int)) (MM : List (List (List Int))) (w : World) (e : Ending) (w' : World) : Prop := ∃ r S, e = .returned (.pointer (some ⟨r, 0, none⟩)) ∧ RsAt w.heap.size S w' r LL MM ∧ Below w.heap.size w w'
theorem FrR.less {m n : Nat} {w : World} {u : Value} {LL : List (List Int)} (h : FrR n w u LL) (hm : m ≤ n) : FrR m w u LL := by
  obtain ⟨cs', f1, f2⟩ := h
  refine ⟨cs', own_lessR f1 hm, fun i hi => ?_⟩
  obtain ⟨x, hx, hl⟩ := f2 i hi
  exact ⟨x, hx, own_lessR hl hm⟩
set_option maxRecDepth 10000 in
set_option maxHeartbeats 1000000 in
theorem rCopy_any {B : Nat} {S : Nat → Prop} {r : Nat} {LL : List (List Int)} {MM : List (List (List Int))} (w : World) (h : RsAt B S w r LL MM) : Calls Tryz.prog 38 #[.pointer (some ⟨r, 0, none⟩)] w (RyOut LL MM w) := by
  obtain ⟨dv, mv, ho, hd, cs, m1, m2, m3⟩ := h.ex
  have c0 : w.cell? ⟨r, 0, none⟩ = some dv := cell_of ho 0
  have HOw : Hid (Calls Tryz.prog 54 #[dv] w (OwOut LL w)) := own_any w hd h.lt h.few
  obtain ⟨da, dc, rfl⟩ : ∃ a c, dv = .slice a LL.length c := by obtain ⟨_, d1, _⟩ := hd; exact own_slice d1
  obtain ⟨ma, mc, rfl⟩ := own_slice m1
  have HC : Hid (∀ w', Below w.heap.size w w' → w'.cell? ⟨r, 1, none⟩ = some (.slice ma MM.length mc)) := fun w' hb => cell_of ((hb.block r (h.lt r h.sr)).trans ho) 1
  have HM : Hid (∀ w', Below w.heap.size w w' → ∀ i (hi : i < MM.length), ∃ g x, ma = some ⟨g, 0, none⟩ ∧ w'.cell? ⟨g, i, none⟩ = some x ∧ (∃ a c, x = .slice a MM[i].length c) ∧ ∀ w'', Below w.heap.size w w'' → Calls Tryz.prog 54 #[x] w'' (OwOut MM[i] w'')) := fun w' hb i hi => by
    obtain ⟨x, hx, hl, _⟩ := m3 i hi
    rcases own_cells m1 with ⟨e, e2⟩ | ⟨g, cap, e, _, hgl, _, hc⟩
    · omega
    · injection e with e _ _
      refine ⟨g, x, e, (hb.cell (p := ⟨g, i, none⟩) hgl).trans (hc i x hx), ?_, fun w'' hb2 => own_any w'' (hl.keep fun k hk => hb2.block k (h.lt k hk)) (fun k hk => Nat.lt_of_lt_of_le (h.lt k hk) hb2.size) (h.fews _ (List.getElem_mem hi))⟩
      obtain ⟨_, d1, _⟩ := hl
      exact own_slice d1
  have HFw : Hid (Few LL ∧ (∀ i (hi : i < MM.length), Few MM[i]) ∧ MM.length ≤ 10000) := ⟨h.few, fun i hi => h.fews _ (List.getElem_mem hi), h.ms⟩
  have hms := h.ms
  have HRl : Hid (r < w.heap.size) := h.lt r h.sr
  have HGl : Hid (∀ g, ma = some ⟨g, 0, none⟩ → g < w.heap.size) := fun g e => h.lt g (m2 g (by rw [e]; rfl))
  clear h ho hd m1 m2 m3
  go_enter Tryz.func38, Tryz.ntmps38
  go_wp2_with fail
  refine calls_at HOw.out (by with_reducible rfl) (by with_reducible rfl) ?_
  rintro e w1 ⟨u, rfl, hF, hb⟩
  obtain ⟨W, hW⟩ : ∃ W, w1.alloc (.cells #[u, .slice none 0 0] 66) = W := ⟨_, rfl⟩
  have hbW : Below w1.heap.size w1 W := by rw [← hW]; exact (Below.refl _ _).alloc (Nat.le_refl _) _
  have gW : W.heap[w1.heap.size]? = some (.cells #[u, .slice none 0 0] 66 (0, 0)) := by rw [← hW]; exact heap_alloc_new w1 _
  have HBW : Hid (Below w.heap.size w W) := bl_next hb hbW
  have HR0 : Hid (∃ S', RsAt w.heap.size S' W w1.heap.size LL []) := by
    obtain ⟨cs', f1, f2⟩ := hF.below hbW
    exact ⟨_, NwAt.done (n := w.heap.size) ⟨u, cs', gW, f1, f2⟩ hb.size HFw.out.1⟩
  obtain ⟨ua, uc, rfl⟩ : ∃ a c, u = .slice a LL.length c := by obtain ⟨_, d1, _⟩ := hF; exact own_slice d1
  have HP : Hid (w.heap.size ≤ w1.heap.size) := hb.size
  clear hF hb hbW gW c0
  go_wp2_with fail
  go_loopw [4] (fun iv wr => ∃ k : Nat, iv = .int .i64 (k : Int) ∧ k ≤ MM.length ∧ Hid (∃ S', RsAt w.heap.size S' wr w1.heap.size LL (MM.take k)) ∧ Hid (Below w.heap.size w wr)) (fun iv _ => MM.length - (intOf iv).toNat)
  case atStart => exact ⟨0, rfl, Nat.zero_le _, HR0, HBW⟩
  case round =>
    obtain ⟨k, rfl, hk, HRr, HBr⟩ := hrel
    have y1 := HC.out wr HBr.out
    by_cases hkn : k < MM.length
    · have hkI : (k : Int) < (MM.length : Int) := by omega
      obtain ⟨S1, hR1⟩ := HRr.out
      obtain ⟨dv1, mv1, o1, d1, cs1, n1, n2, n3⟩ := hR1.ex
      have HKl : Hid ((MM.take k).length = k) := by show _ = _; rw [List.length_take]; omega
      have HTk : Hid (MM.take (k + 1) = MM.take k ++ [MM[k]]) := List.take_succ_eq_append_getElem hkn
      obtain ⟨g, x, rfl, y2, ⟨xa, xc, rfl⟩, hOx⟩ := HM.out wr HBr.out k hkn
      have hNk := HFw.out.2.1 k hkn
      obtain ⟨M, hMM⟩ : ∃ M, MM[k] = M := ⟨_, rfl⟩
      rw [hMM] at HTk y2 hNk hOx
      have HOx : Hid (∀ w'', Below w.heap.size w w'' → Calls Tryz.prog 54 #[.slice xa M.length xc] w'' (OwOut M w'')) := hOx
      have HAc : Hid (∀ w', Below wr.heap.size wr w' → w'.cell? ⟨r, 1, none⟩ = some (.slice (some ⟨g, 0, none⟩) MM.length mc) ∧ w'.cell? ⟨g, k, none⟩ = some (.slice xa M.length xc)) := fun w' hb => by
        refine ⟨HC.out w' (bl_next HBr.out hb), ?_⟩
        exact (hb.cell (p := ⟨g, k, none⟩) (World.block_lt_of_cell? wr _ y2)).trans y2
      have HBc : Hid (∀ w', Below wr.heap.size wr w' → w'.heap[w1.heap.size]? = some (.cells #[dv1, mv1] 66 (0, 0)) ∧ w'.ownsRow 0 63 1 mv1 (MM.take k).length cs1) := fun w' hb => ⟨(hb.block _ (hR1.lt _ hR1.sr)).trans o1, own_keep n1 fun g' hg' => hb.block g' (hR1.lt g' (n2 g' hg'))⟩
      have HE : Hid (∀ (w2 w6 : World) (u v6 : Value), Below wr.heap.size wr w2 → FrR wr.heap.size w2 u M → w6.ownsRow 0 63 1 v6 ((MM.take k).length + 1) (cs1 ++ [u]) → (w2.alloc (.cells #[u] 63)).grownBy w6 mv1.ownBlock → (mv1.ownBlock = v6.ownBlock ∨ ∃ g, v6.ownBlock = some g ∧ w2.heap.size ≤ g) → (∃ S', RsAt w.heap.size S' (w6.setCell ⟨w1.heap.size, 1, none⟩ v6) w1.heap.size LL (MM.take k ++ [M]) ∧ SStp w.heap.size S1 wr (w6.setCell ⟨w1.heap.size, 1, none⟩ v6) ∧ Grown S1 wr (w6.setCell ⟨w1.heap.size, 1, none⟩ v6) S') ∧ w6.heap[w1.heap.size]? = some (.cells #[dv1, mv1] 66 (0, 0))) := fun w2 w6 u v6 a1 a2 a3 a4 a5 => rs_mark hR1 o1 d1 n1 n2 n3 a1 hNk a2 a3 a4 a5 (by rw [HKl.out]; omega)
      have HG1 : Hid (∀ g', mv1.ownBlock = some g' → w.heap.size ≤ g' ∧ g' ≠ r ∧ g' ≠ g) := fun g' hg' => by
        have a1 := hR1.lo g' (n2 g' hg')
        have a2 : r < w.heap.size := by
          by_cases hlt : r < w.heap.size
          · exact hlt
          · exfalso; exact hlt HRl.out
        have a3 : g < w.heap.size := HGl.out g rfl
        exact ⟨a1, by omega, by omega⟩
      obtain ⟨mb, md, rfl⟩ : ∃ a c, mv1 = .slice a k c := by have := own_slice n1; rw [HKl.out] at this; exact this
      obtain ⟨db, dd, rfl⟩ : ∃ a c, dv1 = .slice a LL.length c := by obtain ⟨_, q1, _⟩ := d1; exact own_slice q1
      clear hMM hOx hR1 o1 d1 n1 n2 n3 HRr
      go_wp2_with fail
      have HU0 : Hid (Below wr.heap.size wr wr.drew) := (Below.refl _ _).drew
      have HC0 : Hid ((wr.drew.cell? ⟨r, 1, none⟩ = some (.slice (some ⟨g, 0, none⟩) MM.length mc) ∧ wr.drew.cell? ⟨g, k, none⟩ = some (.slice xa M.length xc)) ∧ wr.drew.cell? ⟨w1.heap.size, 1, none⟩ = some (.slice mb k md)) := ⟨HAc.out _ HU0.out, cell_of (HBc.out _ HU0.out).1 1⟩
      refine wp_region_T (fun w' => w'.cell? ⟨r, 1, none⟩ = some (.slice (some ⟨g, 0, none⟩) MM.length mc) ∧ w'.cell? ⟨g, k, none⟩ = some (.slice xa M.length xc)) (fun w' => w'.cell? ⟨w1.heap.size, 1, none⟩ = some (.slice mb k md)) [17] (by kernel_rfl) HC0.out (fun hHeld => ?_)
      clear HC0
      generalize wr.drew = U at hHeld HU0 ⊢
      refine wpAnyT_takeB (i := 0) (oi := ⟨some 21, .move (.tmp 3), _, _, _, _⟩) (v := ?vR5x0) rfl (by kernel_rfl) (by kernel_rfl) (by kernel_rfl) (by kernel_rfl) (fun _ _ _ h => h) (Or.inl ⟨by rfl, ?hyR5x0⟩) (by assumption) ?restR5x0
      case hyR5x0 => (intro w hSw; (try dsimp only at hSw); go_simp; try (with_reducible rfl))
      try simp only [Act.put, List.setIfInBounds_toArray, List.set_cons_zero, List.set_cons_succ]
      refine wpAnyT_takeB (i := 1) (oi := ⟨some 22, .move (.tmp 3), _, _, _, _⟩) (v := ?vR5x1) rfl (by kernel_rfl) (by kernel_rfl) (by kernel_rfl) (by kernel_rfl) (fun _ _ _ h => h) (Or.inl ⟨by rfl, ?hyR5x1⟩) (by assumption) ?restR5x1
      case hyR5x1 => (intro w hSw; (try dsimp only at hSw); go_simp; try (with_reducible rfl))
      try simp only [Act.put, List.setIfInBounds_toArray, List.set_cons_zero, List.set_cons_succ]
      refine wpAnyT_takeB (i := 2) (oi := ⟨some 23, .nilCheck (.tmp 22), _, _, _, _⟩) (v := ?vR5x2) rfl (by kernel_rfl) (by kernel_rfl) (by kernel_rfl) (by kernel_rfl) (fun _ _ _ h => h) (Or.inl ⟨by rfl, ?hyR5x2⟩) (by assumption) ?restR5x2
      case hyR5x2 => (intro w hSw; (try dsimp only at hSw); go_simp; try (with_reducible rfl))
      try simp only [Act.put, List.setIfInBounds_toArray, List.set_cons_zero, List.set_cons_succ]
      refine wpAnyT_takeB (i := 3) (oi := ⟨some 24, .fieldAddr 66 (.tmp 23) 1, _, _, _, _⟩) (v := ?vR5x3) rfl (by kernel_rfl) (by kernel_rfl) (by kernel_rfl) (by kernel_rfl) (fun _ _ _ h => h) (Or.inl ⟨by rfl, ?hyR5x3⟩) (by assumption) ?restR5x3
      case hyR5x3 => (intro w hSw; (try dsimp only at hSw); go_simp; try (with_reducible rfl))
      try simp only [Act.put, List.setIfInBounds_toArray, List.set_cons_zero, List.set_cons_succ]
      refine wpAnyT_take (i := 4) (oi := ⟨some 25, .load 64 (.tmp 24), _, _, _, _⟩) (v := ?vR5x4) rfl (by kernel_rfl) (by kernel_rfl) (by kernel_rfl) (by kernel_rfl) (by kernel_rfl) (fun _ _ _ h => h) (Or.inl ⟨by rfl, ?hyR5x4⟩) (by assumption) ?restR5x4
      case hyR5x4 => (intro w hSw; (try dsimp only at hSw); go_simp; try (with_reducible rfl))
      try simp only [Act.put, List.setIfInBounds_toArray, List.set_cons_zero, List.set_cons_succ]
      refine wpAnyT_takeB (i := 5) (oi := ⟨some 26, .move (.tmp 0), _, _, _, _⟩) (v := ?vR5x5) rfl (by kernel_rfl) (by kernel_rfl) (by kernel_rfl) (by kernel_rfl) (fun _ _ _ h => h) (Or.inl ⟨by rfl, ?hyR5x5⟩) (by assumption) ?restR5x5
      case hyR5x5 => (intro w hSw; (try dsimp only at hSw); go_simp; try (with_reducible rfl))
      try simp only [Act.put, List.setIfInBounds_toArray, List.set_cons_zero, List.set_cons_succ]
      refine wpAnyT_takeB (i := 6) (oi := ⟨some 27, .nilCheck (.tmp 26), _, _, _, _⟩) (v := ?vR5x6) rfl (by kernel_rfl) (by kernel_rfl) (by kernel_rfl) (by kernel_rfl) (fun _ _ _ h => h) (Or.inl ⟨by rfl, ?hyR5x6⟩) (by assumption) ?restR5x6
      case hyR5x6 => (intro w hSw; (try dsimp only at hSw); go_simp; try (with_reducible rfl))
      try simp only [Act.put, List.setIfInBounds_toArray, List.set_cons_zero, List.set_cons_succ]
      refine wpAnyT_takeB (i := 7) (oi := ⟨some 28, .fieldAddr 66 (.tmp 27) 1, _, _, _, _⟩) (v := ?vR5x7) rfl (by kernel_rfl) (by kernel_rfl) (by kernel_rfl) (by kernel_rfl) (fun _ _ _ h => h) (Or.inl ⟨by rfl, ?hyR5x7⟩) (by assumption) ?restR5x7
      case hyR5x7 => (intro w hSw; (try dsimp only at hSw); go_simp; try (with_reducible rfl))
      try simp only [Act.put, List.setIfInBounds_toArray, List.set_cons_zero, List.set_cons_succ]
      refine wpAnyT_takeB (i := 8) (oi := ⟨some 29, .load 64 (.tmp 28), _, _, _, _⟩) (v := ?vR5x8) rfl (by kernel_rfl) (by kernel_rfl) (by kernel_rfl) (by kernel_rfl) (fun _ _ _ h => h) (Or.inl ⟨by rfl, ?hyR5x8⟩) (by assumption) ?restR5x8
      case hyR5x8 => (intro w hSw; (try dsimp only at hSw); go_simp; try (with_reducible rfl))
      try simp only [Act.put, List.setIfInBounds_toArray, List.set_cons_zero, List.set_cons_succ]
      refine wpAnyT_takeB (i := 9) (oi := ⟨some 30, .move (.tmp 4), _, _, _, _⟩) (v := ?vR5x9) rfl (by kernel_rfl) (by kernel_rfl) (by kernel_rfl) (by kernel_rfl) (fun _ _ _ h => h) (Or.inl ⟨by rfl, ?hyR5x9⟩) (by assumption) ?restR5x9
      case hyR5x9 => (intro w hSw; (try dsimp only at hSw); go_simp; try (with_reducible rfl))
      try simp only [Act.put, List.setIfInBounds_toArray, List.set_cons_zero, List.set_cons_succ]
      refine wpAnyT_takeB (i := 10) (oi := ⟨some 31, .indexAddr 64 (.tmp 29) (.tmp 30), _, _, _, _⟩) (v := ?vR5x10) rfl (by kernel_rfl) (by kernel_rfl) (by kernel_rfl) (by kernel_rfl) (fun _ _ _ h => h) (Or.inl ⟨by rfl, ?hyR5x10⟩) (by assumption) ?restR5x10
      case hyR5x10 => (intro w hSw; (try dsimp only at hSw); go_simp; try (with_reducible rfl))
      try simp only [Act.put, List.setIfInBounds_toArray, List.set_cons_zero, List.set_cons_succ]
      refine wpAnyT_takeB (i := 11) (oi := ⟨some 32, .load 63 (.tmp 31), _, _, _, _⟩) (v := ?vR5x11) rfl (by kernel_rfl) (by kernel_rfl) (by kernel_rfl) (by kernel_rfl) (fun _ _ _ h => h) (Or.inl ⟨by rfl, ?hyR5x11⟩) (by assumption) ?restR5x11
      case hyR5x11 => (intro w hSw; (try dsimp only at hSw); go_simp; try (with_reducible rfl))
      try simp only [Act.put, List.setIfInBounds_toArray, List.set_cons_zero, List.set_cons_succ]
      refine wpAnyT_one (i := 12) (o := ⟨some 33, .call { callee := .value (.func 54), args := #[(.tmp 32)], argTypes := #[63] }, _, _, _, _⟩) (by kernel_rfl) rfl (fun K hK => ?_)
      go_simp
      refine calls_at (HOx.out U (bl_next HBr.out HU0.out)) (by with_reducible rfl) (by with_reducible rfl) ?_
      rintro e w2 ⟨u, rfl, hF, hb⟩
      obtain ⟨ua2, uc2, rfl⟩ : ∃ a c, u = .slice a M.length c := by obtain ⟨_, q1, _⟩ := hF; exact own_slice q1
      go_wp2_with fail
      have HB2 : Hid (Below wr.heap.size wr w2) := bl_next HU0.out hb
      have HF : Hid (FrR wr.heap.size w2 (.slice ua2 M.length uc2) M) := hF.less HU0.out.size
      clear hHeld hb hF
      have hHeld : _ ∧ _ := ⟨HAc.out w2 HB2.out, cell_of (HBc.out w2 HB2.out).1 1⟩
      refine hK.out _ _ ⟨hHeld.1, fun _ => hHeld.2⟩ ?_
      clear hK K
      try simp only [Act.put, List.setIfInBounds_toArray, List.set_cons_zero, List.set_cons_succ]
      refine wpAnyT_one (i := 13) (o := ⟨some 34, .buildSlice 64 1 #[(0, (.tmp 33))], _, _, _, _⟩) (by kernel_rfl) rfl (fun K hK => ?_)
      go_simp
      obtain ⟨Y, hY⟩ : ∃ Y, w2.alloc (.cells #[.slice ua2 M.length uc2] 63) = Y := ⟨_, rfl⟩
      have HBY : Hid (Below wr.heap.size wr Y) := by show Below _ _ _; rw [← hY]; exact HB2.out.alloc HB2.out.size _
      have HSc2 : Hid (SrcAt Y (.slice (some ⟨w2.heap.size, 0, none⟩) 1 1) 1 1 [.slice ua2 M.length uc2]) := src_1 (by rw [← hY]; exact heap_alloc_new w2 _) rfl
      have HY : Hid (w2.alloc (.cells #[.slice ua2 M.length uc2] 63) = Y) := hY
      have HYs : Hid (w2.heap.size ≤ Y.heap.size) := by show _ ≤ _; rw [← hY]; simp
      rw [hY]
      clear hY hHeld
      have hHeld : _ ∧ _ := ⟨HAc.out Y HBY.out, cell_of (HBc.out Y HBY.out).1 1⟩
      refine hK.out _ _ ⟨hHeld.1, fun _ => hHeld.2⟩ ?_
      clear hK K
      try simp only [Act.put, List.setIfInBounds_toArray, List.set_cons_zero, List.set_cons_succ]
      refine wpAnyT_one (i := 14) (o := ⟨some 35, .call { callee := .builtin .append, args := #[(.tmp 25), (.tmp 34)], argTypes := #[64, 64] }, _, _, _, _⟩) (by kernel_rfl) rfl (fun K hK => ?_)
      have hown : Y.ownsRow 0 63 1 (.slice mb k md) k cs1 := by have := (HBc.out Y HBY.out).2; rw [HKl.out] at this; exact this
      refine op_append_src Y (.tmp 25) (.tmp 34) 64 63 (.slice none 0 0) 1 24 rfl un64 inf63 rfl (by decide) 0 _ _ k 1 cs1 _ (by rfl) (by rfl) hown HSc2.out (by unfold maxLen; omega) (by omega) (Nat.zero_le _) (by rfl) ?_
      intro v6 w6 o1 o2 o3
      obtain ⟨a6, c6, rfl⟩ := own_slice o1
      have hE := HE.out w2 w6 _ _ HB2.out HF.out (by rw [HKl.out]; exact o1) (by rw [HY.out]; exact o2) (by
        rcases o3 with e | e
        · exact .inl e.symm
        · exact .inr ⟨_, e, HYs.out⟩)
      have HSx : Hid (∃ S', RsAt w.heap.size S' (w6.setCell ⟨w1.heap.size, 1, none⟩ (.slice a6 (k + 1) c6)) w1.heap.size LL (MM.take k ++ [M]) ∧ SStp w.heap.size S1 wr (w6.setCell ⟨w1.heap.size, 1, none⟩ (.slice a6 (k + 1) c6)) ∧ Grown S1 wr (w6.setCell ⟨w1.heap.size, 1, none⟩ (.slice a6 (k + 1) c6)) S') := hE.1
      have GP : Hid (w6.heap[w1.heap.size]? = some (.cells #[.slice db LL.length dd, .slice mb k md] 66 (0, 0))) := hE.2
      have hcl : ∀ (g' j : Nat), g' < Y.heap.size → (∀ g'', (Value.slice mb k md).ownBlock = some g'' → g'' ≠ g') → w6.cell? ⟨g', j, none⟩ = Y.cell? ⟨g', j, none⟩ := fun g' j hl hn => World.cell?_of_block (a := ⟨g', j, none⟩) (o2.block g' hl fun e => hn g' e.symm rfl)
      have hHl := hHeld.1
      have c0 : w6.cell? ⟨r, 1, none⟩ = some (.slice (some ⟨g, 0, none⟩) MM.length mc) := (hcl r 1 (World.block_lt_of_cell? Y _ hHl.1) (fun g'' e => (HG1.out g'' e).2.1)).trans hHl.1
      have c0' : w6.cell? ⟨g, k, none⟩ = some (.slice xa M.length xc) := (hcl g k (World.block_lt_of_cell? Y _ hHl.2) (fun g'' e => (HG1.out g'' e).2.2)).trans hHl.2
      have HH6 : Hid (w6.cell? ⟨r, 1, none⟩ = some (.slice (some ⟨g, 0, none⟩) MM.length mc) ∧ w6.cell? ⟨g, k, none⟩ = some (.slice xa M.length xc)) := ⟨c0, c0'⟩
      have c1 : w6.cell? ⟨w1.heap.size, 1, none⟩ = some (.slice mb k md) := cell_of hE.2 1
      have cz : ∀ i, w6.frozen? ⟨w1.heap.size, i, none⟩ = false := frozen_of hE.2
      clear hE o1 o2 o3 hown hHeld hcl hHl
      refine hK.out _ _ ⟨⟨c0, c0'⟩, fun _ => c1⟩ ?_
      have hHeld := (⟨(⟨c0, c0'⟩ : _ ∧ _), c1⟩ : _ ∧ _)
      clear hK K
      try simp only [Act.put, List.setIfInBounds_toArray, List.set_cons_zero, List.set_cons_succ]
      refine wpAnyT_takeB (i := 15) (oi := ⟨some 36, .nilCheck (.tmp 21), _, _, _, _⟩) (v := ?vR5x15) rfl (by kernel_rfl) (by kernel_rfl) (by kernel_rfl) (by kernel_rfl) (fun _ _ _ h => h) (Or.inl ⟨by rfl, ?hyR5x15⟩) (by assumption) ?restR5x15
      case hyR5x15 => (intro w hSw; (try dsimp only at hSw); go_simp; try (with_reducible rfl))
      try simp only [Act.put, List.setIfInBounds_toArray, List.set_cons_zero, List.set_cons_succ]
      refine wpAnyT_takeB (i := 16) (oi := ⟨some 37, .fieldAddr 66 (.tmp 36) 1, _, _, _, _⟩) (v := ?vR5x16) rfl (by kernel_rfl) (by kernel_rfl) (by kernel_rfl) (by kernel_rfl) (fun _ _ _ h => h) (Or.inl ⟨by rfl, ?hyR5x16⟩) (by assumption) ?restR5x16
      case hyR5x16 => (intro w hSw; (try dsimp only at hSw); go_simp; try (with_reducible rfl))
      try simp only [Act.put, List.setIfInBounds_toArray, List.set_cons_zero, List.set_cons_succ]
      refine wpAnyT_late (i := 17) (o := ⟨none, .store 64 (.tmp 37) (.tmp 35), _, _, _, _⟩) (by kernel_rfl) rfl (by kernel_rfl) (fun K hK => ?_)
      go_simp
      refine hK.out _ _ ?shR5x17 ?restR5x17
      case shR5x17 => ((try dsimp only); exact ⟨(World.cell?_setCell_far _ _ ⟨r, 1, none⟩ _ (by have := HRl.out; have := HP.out; show w1.heap.size ≠ r; omega)).trans HH6.out.1, (World.cell?_setCell_far _ _ ⟨g, k, none⟩ _ (by have := HGl.out g rfl; have := HP.out; show w1.heap.size ≠ g; omega)).trans HH6.out.2⟩)
      clear hK K
      try simp only [Act.put, List.setIfInBounds_toArray, List.set_cons_zero, List.set_cons_succ]
      refine wpAnyT_done (by kernel_rfl) ?_ _
      obtain ⟨X, hX⟩ : ∃ X, w6.setCell ⟨w1.heap.size, 1, none⟩ (.slice a6 (k + 1) c6) = X := ⟨_, rfl⟩
      rw [hX] at HSx
      try rw [hX]
      clear hX c0 c0' c1 cz hHeld
      go_wp2_with fail
      go_roundw
      case rel =>
        obtain ⟨S', q1, q2, q3⟩ := HSx.out
        exact ⟨k + 1, by go_num, hkn, ⟨S', by rw [HTk.out]; exact q1⟩, HBr.out.trans q2.below⟩
      case measure => simp [intOf]; omega
    · have hke : k = MM.length := by omega
      subst hke
      have hkI : ¬ (MM.length : Int) < (MM.length : Int) := by omega
      rw [List.take_length] at HRr
      go_wp2_with fail
      go_ret
      obtain ⟨S', q1⟩ := HRr.out
      exact ⟨_, S', rfl, q1, HBr.out⟩
end Go.Proofs.YtkipagelbcdhkaaGreatDoor
