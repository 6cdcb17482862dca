/-
  The document's scripts.
-/
import Derived.Test.YtdfbmfikhccajaaDoorBrScript
namespace Go.Proofs.YtdfbmfikhccajaaDoor
open Go.RowKit

/-- A script of the document's in memory: its list, and how many are told. -/
structure RcAt (B : Nat) (O : Nat → Prop) (w : World) (p : Nat) (H : List Int) (k : Nat) : Prop where
  ex : ∃ a cap, w.heap[p]? = some (.cells #[.slice a H.length cap, .int .i64 (k : Int)] 49 (0, 0)) ∧ H.length ≤ 1000000000 ∧ (0 < H.length → ∃ g, a = some ⟨g, 0, none⟩ ∧ O g ∧ g ≠ p ∧ ∀ j (h : j < H.length), w.cell? ⟨g, j, none⟩ = some (.int .i64 H[j]))
  kl : k ≤ H.length
  op : O p
  lo : ∀ k, O k → B ≤ k
  lt : ∀ k, O k → k < w.heap.size
theorem RcAt.keep {B : Nat} {O : Nat → Prop} {w w' : World} {p k : Nat} {H : List Int} (h : RcAt B O w p H k) (hz : w.heap.size ≤ w'.heap.size) (hk : ∀ k, O k → w'.heap[k]? = w.heap[k]?) : RcAt B O w' p H k := by
  obtain ⟨a, cap, h1, h3, h4⟩ := h.ex
  refine ⟨⟨a, cap, (hk p h.op).trans h1, h3, fun h0 => ?_⟩, h.kl, h.op, h.lo, fun k hS => Nat.lt_of_lt_of_le (h.lt k hS) hz⟩
  obtain ⟨g, e1, e2, e3, e4⟩ := h4 h0
  refine ⟨g, e1, e2, e3, fun j hj => ?_⟩
  have := e4 j hj
  simp only [World.cell?] at this ⊢
  rw [hk g e2]
  exact this
theorem RcAt.below {B : Nat} {O : Nat → Prop} {w w' : World} {p k : Nat} {H : List Int} (h : RcAt B O w p H k) (hb : Below w.heap.size w w') : RcAt B O w' p H k := h.keep hb.size fun k hk => hb.block k (h.lt k hk)
/-- How far it stands behind a Next. -/
def nxt (H : List Int) (k : Nat) : Nat := if k < H.length then k + 1 else k
theorem nxt_le {H : List Int} {k : Nat} (h : k ≤ H.length) : nxt H k ≤ H.length := by unfold nxt; split <;> omega
theorem drop_nxt (H : List Int) (k : Nat) (h : k ≤ H.length) : (H.drop k).tail = H.drop (nxt H k) ∧ (H.drop k).headD 0 = H.getD k 0 := by
  unfold nxt
  split
  · rename_i hk
    rw [List.drop_eq_getElem_cons hk]
    refine ⟨rfl, ?_⟩
    rw [List.getD_eq_getElem?_getD, List.getElem?_eq_getElem hk]
    rfl
  · have : k = H.length := by omega
    subst this
    simp

theorem set2b {w : World} {N : Nat} {a0 a1 : Value} {t : TypeId} (h : w.heap[N]? = some (.cells #[a0, a1] t (0, 0))) (b : Value) : (w.setCell ⟨N, 1, none⟩ b).heap[N]? = some (.cells #[a0, b] t (0, 0)) := by
  have hE := heap_setCell_same w N 1 _ t b h
  simpa only [List.setIfInBounds_toArray, List.set_cons_zero, List.set_cons_succ] using hE
set_option maxRecDepth 10000 in
set_option maxHeartbeats 1000000 in
theorem rcNext_any (B : Nat) (O : Nat → Prop) (p : Nat) (H : List Int) (k : Nat) (w : World) (h : RcAt B O w p H k) : Calls Tryd.prog 8 #[.pointer (some ⟨p, 0, none⟩)] w fun e w' => e = .returned (.int .i64 (H.getD k 0)) ∧ RcAt B O w' p H (nxt H k) ∧ Off (fun k => k = p) w w' ∧ ∀ C, C ≤ p → Below C w w' := by
  have HA : Hid (RcAt B O w p H k) := h
  obtain ⟨a, cap, h1, h3, h4⟩ := h.ex
  have hkl := h.kl
  have c0 : w.cell? ⟨p, 0, none⟩ = some (.slice a H.length cap) := cell_of h1 0
  have c1 : w.cell? ⟨p, 1, none⟩ = some (.int .i64 (k : Int)) := cell_of h1 1
  have z0 : ∀ i, w.frozen? ⟨p, i, none⟩ = false := frozen_of h1
  by_cases hk : k < H.length
  · obtain ⟨g, rfl, e2, e3, e4⟩ := h4 (by omega)
    have c2 : w.cell? ⟨g, k, none⟩ = some (.int .i64 H[k]) := e4 k hk
    have hd : H.getD k 0 = H[k] := by rw [List.getD_eq_getElem?_getD, List.getElem?_eq_getElem hk]; rfl
    have hn : nxt H k = k + 1 := by unfold nxt; rw [if_pos hk]
    obtain ⟨x, hx⟩ : ∃ x, H[k] = x := ⟨_, rfl⟩
    rw [hx] at c2 hd
    rw [hd, hn]
    have HE : Hid (w.heap[p]? = some (.cells #[.slice (some ⟨g, 0, none⟩) H.length cap, .int .i64 (k : Int)] 49 (0, 0))) := h1
    have HI : Hid (O g ∧ g ≠ p ∧ ∀ (j : Nat) (h : j < H.length), w.cell? ⟨g, j, none⟩ = some (.int .i64 H[j])) := ⟨e2, e3, e4⟩
    have hkI : (k : Int) < (H.length : Int) := by omega
    clear h h1 h4 e2 e4 hd hn hx
    go_enter Tryd.func8, Tryd.ntmps8
    obtain ⟨X, hX⟩ : ∃ X, (w.setCell ⟨p, 1, none⟩ (.int .i64 ((k : Int) + 1))).drew = X := ⟨_, rfl⟩
    have hE : X.heap[p]? = some (.cells #[.slice (some ⟨g, 0, none⟩) H.length cap, .int .i64 ((k : Int) + 1)] 49 (0, 0)) := by
      rw [← hX]
      exact set2b HE.out _
    have hG : X.heap[g]? = w.heap[g]? := by
      rw [← hX]
      exact heap_setCell_other _ _ _ _ (by simpa using e3)
    have HoX : Hid (Off (fun k => k = p) w X) := by rw [← hX]; exact (Off.set (S := fun k => k = p) _ rfl).trans (Off.of_below (Below.refl _ _).drew)
    have HbX : Hid (∀ C, C ≤ p → Below C w X) := fun C hC => by rw [← hX]; exact ((Below.refl _ _).setCell hC _).drew
    have d0 : X.cell? ⟨p, 0, none⟩ = some (.slice (some ⟨g, 0, none⟩) H.length cap) := cell_of hE 0
    have d1 : X.cell? ⟨p, 1, none⟩ = some (.int .i64 ((k : Int) + 1)) := cell_of hE 1
    have d2 : X.cell? ⟨g, k, none⟩ = some (.int .i64 x) := by
      have := c2
      simp only [World.cell?] at this ⊢
      rw [hG]
      exact this
    have HXE : Hid (RcAt B O X p H (k + 1)) := by
      obtain ⟨q1, q2, q3⟩ := HI.out
      refine ⟨⟨_, _, hE, h3, fun _ => ⟨g, rfl, q1, q2, fun j hj => ?_⟩⟩, hk, HA.out.op, HA.out.lo, fun j hj => Nat.lt_of_lt_of_le (HA.out.lt j hj) HoX.out.size⟩
      have := q3 j hj
      simp only [World.cell?] at this ⊢
      rw [hG]
      exact this
    have ew : IntKind.i64.wrap ((k : Int) + 1 - 1) = (k : Int) := by rw [wrap_id (by omega) (by omega)]; omega
    clear hE hG
    go_wp2_with fail
    go_region
    go_wp2_with fail
    clear hX c0 c1 c2
    go_region
    go_wp2_with fail
    go_ret
    exact ⟨rfl, HXE.out.below (Below.refl _ _).drew, HoX.out.trans (Off.of_below (Below.refl _ _).drew), fun C hC => (HbX.out C hC).drew⟩
  · have hd : H.getD k 0 = 0 := by rw [List.getD_eq_getElem?_getD, List.getElem?_eq_none (by omega)]; rfl
    have hn : nxt H k = k := by unfold nxt; rw [if_neg hk]
    rw [hd, hn]
    have hkI : (H.length : Int) ≤ (k : Int) := by omega
    clear h h1 h4 hd hn
    go_enter Tryd.func8, Tryd.ntmps8
    go_wp2_with fail
    go_region
    have HAd : Hid (RcAt B O w.drew p H k) := HA.out.below (Below.refl _ _).drew
    go_wp2_with fail
    go_ret
    exact ⟨rfl, HAd.out, Off.of_below (Below.refl _ _).drew, fun C _ => (Below.refl _ _).drew⟩

/-- What New leaves. -/
def RcOut (H : List Int) (w : World) (e : Ending) (w' : World) : Prop := ∃ p, e = .returned (.pointer (some ⟨p, 0, none⟩)) ∧ RcAt w.heap.size (fun k => w.heap.size ≤ k ∧ k < w'.heap.size) w' p H 0 ∧ Below w.heap.size w w'
theorem rc_new {B p : Nat} {w : World} {a : Option Addr} {cap : Nat} {L : List Int} (h : w.heap[p]? = some (.cells #[.slice a L.length cap, .int .i64 0] 49 (0, 0))) (ho : w.ownsRow B 3 1 (.slice a L.length cap) L.length (L.map (.int .i64))) (hB : B ≤ p) (hl : L.length ≤ 1000000000) (hp : ∀ g, (Value.slice a L.length cap).ownBlock = some g → g ≠ p) : RcAt B (fun k => B ≤ k ∧ k < w.heap.size) w p L 0 := by
  have hpl := (Array.getElem?_eq_some_iff.1 h).1
  refine ⟨⟨a, cap, h, hl, fun h0 => ?_⟩, Nat.zero_le _, ⟨hB, hpl⟩, fun k hk => hk.1, fun k hk => hk.2⟩
  rcases own_cells ho with ⟨_, e⟩ | ⟨g, cp, e1, e2, e3, e4, e5⟩
  · omega
  · injection e1 with q1 q2 q3
    subst q1 q3
    refine ⟨g, rfl, ⟨e2, e3⟩, hp g rfl, fun j hj => ?_⟩
    have := e5 j (.int .i64 L[j]) (by simp [hj])
    simpa using this
set_option maxRecDepth 10000 in
set_option maxHeartbeats 1000000 in
theorem rcNew_any (v : Value) (L : List Int) (w : World) (h : IntsAt w v L) (hl : L.length ≤ 1000000000) : Calls Tryd.prog 6 #[v] w (RcOut L w) := by
  have HS : Hid (SrcAt w v L.length 1 (L.map (.int .i64))) := h.src
  obtain ⟨a, cap, rfl, hm⟩ := h.form
  clear h
  go_enter Tryd.func6, Tryd.ntmps6
  go_wp2_with (first
    | (at_builtin; refine append_src w rfl (.const (.slice none 0 0)) (.tmp 3) 22 3 (.int .i64 0) 1 8 rfl un38s info3s rfl (by decide) w.heap.size _ _ 0 L.length [] _ (by rfl) (by rfl) (World.ownsRow_nil _ _ _ _) HS.out (by unfold maxLen; omega) (by omega) (Nat.le_refl _) ?_; intro v1 w1 ho1 hg1 hn1; rw [Nat.zero_add, List.nil_append] at ho1; obtain ⟨ua, uc, rfl⟩ := own_form ho1))
  have HO1 : Hid (w1.ownsRow w.heap.size 3 1 (.slice ua L.length uc) L.length (L.map (.int .i64))) := ho1
  have HB1 : Hid (Below w.heap.size w w1) := (Below.refl _ _).grown hg1 (Nat.le_refl _) (fun g hg => by simp [Value.ownBlock] at hg)
  clear ho1 hg1 hn1
  go_ret
  have hX : Below w1.heap.size w1 (w1.alloc (.cells #[.slice ua L.length uc, .int .i64 0] 49)) := (Below.refl _ _).alloc (Nat.le_refl _) _
  refine ⟨w1.heap.size, rfl, rc_new (heap_alloc_new w1 _) (own_off HO1.out (S := fun _ => False) (fun _ _ h => h) (Off.of_below hX |>.less fun _ h => h)) HB1.out.size hl (fun g hg e => ?_), bl_next HB1.out hX⟩
  have := (HO1.out.lt g hg).2
  omega
set_option maxRecDepth 10000 in
set_option maxHeartbeats 1000000 in
theorem rcCopy_any (B : Nat) (O : Nat → Prop) (p : Nat) (H : List Int) (k : Nat) (w : World) (h : RcAt B O w p H k) : Calls Tryd.prog 10 #[.pointer (some ⟨p, 0, none⟩)] w fun e w' => ∃ q, e = .returned (.pointer (some ⟨q, 0, none⟩)) ∧ w.heap.size ≤ q ∧ RcAt B (fun j => O j ∨ j = q) w' q H k ∧ Below w.heap.size w w' := by
  have HA : Hid (RcAt B O w p H k) := h
  obtain ⟨a, cap, h1, h3, h4⟩ := h.ex
  have c0 : w.cell? ⟨p, 0, none⟩ = some (.slice a H.length cap) := cell_of h1 0
  have c1 : w.cell? ⟨p, 1, none⟩ = some (.int .i64 (k : Int)) := cell_of h1 1
  have HI : Hid (0 < H.length → ∃ g, a = some ⟨g, 0, none⟩ ∧ O g ∧ g ≠ p ∧ ∀ j (h : j < H.length), w.cell? ⟨g, j, none⟩ = some (.int .i64 H[j])) := h4
  clear h h1 h4
  go_enter Tryd.func10, Tryd.ntmps10
  go_wp2_with fail
  go_region
  go_wp2_with fail
  go_ret
  have hX : Below w.heap.size w (w.alloc (.cells #[.slice a H.length cap, .int .i64 (k : Int)] 49)).drew := ((Below.refl _ _).alloc (Nat.le_refl _) _).drew
  have hA := HA.out
  refine ⟨w.heap.size, rfl, Nat.le_refl _, ⟨⟨a, cap, heap_alloc_new w _, h3, fun h0 => ?_⟩, hA.kl, .inr rfl, ?_, ?_⟩, hX⟩
  · obtain ⟨g, e1, e2, e3, e4⟩ := HI.out h0
    have hg := hA.lt g e2
    exact ⟨g, e1, .inl e2, by omega, fun j hj => (hX.cell (p := ⟨g, j, none⟩) hg).trans (e4 j hj)⟩
  · rintro j (e | e)
    · exact hA.lo j e
    · have h1 := hA.lo p hA.op
      have h2 := hA.lt p hA.op
      omega
  · rintro j (e | e)
    · exact Nat.lt_of_lt_of_le (hA.lt j e) hX.size
    · rw [e]
      exact (Array.getElem?_eq_some_iff.1 (heap_alloc_new w (.cells #[.slice a H.length cap, .int .i64 (k : Int)] 49))).1
set_option maxRecDepth 10000 in
set_option maxHeartbeats 1000000 in
theorem scCopy_any (B : Nat) (O : Nat → Prop) (p : Nat) (L : List Int) (w : World) (h : ScAt B O w p L) : Calls Tryd.prog 9 #[.pointer (some ⟨p, 0, none⟩)] w (ScOut L w) := by
  obtain ⟨a, cap, h1, h2, h3, h4⟩ := h.ex
  have c0 : w.cell? ⟨p, 0, none⟩ = some (.slice a L.length cap) := cell_of h1 0
  have HI : Hid (∀ w', Below w.heap.size w w' → IntsAt w' (.slice a L.length cap) L) := fun w' hb => by
    refine ⟨a, cap, rfl, by unfold maxLen; omega, fun h0 => ?_⟩
    obtain ⟨g, off, e1, e2, e3, e4⟩ := h4 h0
    have hg := h.lt g e2
    exact ⟨g, off, e1, Nat.lt_of_lt_of_le hg hb.size, fun j hj => (hb.cell (p := ⟨g, off + j, none⟩) hg).trans (e4 j hj)⟩
  have HN : Hid (∀ w', Below w.heap.size w w' → Calls Tryd.prog 5 #[.slice a L.length cap] w' (ScOut L w')) := fun w' hb => scNew_any _ L w' (HI.out w' hb) h3
  clear h h1 h4
  go_enter Tryd.func9, Tryd.ntmps9
  go_wp2_with fail
  refine calls_at (HN.out _ (Below.refl _ _)) (by with_reducible rfl) (by with_reducible rfl) ?_
  rintro e w1 ⟨q, O', rfl, hS, hb⟩
  have HS : Hid (ScAt w.heap.size O' w1 q L ∧ Below w.heap.size w w1) := ⟨hS, hb⟩
  clear hS hb
  go_wp2_with fail
  go_ret
  exact ⟨q, O', rfl, HS.out.1, HS.out.2⟩
end Go.Proofs.YtdfbmfikhccajaaDoor
