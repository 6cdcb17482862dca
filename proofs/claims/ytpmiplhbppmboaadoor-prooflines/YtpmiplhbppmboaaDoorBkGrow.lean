/-
  The book: the list that was written full is laid on.
-/
import Derived.Test.YtpmiplhbppmboaaDoorBkDue
namespace Go.Proofs.YtpmiplhbppmboaaDoor
open Go Go.RowKit Go.Lib

/-- The list was laid on. -/
structure Grown (w : World) (P B : Nat) (turn deep : Int) (t : Tx) (lv tv : Value) (l : List ByteArray) (w' : World) (t' : Tx) (gv dv : Value) (l2 : List ByteArray) : Prop where
  same : t'.waits = t.waits ∧ t'.note = t.note ∧ t'.mark = t.mark ∧ t'.due = t.due ∧ t'.seen = t.seen
  none : t'.fresh = .slice none 0 0 ∧ t'.from_ = .slice none 0 0
  st : DS w P B turn deep t' [⟨41, t'.out, 2, [lv, gv]⟩, ⟨41, t'.told, 2, [tv, dv]⟩, ⟨9, lv, l.length, l.map Value.string⟩, ⟨9, tv, l.length, l.map Value.string⟩, ⟨9, gv, l2.length, l2.map Value.string⟩, ⟨9, dv, l2.length, l2.map Value.string⟩] w'

/-- What stays when a row grows that lies apart from all rows but the list at its head. -/
theorem DS.laid {w : World} {P B : Nat} {turn deep : Int} {t : Tx} {R : List Rw} {w' w2 : World} {e n N M : Nat} {lv gv gv' : Value} {xs ys zs : List Value} (h : DS w P B turn deep t R w') (hl : w'.ownsRow B e 1 lv n xs) (hg : w'.ownsRow B e 1 gv N (xs ++ ys)) (hg' : w2.ownsRow B e 1 gv' (N + M) (xs ++ ys ++ zs)) (hw : w'.grownBy w2 gv.ownBlock) (hc : App w' w2 gv gv' N M) (hR : ∀ r ∈ R, ∀ g, gv.ownBlock = some g → r.v.ownBlock ≠ some g) : DS w P B turn deep t (⟨e, gv', N + M, xs ++ (ys ++ zs)⟩ :: ⟨e, lv, n, xs⟩ :: R) w2 :=
  ((h.grown hw (fun g e => (hg.lt g e).1) hR).add ⟨e, lv, n, xs⟩ (keep_own hl hg hg' hw hc)).add ⟨e, gv', N + M, xs ++ (ys ++ zs)⟩ (by rw [← List.append_assoc]; exact hg')
theorem App.apart {w w' : World} {v v' : Value} {n m : Nat} (h : App w w' v v' n m) {u : Value} (ha : ∀ g, v.ownBlock = some g → u.ownBlock ≠ some g) (hu : ∀ g, u.ownBlock = some g → g < w.heap.size) : ∀ g, v'.ownBlock = some g → u.ownBlock ≠ some g := by
  intro g hg
  rcases h with ⟨g1, cap, rfl, rfl⟩ | ⟨_, h⟩
  · exact ha g hg
  · intro e
    have := hu g e
    rw [h] at hg
    injection hg with hg
    omega
theorem str_two (l l2 : List ByteArray) : ∀ u ∈ l.map Value.string ++ l2.map Value.string, u.oneCell' = true := fun u hu => by
  rcases List.mem_append.1 hu with h | h
  · exact str_one l u h
  · exact str_one l2 u h

/-- The row of lists that were handed out grows. -/
theorem out_grow {w : World} {P B : Nat} {turn deep : Int} {t : Tx} {V w1 : World} {la ga va oa ta ob : Option Addr} {n N lc gc vc oc tc od : Nat} {xs ys : List Value} (h : DS w P B turn deep t [⟨9, .slice ga N gc, N, ys⟩, ⟨9, .slice la n lc, n, xs⟩, ⟨41, .slice oa 1 oc, 1, [.slice la n lc]⟩, ⟨41, .slice ta 1 tc, 1, [.slice va n vc]⟩, ⟨9, .slice va n vc, n, xs⟩] V)
    (ha : ∀ g, (Value.slice oa 1 oc).ownBlock = some g → (Value.slice ta 1 tc).ownBlock ≠ some g) (g1 : w1.ownsRow B 41 1 (.slice ob 2 od) 2 [.slice la n lc, .slice ga N gc]) (g2 : V.grownBy w1 (Value.slice oa 1 oc).ownBlock) :
    DS w P B turn deep t [⟨41, .slice ob 2 od, 2, [.slice la n lc, .slice ga N gc]⟩, ⟨41, .slice ta 1 tc, 1, [.slice va n vc]⟩, ⟨9, .slice la n lc, n, xs⟩, ⟨9, .slice ga N gc, N, ys⟩, ⟨9, .slice va n vc, n, xs⟩] w1 := by
  have ho := h.rows ⟨41, .slice oa 1 oc, 1, [.slice la n lc]⟩ (by simp)
  have hl := h.rows ⟨9, .slice la n lc, n, xs⟩ (by simp)
  have hg := h.rows ⟨9, .slice ga N gc, N, ys⟩ (by simp)
  have hv := h.rows ⟨9, .slice va n vc, n, xs⟩ (by simp)
  refine ((h.less (R' := [⟨41, .slice ta 1 tc, 1, [.slice va n vc]⟩, ⟨9, .slice la n lc, n, xs⟩, ⟨9, .slice ga N gc, N, ys⟩, ⟨9, .slice va n vc, n, xs⟩]) ?_).grown g2 (fun g e => (ho.lt g e).1) ?_).add ⟨41, .slice ob 2 od, 2, [.slice la n lc, .slice ga N gc]⟩ g1
  · intro r hr
    simp only [List.mem_cons, List.not_mem_nil, or_false] at hr
    rcases hr with rfl | rfl | rfl | rfl <;> simp
  · intro r hr g hg'
    simp only [List.mem_cons, List.not_mem_nil, or_false] at hr
    rcases hr with rfl | rfl | rfl | rfl
    · exact ha g hg'
    · exact own_types (e := 41) (e' := 9) ho hl (by decide) g hg'
    · exact own_types (e := 41) (e' := 9) ho hg (by decide) g hg'
    · exact own_types (e := 41) (e' := 9) ho hv (by decide) g hg'

set_option maxRecDepth 100000 in
set_option maxHeartbeats 8000000 in
theorem growTexts_one (P B : Nat) (turn deep : Int) (t : Tx) (w : World) (lv tv : Value) (l : List ByteArray) (m : Int) (h : DS w P B turn deep t [⟨41, t.out, 1, [lv]⟩, ⟨41, t.told, 1, [tv]⟩, ⟨41, t.fresh, 1, [lv]⟩, ⟨3, t.from_, 1, [.int .i64 m]⟩, ⟨9, lv, l.length, l.map Value.string⟩, ⟨9, tv, l.length, l.map Value.string⟩] w) (hP : 2 ≤ P) (ht : Tab w)
    (ha : ∀ g, t.out.ownBlock = some g → t.told.ownBlock ≠ some g) (ha' : ∀ g, lv.ownBlock = some g → tv.ownBlock ≠ some g) (hn : l.length ≤ 1000000) (hm : 0 ≤ m ∧ m ≤ 1000) :
    Calls Tryd.prog 67 #[.pointer (some ⟨P, 0, none⟩)] w fun e w' => e = .returned (.tuple #[]) ∧ ∃ t' gv dv l2, Grown w P B turn deep t lv tv l w' t' gv dv l2 := by
  obtain ⟨o, tl, wa, no, fr, ma, du, fm, se⟩ := t
  obtain ⟨la, lc, hv⟩ := own_form (h.rows ⟨9, lv, l.length, l.map Value.string⟩ (by simp))
  change lv = .slice la l.length lc at hv
  subst hv
  obtain ⟨va, vc, hv⟩ := own_form (h.rows ⟨9, tv, l.length, l.map Value.string⟩ (by simp))
  change tv = .slice va l.length vc at hv
  subst hv
  obtain ⟨oa, oc, hv⟩ := own_form (h.rows ⟨41, o, 1, [(.slice la l.length lc)]⟩ (by simp))
  change o = .slice oa 1 oc at hv
  subst hv
  obtain ⟨ta, tc, hv⟩ := own_form (h.rows ⟨41, tl, 1, [(.slice va l.length vc)]⟩ (by simp))
  change tl = .slice ta 1 tc at hv
  subst hv
  obtain ⟨g4, c4, hv, hc4⟩ := one_form (h.rows ⟨41, fr, 1, [(.slice la l.length lc)]⟩ (by simp))
  change fr = _ at hv
  subst hv
  obtain ⟨g7, c7, hv, hc7⟩ := one_form (h.rows ⟨3, fm, 1, [.int .i64 m]⟩ (by simp))
  change fm = _ at hv
  subst hv
  have HT : Hid (Tab w) := ht
  have HP : Hid (2 ≤ P) := hP
  have HA0 : Hid (DS w P B turn deep ⟨(.slice oa 1 oc), (.slice ta 1 tc), wa, no, (.slice (some ⟨g4, 0, none⟩) 1 c4), ma, du, (.slice (some ⟨g7, 0, none⟩) 1 c7), se⟩ [⟨41, .slice oa 1 oc, 1, [.slice la l.length lc]⟩, ⟨41, .slice ta 1 tc, 1, [.slice va l.length vc]⟩, ⟨41, .slice (some ⟨g4, 0, none⟩) 1 c4, 1, [.slice la l.length lc]⟩, ⟨3, .slice (some ⟨g7, 0, none⟩) 1 c7, 1, [.int .i64 m]⟩, ⟨9, .slice la l.length lc, l.length, l.map Value.string⟩, ⟨9, .slice va l.length vc, l.length, l.map Value.string⟩] w) := h
  have HAp : Hid (∀ g, (Value.slice oa 1 oc).ownBlock = some g → (Value.slice ta 1 tc).ownBlock ≠ some g) := ha
  have HAq : Hid (∀ g, (Value.slice la l.length lc).ownBlock = some g → (Value.slice va l.length vc).ownBlock ≠ some g) := ha'
  clear h ht hP ha ha'
  go_enter Tryd.func67, Tryd.ntmps67
  go_wp2_with fail
  go_loopw [2] (fun iv wr => (iv = .int .i64 0 ∧ Hid (DS w P B turn deep ⟨(.slice oa 1 oc), (.slice ta 1 tc), wa, no, (.slice (some ⟨g4, 0, none⟩) 1 c4), ma, du, (.slice (some ⟨g7, 0, none⟩) 1 c7), se⟩ [⟨41, .slice oa 1 oc, 1, [.slice la l.length lc]⟩, ⟨41, .slice ta 1 tc, 1, [.slice va l.length vc]⟩, ⟨41, .slice (some ⟨g4, 0, none⟩) 1 c4, 1, [.slice la l.length lc]⟩, ⟨3, .slice (some ⟨g7, 0, none⟩) 1 c7, 1, [.int .i64 m]⟩, ⟨9, .slice la l.length lc, l.length, l.map Value.string⟩, ⟨9, .slice va l.length vc, l.length, l.map Value.string⟩] wr)) ∨ (iv = .int .i64 1 ∧ Hid (∃ (k : Nat) (l2 : List ByteArray) (ga : Option Addr) (gc : Nat) (ob : Option Addr) (od : Nat) (da : Option Addr) (dc : Nat) (tb : Option Addr) (td : Nat), l2.length = k ∧ DS w P B turn deep ⟨(.slice ob 2 od), (.slice tb 2 td), wa, no, (.slice (some ⟨g4, 0, none⟩) 1 c4), ma, du, (.slice (some ⟨g7, 0, none⟩) 1 c7), se⟩ [⟨41, .slice tb 2 td, 2, [.slice va l.length vc, .slice da (l.length + k) dc]⟩, ⟨41, .slice ob 2 od, 2, [.slice la l.length lc, .slice ga (l.length + k) gc]⟩, ⟨9, .slice la l.length lc, l.length, l.map Value.string⟩, ⟨9, .slice ga (l.length + k) gc, l.length + k, l.map Value.string ++ l2.map Value.string⟩, ⟨9, .slice va l.length vc, l.length, l.map Value.string⟩, ⟨9, .slice da (l.length + k) dc, l.length + k, l.map Value.string ++ l2.map Value.string⟩] wr))) (fun iv _ => 1 - (RowKit.intOf iv).toNat)
  case atStart => exact .inl ⟨rfl, HA0⟩
  case round =>
    rcases hrel with ⟨rfl, hA⟩ | ⟨rfl, hF⟩
    · clear HA0
      have p4 := one_cell (hA.out.rows ⟨41, .slice (some ⟨g4, 0, none⟩) 1 c4, 1, [.slice la l.length lc]⟩ (by simp))
      have p7 := one_cell (hA.out.rows ⟨3, .slice (some ⟨g7, 0, none⟩) 1 c7, 1, [.int .i64 m]⟩ (by simp))
      have b4 := hA.out.book.cell 17 (.slice (some ⟨g4, 0, none⟩) 1 c4) rfl
      have b7 := hA.out.book.cell 20 (.slice (some ⟨g7, 0, none⟩) 1 c7) rfl
      go_wp2_with fail
      go_loopw [4, 5] (fun gv iv wx => ∃ (k : Nat) (l2 : List ByteArray) (ga : Option Addr) (gc : Nat), gv = (.slice ga (l.length + k) gc) ∧ iv = .int .i64 (k : Int) ∧ k ≤ 30 ∧ l2.length = k ∧ Hid ((∀ g, (Value.slice ga (l.length + k) gc).ownBlock = some g → (Value.slice va l.length vc).ownBlock ≠ some g) ∧ DS w P B turn deep ⟨(.slice oa 1 oc), (.slice ta 1 tc), wa, no, (.slice (some ⟨g4, 0, none⟩) 1 c4), ma, du, (.slice (some ⟨g7, 0, none⟩) 1 c7), se⟩ [⟨9, .slice ga (l.length + k) gc, l.length + k, l.map Value.string ++ l2.map Value.string⟩, ⟨9, .slice la l.length lc, l.length, l.map Value.string⟩, ⟨41, .slice oa 1 oc, 1, [.slice la l.length lc]⟩, ⟨41, .slice ta 1 tc, 1, [.slice va l.length vc]⟩, ⟨9, .slice va l.length vc, l.length, l.map Value.string⟩] wx)) (fun _ iv _ => 30 - (RowKit.intOf iv).toNat)
      case atStart => exact ⟨0, [], la, lc, rfl, rfl, by omega, rfl, HAq.out, by
        have hh := ((hA.out.less (R' := [⟨9, .slice la l.length lc, l.length, l.map Value.string⟩, ⟨41, .slice oa 1 oc, 1, [.slice la l.length lc]⟩, ⟨41, .slice ta 1 tc, 1, [.slice va l.length vc]⟩, ⟨9, .slice va l.length vc, l.length, l.map Value.string⟩]) (by intro r hr; simp only [List.mem_cons, List.not_mem_nil, or_false] at hr; rcases hr with rfl | rfl | rfl | rfl <;> simp)).add ⟨9, (.slice la l.length lc), l.length, l.map Value.string⟩ (hA.out.rows ⟨9, .slice la l.length lc, l.length, l.map Value.string⟩ (by simp)))
        simpa using hh⟩
      case round =>
        clear p4 p7 b4 b7 hA
        obtain ⟨k, l2, ga, gc, rfl, rfl, hk, hl2, hD⟩ := hrel
        rename World => wx
        by_cases hkN : k < 30
        · have hkI : (k : Int) < 30 := by omega
          have hw1 : wrap64 (5 * (k : Int)) = 5 * (k : Int) := by unfold wrap64; omega
          have hw0 : wrap64 (m + 6) = m + 6 := by unfold wrap64; omega
          have hw2 : wrap64 (m + 6 + 5 * (k : Int)) = m + 6 + 5 * (k : Int) := by unfold wrap64; omega
          have HI : Hid (Calls Tryd.prog 85 #[.int .i64 (m + 6 + 5 * (k : Int))] wx fun e w' => (∃ s, e = .returned (.string s)) ∧ Below wx.heap.size wx w') := itoa_any _ _ (by omega) (by omega) (hD.out.2.tab HT.out HP.out)
          go_wp2_with (first | (go_at_call 85; refine calls_at HI.out (by with_reducible rfl) (by with_reducible rfl) ?_; rintro e w2 ⟨⟨s, rfl⟩, hb⟩; have HD2 : Hid (DS w P B turn deep ⟨(.slice oa 1 oc), (.slice ta 1 tc), wa, no, (.slice (some ⟨g4, 0, none⟩) 1 c4), ma, du, (.slice (some ⟨g7, 0, none⟩) 1 c7), se⟩ [⟨9, .slice ga (l.length + k) gc, l.length + k, l.map Value.string ++ l2.map Value.string⟩, ⟨9, .slice la l.length lc, l.length, l.map Value.string⟩, ⟨41, .slice oa 1 oc, 1, [.slice la l.length lc]⟩, ⟨41, .slice ta 1 tc, 1, [.slice va l.length vc]⟩, ⟨9, .slice va l.length vc, l.length, l.map Value.string⟩] w2) := hD.out.2.below hb; clear hb; obtain ⟨V1, hV1⟩ : ∃ V, w2.alloc (.cells #[.string s] 9) = V := ⟨_, rfl⟩; have HS1 : Hid (SrcAt V1 (.slice (some ⟨w2.heap.size, 0, none⟩) 1 1) 1 1 [.string s]) := src_one (t := 9) (hV1 ▸ World.alloc_heap_new w2 _) rfl; have HD3 : Hid (DS w P B turn deep ⟨(.slice oa 1 oc), (.slice ta 1 tc), wa, no, (.slice (some ⟨g4, 0, none⟩) 1 c4), ma, du, (.slice (some ⟨g7, 0, none⟩) 1 c7), se⟩ [⟨9, .slice ga (l.length + k) gc, l.length + k, l.map Value.string ++ l2.map Value.string⟩, ⟨9, .slice la l.length lc, l.length, l.map Value.string⟩, ⟨41, .slice oa 1 oc, 1, [.slice la l.length lc]⟩, ⟨41, .slice ta 1 tc, 1, [.slice va l.length vc]⟩, ⟨9, .slice va l.length vc, l.length, l.map Value.string⟩] V1) := HD2.out.below (hV1 ▸ (Below.refl _ _).alloc (Nat.le_refl _) _)) | (at_builtin; (first | rw [hV1] | skip); (refine append_keep V1 rfl (.tmp 33) (.tmp 40) 41 9 (.string ⟨#[]⟩) 1 16 rfl und41' info9' rfl (by decide) B (.slice ga (l.length + k) gc) _ (l.length + k) 1 (l.map Value.string ++ l2.map Value.string) _ (by rfl) (by rfl) (HD3.out.rows ⟨9, .slice ga (l.length + k) gc, l.length + k, l.map Value.string ++ l2.map Value.string⟩ (by simp)) HS1.out (by unfold maxLen; omega) (by omega) HD3.out.size (by omega) ?_; intro v1 w3 g1 g2 g3; obtain ⟨x1, y1, hv⟩ := own_form g1; subst hv; have HG : Hid (w3.ownsRow B 9 1 (.slice x1 (l.length + (k + 1)) y1) (l.length + (k + 1)) ((l.map Value.string ++ l2.map Value.string) ++ [.string s]) ∧ V1.grownBy w3 (Value.slice ga (l.length + k) gc).ownBlock ∧ App V1 w3 (.slice ga (l.length + k) gc) (.slice x1 (l.length + k + 1) y1) (l.length + k) 1) := ⟨g1, g2, g3⟩; clear g1 g2 g3)))
          obtain ⟨g1, g2, g3⟩ := HG.out
          have HD4 : Hid (∃ l3 : List ByteArray, l3.length = k + 1 ∧ (∀ g, (Value.slice x1 (l.length + (k + 1)) y1).ownBlock = some g → (Value.slice va l.length vc).ownBlock ≠ some g) ∧ DS w P B turn deep ⟨(.slice oa 1 oc), (.slice ta 1 tc), wa, no, (.slice (some ⟨g4, 0, none⟩) 1 c4), ma, du, (.slice (some ⟨g7, 0, none⟩) 1 c7), se⟩ [⟨9, .slice x1 (l.length + (k + 1)) y1, l.length + (k + 1), l.map Value.string ++ l3.map Value.string⟩, ⟨9, .slice la l.length lc, l.length, l.map Value.string⟩, ⟨41, .slice oa 1 oc, 1, [.slice la l.length lc]⟩, ⟨41, .slice ta 1 tc, 1, [.slice va l.length vc]⟩, ⟨9, .slice va l.length vc, l.length, l.map Value.string⟩] w3) := by
            refine ⟨l2 ++ [s], by rw [List.length_append, hl2]; rfl, g3.apart hD.out.1 (fun g hg => ((HD3.out.rows ⟨9, .slice va l.length vc, l.length, l.map Value.string⟩ (by simp)).lt g hg).2), ?_⟩
            rw [List.map_append]
            refine (HD3.out.less (R' := [⟨41, .slice oa 1 oc, 1, [.slice la l.length lc]⟩, ⟨41, .slice ta 1 tc, 1, [.slice va l.length vc]⟩, ⟨9, .slice va l.length vc, l.length, l.map Value.string⟩]) ?_).laid (e := 9) (n := l.length) (N := l.length + k) (M := 1) (lv := (.slice la l.length lc)) (gv := (.slice ga (l.length + k) gc)) (gv' := .slice x1 (l.length + k + 1) y1) (xs := l.map Value.string) (ys := l2.map Value.string) (zs := [.string s]) (HD3.out.rows ⟨9, .slice la l.length lc, l.length, l.map Value.string⟩ (by simp)) (HD3.out.rows ⟨9, .slice ga (l.length + k) gc, l.length + k, l.map Value.string ++ l2.map Value.string⟩ (by simp)) g1 g2 g3 ?_
            · intro r hr
              simp only [List.mem_cons, List.not_mem_nil, or_false] at hr
              rcases hr with rfl | rfl | rfl <;> simp
            · intro r hr g hg
              simp only [List.mem_cons, List.not_mem_nil, or_false] at hr
              rcases hr with rfl | rfl | rfl
              · exact own_types (e := 9) (e' := 41) (HD3.out.rows ⟨9, .slice ga (l.length + k) gc, l.length + k, l.map Value.string ++ l2.map Value.string⟩ (by simp)) (HD3.out.rows ⟨41, .slice oa 1 oc, 1, [.slice la l.length lc]⟩ (by simp)) (by decide) g hg
              · exact own_types (e := 9) (e' := 41) (HD3.out.rows ⟨9, .slice ga (l.length + k) gc, l.length + k, l.map Value.string ++ l2.map Value.string⟩ (by simp)) (HD3.out.rows ⟨41, .slice ta 1 tc, 1, [.slice va l.length vc]⟩ (by simp)) (by decide) g hg
              · exact hD.out.1 g hg
          go_roundw
          case rel =>
            obtain ⟨l3, hl3, hd3⟩ := HD4.out
            exact ⟨k + 1, l3, x1, y1, rfl, by go_num, by omega, hl3, hd3⟩
          case measure => simp [RowKit.intOf]; omega
        · have hkI : ¬ (k : Int) < 30 := by omega
          have pw : wx.cell? ⟨P, 13, none⟩ = some (.slice oa 1 oc) := hD.out.2.book.cell 13 _ rfl
          obtain ⟨V1, hV1⟩ : ∃ V, wx.alloc (.cells #[(.slice ga (l.length + k) gc)] 41) = V := ⟨_, rfl⟩
          have HS1 : Hid (SrcAt V1 (.slice (some ⟨wx.heap.size, 0, none⟩) 1 1) 1 1 [(.slice ga (l.length + k) gc)]) := src_one (t := 41) (by rw [← hV1]; exact World.alloc_heap_new wx _) rfl
          have HB1 : Hid (DS w P B turn deep ⟨(.slice oa 1 oc), (.slice ta 1 tc), wa, no, (.slice (some ⟨g4, 0, none⟩) 1 c4), ma, du, (.slice (some ⟨g7, 0, none⟩) 1 c7), se⟩ [⟨9, .slice ga (l.length + k) gc, l.length + k, l.map Value.string ++ l2.map Value.string⟩, ⟨9, .slice la l.length lc, l.length, l.map Value.string⟩, ⟨41, .slice oa 1 oc, 1, [.slice la l.length lc]⟩, ⟨41, .slice ta 1 tc, 1, [.slice va l.length vc]⟩, ⟨9, .slice va l.length vc, l.length, l.map Value.string⟩] V1) := hD.out.2.below (hV1 ▸ (Below.refl _ _).alloc (Nat.le_refl _) _)
          go_wp2_with (at_builtin; (first | rw [hV1] | skip); go_loud (refine append_keep V1 rfl (.tmp 46) (.tmp 48) 25 41 (.slice none 0 0) 1 24 rfl und25' info41' rfl (by decide) B (.slice oa 1 oc) _ 1 1 [(.slice la l.length lc)] _ (by rfl) (by rfl) (HB1.out.rows ⟨41, .slice oa 1 oc, 1, [.slice la l.length lc]⟩ (by simp)) HS1.out (by unfold maxLen; omega) (by omega) HB1.out.size (by omega) ?_; intro v1 w1 g1 g2 g3; obtain ⟨ob, od, hv⟩ := own_form g1; subst hv; have HG : Hid (w1.ownsRow B 41 1 (.slice ob 2 od) 2 [(.slice la l.length lc), (.slice ga (l.length + k) gc)] ∧ V1.grownBy w1 (Value.slice oa 1 oc).ownBlock ∧ App V1 w1 (.slice oa 1 oc) (.slice ob 2 od) 1 1) := ⟨g1, g2, g3⟩; have HB2 : Hid (DS w P B turn deep ⟨(.slice oa 1 oc), (.slice ta 1 tc), wa, no, (.slice (some ⟨g4, 0, none⟩) 1 c4), ma, du, (.slice (some ⟨g7, 0, none⟩) 1 c7), se⟩ [⟨41, .slice ob 2 od, 2, [.slice la l.length lc, .slice ga (l.length + k) gc]⟩, ⟨41, .slice ta 1 tc, 1, [.slice va l.length vc]⟩, ⟨9, .slice la l.length lc, l.length, l.map Value.string⟩, ⟨9, .slice ga (l.length + k) gc, l.length + k, l.map Value.string ++ l2.map Value.string⟩, ⟨9, .slice va l.length vc, l.length, l.map Value.string⟩] w1) := out_grow HB1.out HAp.out g1 g2; have r13 : w1.cell? ⟨P, 13, none⟩ = some (.slice oa 1 oc) := HB2.out.book.cell 13 _ rfl; have s13 := HB2.out.book.free 13; obtain ⟨X1, hX1⟩ : ∃ W, w1.setCell ⟨P, 13, none⟩ (.slice ob 2 od) = W := ⟨_, rfl⟩; have HB3 : Hid (DS w P B turn deep ⟨(.slice ob 2 od), (.slice ta 1 tc), wa, no, (.slice (some ⟨g4, 0, none⟩) 1 c4), ma, du, (.slice (some ⟨g7, 0, none⟩) 1 c7), se⟩ [⟨41, .slice ob 2 od, 2, [.slice la l.length lc, .slice ga (l.length + k) gc]⟩, ⟨41, .slice ta 1 tc, 1, [.slice va l.length vc]⟩, ⟨9, .slice la l.length lc, l.length, l.map Value.string⟩, ⟨9, .slice ga (l.length + k) gc, l.length + k, l.map Value.string ++ l2.map Value.string⟩, ⟨9, .slice va l.length vc, l.length, l.map Value.string⟩] X1) := hX1 ▸ HB2.out.set 13 _ rfl; clear g1 g2 g3))
          have HAr : Hid (∀ g, (Value.slice ob 2 od).ownBlock = some g → (Value.slice ta 1 tc).ownBlock ≠ some g) := HG.out.2.2.apart HAp.out (fun g hg => ((HB1.out.rows ⟨41, .slice ta 1 tc, 1, [.slice va l.length vc]⟩ (by simp)).lt g hg).2)
          have HAv : Hid (DS w P B turn deep ⟨(.slice ob 2 od), (.slice ta 1 tc), wa, no, (.slice (some ⟨g4, 0, none⟩) 1 c4), ma, du, (.slice (some ⟨g7, 0, none⟩) 1 c7), se⟩ [⟨41, .slice ob 2 od, 2, [.slice la l.length lc, .slice ga (l.length + k) gc]⟩, ⟨41, .slice ta 1 tc, 1, [.slice va l.length vc]⟩, ⟨9, .slice la l.length lc, l.length, l.map Value.string⟩, ⟨9, .slice ga (l.length + k) gc, l.length + k, l.map Value.string ++ l2.map Value.string⟩, ⟨9, .slice va l.length vc, l.length, l.map Value.string⟩] X1.drew) := HB3.out.below (Below.refl _ _).drew
          have HC : Hid (∀ w', DS w P B turn deep ⟨(.slice ob 2 od), (.slice ta 1 tc), wa, no, (.slice (some ⟨g4, 0, none⟩) 1 c4), ma, du, (.slice (some ⟨g7, 0, none⟩) 1 c7), se⟩ [⟨41, .slice ob 2 od, 2, [.slice la l.length lc, .slice ga (l.length + k) gc]⟩, ⟨41, .slice ta 1 tc, 1, [.slice va l.length vc]⟩, ⟨9, .slice la l.length lc, l.length, l.map Value.string⟩, ⟨9, .slice ga (l.length + k) gc, l.length + k, l.map Value.string ++ l2.map Value.string⟩, ⟨9, .slice va l.length vc, l.length, l.map Value.string⟩] w' → w'.cell? ⟨P, 14, none⟩ = some (.slice ta 1 tc)) := fun w' h => h.book.cell 14 _ rfl
          refine wp_region_T (fun _ => True) (fun w' => w'.cell? ⟨P, 14, none⟩ = some (.slice ta 1 tc)) [12] (by kernel_rfl) ⟨trivial, HC.out _ HAv.out⟩ (fun hHeld => ?_)
          clear pw r13 s13 HG HB1 HB2 HB3 HS1 hV1 hX1 hD
          generalize X1.drew = U2 at HAv hHeld ⊢
          refine wpAnyT_takeB (i := 0) (oi := ⟨some 52, .move (.tmp 0), _, _, _, _⟩) (v := ?vR10c1x0) rfl (by kernel_rfl) (by kernel_rfl) (by kernel_rfl) (by kernel_rfl) (fun _ _ _ h => h) (Or.inl ⟨by rfl, ?hyR10c1x0⟩) (by assumption) ?restR10c1x0
          case hyR10c1x0 => (intro w hSw; (try dsimp only at hSw); go_simp; try (with_reducible rfl))
          try simp only [Act.put, List.setIfInBounds_toArray, List.set_cons_zero, List.set_cons_succ]
          refine wpAnyT_takeB (i := 1) (oi := ⟨some 53, .move (.tmp 0), _, _, _, _⟩) (v := ?vR10c1x1) rfl (by kernel_rfl) (by kernel_rfl) (by kernel_rfl) (by kernel_rfl) (fun _ _ _ h => h) (Or.inl ⟨by rfl, ?hyR10c1x1⟩) (by assumption) ?restR10c1x1
          case hyR10c1x1 => (intro w hSw; (try dsimp only at hSw); go_simp; try (with_reducible rfl))
          try simp only [Act.put, List.setIfInBounds_toArray, List.set_cons_zero, List.set_cons_succ]
          refine wpAnyT_takeB (i := 2) (oi := ⟨some 54, .nilCheck (.tmp 53), _, _, _, _⟩) (v := ?vR10c1x2) rfl (by kernel_rfl) (by kernel_rfl) (by kernel_rfl) (by kernel_rfl) (fun _ _ _ h => h) (Or.inl ⟨by rfl, ?hyR10c1x2⟩) (by assumption) ?restR10c1x2
          case hyR10c1x2 => (intro w hSw; (try dsimp only at hSw); go_simp; try (with_reducible rfl))
          try simp only [Act.put, List.setIfInBounds_toArray, List.set_cons_zero, List.set_cons_succ]
          refine wpAnyT_takeB (i := 3) (oi := ⟨some 55, .fieldAddr 40 (.tmp 54) 14, _, _, _, _⟩) (v := ?vR10c1x3) rfl (by kernel_rfl) (by kernel_rfl) (by kernel_rfl) (by kernel_rfl) (fun _ _ _ h => h) (Or.inl ⟨by rfl, ?hyR10c1x3⟩) (by assumption) ?restR10c1x3
          case hyR10c1x3 => (intro w hSw; (try dsimp only at hSw); go_simp; try (with_reducible rfl))
          try simp only [Act.put, List.setIfInBounds_toArray, List.set_cons_zero, List.set_cons_succ]
          refine wpAnyT_take (i := 4) (oi := ⟨some 56, .load 25 (.tmp 55), _, _, _, _⟩) (v := ?vR10c1x4) rfl (by kernel_rfl) (by kernel_rfl) (by kernel_rfl) (by kernel_rfl) (by kernel_rfl) (fun _ _ _ h => h) (Or.inl ⟨by rfl, ?hyR10c1x4⟩) (by assumption) ?restR10c1x4
          case hyR10c1x4 => (intro w hSw; (try dsimp only at hSw); go_simp; try (with_reducible rfl))
          try simp only [Act.put, List.setIfInBounds_toArray, List.set_cons_zero, List.set_cons_succ]
          refine wpAnyT_takeB (i := 6) (oi := ⟨some 58, .move (.tmp 4), _, _, _, _⟩) (v := ?vR10c1x6) rfl (by kernel_rfl) (by kernel_rfl) (by kernel_rfl) (by kernel_rfl) (fun _ _ _ h => h) (Or.inl ⟨by rfl, ?hyR10c1x6⟩) (by assumption) ?restR10c1x6
          case hyR10c1x6 => (intro w hSw; (try dsimp only at hSw); go_simp; try (with_reducible rfl))
          try simp only [Act.put, List.setIfInBounds_toArray, List.set_cons_zero, List.set_cons_succ]
          refine wpAnyT_one (i := 5) (o := ⟨some 57, .buildSlice 41 0 #[], _, _, _, _⟩) (by kernel_rfl) rfl (fun K hK => ?_)
          go_simp
          obtain ⟨Ua, hUa⟩ : ∃ V, U2.alloc (.cells #[] 9) = V := ⟨_, rfl⟩
          have hb : RowKit.Below U2.heap.size U2 Ua := by rw [← hUa]; exact (Below.refl _ _).alloc (Nat.le_refl _) _
          have hO : Ua.heap[U2.heap.size]? = some (.cells #[] 9) := by rw [← hUa]; exact World.alloc_heap_new U2 _
          rw [hUa]
          have HAa : Hid (DS w P B turn deep ⟨(.slice ob 2 od), (.slice ta 1 tc), wa, no, (.slice (some ⟨g4, 0, none⟩) 1 c4), ma, du, (.slice (some ⟨g7, 0, none⟩) 1 c7), se⟩ [⟨41, .slice ob 2 od, 2, [.slice la l.length lc, .slice ga (l.length + k) gc]⟩, ⟨41, .slice ta 1 tc, 1, [.slice va l.length vc]⟩, ⟨9, .slice la l.length lc, l.length, l.map Value.string⟩, ⟨9, .slice ga (l.length + k) gc, l.length + k, l.map Value.string ++ l2.map Value.string⟩, ⟨9, .slice va l.length vc, l.length, l.map Value.string⟩] Ua) := HAv.out.below hb
          have HRa : Hid (∀ r ∈ [(⟨41, .slice ob 2 od, 2, [.slice la l.length lc, .slice ga (l.length + k) gc]⟩ : Rw), ⟨41, .slice ta 1 tc, 1, [.slice va l.length vc]⟩, ⟨9, .slice la l.length lc, l.length, l.map Value.string⟩, ⟨9, .slice ga (l.length + k) gc, l.length + k, l.map Value.string ++ l2.map Value.string⟩, ⟨9, .slice va l.length vc, l.length, l.map Value.string⟩], r.v.ownBlock ≠ some U2.heap.size) := fun r hr e => by have := ((HAv.out.rows r hr).lt _ e).2; omega
          have HZ : Hid (Ua.ownsRow B 9 1 (.slice (some ⟨U2.heap.size, 0, none⟩) 0 0) 0 []) := ⟨rfl, .inr ⟨U2.heap.size, 0, #[], rfl, HAv.out.size, hO, Nat.le_refl _, Nat.zero_le _, rfl, rfl⟩⟩
          have HSr : Hid (SrcAt Ua (.slice ga (l.length + k) gc) (l.length + k) 1 (l.map Value.string ++ l2.map Value.string)) := own_src (HAa.out.rows ⟨9, .slice ga (l.length + k) gc, l.length + k, l.map Value.string ++ l2.map Value.string⟩ (by simp)) (str_two l l2)
          clear hO hb hUa
          refine hK.out _ _ ⟨trivial, fun _ => HC.out _ HAa.out⟩ ?_
          have hHeld := (⟨trivial, HC.out _ HAa.out⟩ : True ∧ _)
          clear hK K
          try simp only [Act.put, List.setIfInBounds_toArray, List.set_cons_zero, List.set_cons_succ]
          refine wpAnyT_one (i := 7) (o := ⟨some 59, .call { callee := .builtin .append, args := #[(.tmp 57), (.tmp 58)], argTypes := #[41, 41] }, _, _, _, _⟩) (by kernel_rfl) rfl (fun K hK => ?_)
          refine op_append_src Ua (.tmp 57) (.tmp 58) 41 9 (.string ⟨#[]⟩) 1 16 rfl und41' info9' rfl (by decide) B _ _ 0 (l.length + k) [] (l.map Value.string ++ l2.map Value.string) (by rfl) (by rfl) HZ.out HSr.out (by unfold maxLen; omega) (by omega) HAa.out.size (by rfl) ?_
          intro v2 w2 g1 g2 g3
          obtain ⟨da, dc, hv2⟩ := own_form g1
          rw [Nat.zero_add, List.nil_append] at g1
          rw [Nat.zero_add] at hv2
          subst hv2
          have HAb : Hid (DS w P B turn deep ⟨(.slice ob 2 od), (.slice ta 1 tc), wa, no, (.slice (some ⟨g4, 0, none⟩) 1 c4), ma, du, (.slice (some ⟨g7, 0, none⟩) 1 c7), se⟩ [⟨9, .slice da (l.length + k) dc, l.length + k, l.map Value.string ++ l2.map Value.string⟩, ⟨41, .slice ob 2 od, 2, [.slice la l.length lc, .slice ga (l.length + k) gc]⟩, ⟨41, .slice ta 1 tc, 1, [.slice va l.length vc]⟩, ⟨9, .slice la l.length lc, l.length, l.map Value.string⟩, ⟨9, .slice ga (l.length + k) gc, l.length + k, l.map Value.string ++ l2.map Value.string⟩, ⟨9, .slice va l.length vc, l.length, l.map Value.string⟩] w2) := (HAa.out.grown g2 (fun g e => by injection e with e; subst e; exact HAv.out.size) (fun r hr g e => by injection e with e; subst e; exact HRa.out r hr)).add ⟨9, .slice da (l.length + k) dc, l.length + k, l.map Value.string ++ l2.map Value.string⟩ g1
          have HC : Hid (∀ w', DS w P B turn deep ⟨(.slice ob 2 od), (.slice ta 1 tc), wa, no, (.slice (some ⟨g4, 0, none⟩) 1 c4), ma, du, (.slice (some ⟨g7, 0, none⟩) 1 c7), se⟩ [⟨9, .slice da (l.length + k) dc, l.length + k, l.map Value.string ++ l2.map Value.string⟩, ⟨41, .slice ob 2 od, 2, [.slice la l.length lc, .slice ga (l.length + k) gc]⟩, ⟨41, .slice ta 1 tc, 1, [.slice va l.length vc]⟩, ⟨9, .slice la l.length lc, l.length, l.map Value.string⟩, ⟨9, .slice ga (l.length + k) gc, l.length + k, l.map Value.string ++ l2.map Value.string⟩, ⟨9, .slice va l.length vc, l.length, l.map Value.string⟩] w' → w'.cell? ⟨P, 14, none⟩ = some (.slice ta 1 tc)) := fun w' h => h.book.cell 14 _ rfl
          clear g1 g2 g3
          refine hK.out _ _ ⟨trivial, fun _ => HC.out _ HAb.out⟩ ?_
          have hHeld := (⟨trivial, HC.out _ HAb.out⟩ : True ∧ _)
          clear hK K
          try simp only [Act.put, List.setIfInBounds_toArray, List.set_cons_zero, List.set_cons_succ]
          refine wpAnyT_one (i := 8) (o := ⟨some 60, .buildSlice 25 1 #[(0, (.tmp 59))], _, _, _, _⟩) (by kernel_rfl) rfl (fun K hK => ?_)
          go_simp
          obtain ⟨V3, hV3⟩ : ∃ V, w2.alloc (.cells #[.slice da (l.length + k) dc] 41) = V := ⟨_, rfl⟩
          have hb : RowKit.Below w2.heap.size w2 V3 := by rw [← hV3]; exact (Below.refl _ _).alloc (Nat.le_refl _) _
          have hO : V3.heap[w2.heap.size]? = some (.cells #[.slice da (l.length + k) dc] 41) := by rw [← hV3]; exact World.alloc_heap_new w2 _
          rw [hV3]
          have HAc : Hid (DS w P B turn deep ⟨(.slice ob 2 od), (.slice ta 1 tc), wa, no, (.slice (some ⟨g4, 0, none⟩) 1 c4), ma, du, (.slice (some ⟨g7, 0, none⟩) 1 c7), se⟩ [⟨9, .slice da (l.length + k) dc, l.length + k, l.map Value.string ++ l2.map Value.string⟩, ⟨41, .slice ob 2 od, 2, [.slice la l.length lc, .slice ga (l.length + k) gc]⟩, ⟨41, .slice ta 1 tc, 1, [.slice va l.length vc]⟩, ⟨9, .slice la l.length lc, l.length, l.map Value.string⟩, ⟨9, .slice ga (l.length + k) gc, l.length + k, l.map Value.string ++ l2.map Value.string⟩, ⟨9, .slice va l.length vc, l.length, l.map Value.string⟩] V3) := HAb.out.below hb
          have HSc : Hid (SrcAt V3 (.slice (some ⟨w2.heap.size, 0, none⟩) 1 1) 1 1 [.slice da (l.length + k) dc]) := src_one hO rfl
          clear hb hO hV3
          refine hK.out _ _ ⟨trivial, fun _ => HC.out _ HAc.out⟩ ?_
          have hHeld := (⟨trivial, HC.out _ HAc.out⟩ : True ∧ _)
          clear hK K
          try simp only [Act.put, List.setIfInBounds_toArray, List.set_cons_zero, List.set_cons_succ]
          refine wpAnyT_one (i := 9) (o := ⟨some 61, .call { callee := .builtin .append, args := #[(.tmp 56), (.tmp 60)], argTypes := #[25, 25] }, _, _, _, _⟩) (by kernel_rfl) rfl (fun K hK => ?_)
          refine op_append_src V3 (.tmp 56) (.tmp 60) 25 41 (.slice none 0 0) 1 24 rfl und25' info41' rfl (by decide) B (.slice ta 1 tc) _ 1 1 [(.slice va l.length vc)] _ (by rfl) (by rfl) (HAc.out.rows ⟨41, .slice ta 1 tc, 1, [.slice va l.length vc]⟩ (by simp)) HSc.out (by unfold maxLen; omega) (by omega) HAc.out.size (by rfl) ?_
          intro v3 w3 g1 g2 g3
          obtain ⟨tb, td, hv3⟩ := own_form g1
          subst hv3
          have HAd : Hid (DS w P B turn deep ⟨(.slice ob 2 od), (.slice ta 1 tc), wa, no, (.slice (some ⟨g4, 0, none⟩) 1 c4), ma, du, (.slice (some ⟨g7, 0, none⟩) 1 c7), se⟩ [⟨41, .slice tb 2 td, 2, [.slice va l.length vc, .slice da (l.length + k) dc]⟩, ⟨41, .slice ob 2 od, 2, [.slice la l.length lc, .slice ga (l.length + k) gc]⟩, ⟨9, .slice la l.length lc, l.length, l.map Value.string⟩, ⟨9, .slice ga (l.length + k) gc, l.length + k, l.map Value.string ++ l2.map Value.string⟩, ⟨9, .slice va l.length vc, l.length, l.map Value.string⟩, ⟨9, .slice da (l.length + k) dc, l.length + k, l.map Value.string ++ l2.map Value.string⟩] w3) := ((HAc.out.less (R' := [⟨41, .slice ob 2 od, 2, [.slice la l.length lc, .slice ga (l.length + k) gc]⟩, ⟨9, .slice la l.length lc, l.length, l.map Value.string⟩, ⟨9, .slice ga (l.length + k) gc, l.length + k, l.map Value.string ++ l2.map Value.string⟩, ⟨9, .slice va l.length vc, l.length, l.map Value.string⟩, ⟨9, .slice da (l.length + k) dc, l.length + k, l.map Value.string ++ l2.map Value.string⟩]) (by intro r hr; simp only [List.mem_cons, List.not_mem_nil, or_false] at hr; rcases hr with rfl | rfl | rfl | rfl | rfl <;> simp)).grown g2 (fun g e => ((HAc.out.rows ⟨41, .slice ta 1 tc, 1, [.slice va l.length vc]⟩ (by simp)).lt g e).1) (by
            intro r hr g hg
            simp only [List.mem_cons, List.not_mem_nil, or_false] at hr
            rcases hr with rfl | rfl | rfl | rfl | rfl
            · exact fun e => HAr.out g e hg
            · exact own_types (e := 41) (e' := 9) (HAc.out.rows ⟨41, .slice ta 1 tc, 1, [.slice va l.length vc]⟩ (by simp)) (HAc.out.rows ⟨9, .slice la l.length lc, l.length, l.map Value.string⟩ (by simp)) (by decide) g hg
            · exact own_types (e := 41) (e' := 9) (HAc.out.rows ⟨41, .slice ta 1 tc, 1, [.slice va l.length vc]⟩ (by simp)) (HAc.out.rows ⟨9, .slice ga (l.length + k) gc, l.length + k, l.map Value.string ++ l2.map Value.string⟩ (by simp)) (by decide) g hg
            · exact own_types (e := 41) (e' := 9) (HAc.out.rows ⟨41, .slice ta 1 tc, 1, [.slice va l.length vc]⟩ (by simp)) (HAc.out.rows ⟨9, .slice va l.length vc, l.length, l.map Value.string⟩ (by simp)) (by decide) g hg
            · exact own_types (e := 41) (e' := 9) (HAc.out.rows ⟨41, .slice ta 1 tc, 1, [.slice va l.length vc]⟩ (by simp)) (HAc.out.rows ⟨9, .slice da (l.length + k) dc, l.length + k, l.map Value.string ++ l2.map Value.string⟩ (by simp)) (by decide) g hg)).add ⟨41, .slice tb 2 td, 2, [.slice va l.length vc, .slice da (l.length + k) dc]⟩ g1
          have HC : Hid (∀ w', DS w P B turn deep ⟨(.slice ob 2 od), (.slice ta 1 tc), wa, no, (.slice (some ⟨g4, 0, none⟩) 1 c4), ma, du, (.slice (some ⟨g7, 0, none⟩) 1 c7), se⟩ [⟨41, .slice tb 2 td, 2, [.slice va l.length vc, .slice da (l.length + k) dc]⟩, ⟨41, .slice ob 2 od, 2, [.slice la l.length lc, .slice ga (l.length + k) gc]⟩, ⟨9, .slice la l.length lc, l.length, l.map Value.string⟩, ⟨9, .slice ga (l.length + k) gc, l.length + k, l.map Value.string ++ l2.map Value.string⟩, ⟨9, .slice va l.length vc, l.length, l.map Value.string⟩, ⟨9, .slice da (l.length + k) dc, l.length + k, l.map Value.string ++ l2.map Value.string⟩] w' → w'.cell? ⟨P, 14, none⟩ = some (.slice ta 1 tc)) := fun w' h => h.book.cell 14 _ rfl
          clear g1 g2 g3
          refine hK.out _ _ ⟨trivial, fun _ => HC.out _ HAd.out⟩ ?_
          have hHeld := (⟨trivial, HC.out _ HAd.out⟩ : True ∧ _)
          clear hK K
          try simp only [Act.put, List.setIfInBounds_toArray, List.set_cons_zero, List.set_cons_succ]
          refine wpAnyT_takeB (i := 10) (oi := ⟨some 62, .nilCheck (.tmp 52), _, _, _, _⟩) (v := ?vR10c1x10) rfl (by kernel_rfl) (by kernel_rfl) (by kernel_rfl) (by kernel_rfl) (fun _ _ _ h => h) (Or.inl ⟨by rfl, ?hyR10c1x10⟩) (by assumption) ?restR10c1x10
          case hyR10c1x10 => (intro w hSw; (try dsimp only at hSw); go_simp; try (with_reducible rfl))
          try simp only [Act.put, List.setIfInBounds_toArray, List.set_cons_zero, List.set_cons_succ]
          refine wpAnyT_takeB (i := 11) (oi := ⟨some 63, .fieldAddr 40 (.tmp 62) 14, _, _, _, _⟩) (v := ?vR10c1x11) rfl (by kernel_rfl) (by kernel_rfl) (by kernel_rfl) (by kernel_rfl) (fun _ _ _ h => h) (Or.inl ⟨by rfl, ?hyR10c1x11⟩) (by assumption) ?restR10c1x11
          case hyR10c1x11 => (intro w hSw; (try dsimp only at hSw); go_simp; try (with_reducible rfl))
          try simp only [Act.put, List.setIfInBounds_toArray, List.set_cons_zero, List.set_cons_succ]
          have r14 := HC.out _ HAd.out
          have s14 := HAd.out.book.free 14
          obtain ⟨X3, hX3⟩ : ∃ W, w3.setCell ⟨P, 14, none⟩ (.slice tb 2 td) = W := ⟨_, rfl⟩
          have HAe : Hid (DS w P B turn deep ⟨(.slice ob 2 od), (.slice tb 2 td), wa, no, (.slice (some ⟨g4, 0, none⟩) 1 c4), ma, du, (.slice (some ⟨g7, 0, none⟩) 1 c7), se⟩ [⟨41, .slice tb 2 td, 2, [.slice va l.length vc, .slice da (l.length + k) dc]⟩, ⟨41, .slice ob 2 od, 2, [.slice la l.length lc, .slice ga (l.length + k) gc]⟩, ⟨9, .slice la l.length lc, l.length, l.map Value.string⟩, ⟨9, .slice ga (l.length + k) gc, l.length + k, l.map Value.string ++ l2.map Value.string⟩, ⟨9, .slice va l.length vc, l.length, l.map Value.string⟩, ⟨9, .slice da (l.length + k) dc, l.length + k, l.map Value.string ++ l2.map Value.string⟩] X3) := hX3 ▸ HAd.out.set 14 _ rfl
          refine wpAnyT_late (i := 12) (o := ⟨none, .store 25 (.tmp 63) (.tmp 61), _, _, _, _⟩) (by kernel_rfl) rfl (by kernel_rfl) (fun Kq hK => ?_)
          go_simp
          try rw [hX3]
          refine hK.out _ _ trivial ?_
          clear hK Kq r14 s14 HAd HAc HSc HAb HAa HRa HZ HSr HAv HC hHeld hX3
          try simp only [Act.put, List.setIfInBounds_toArray, List.set_cons_zero, List.set_cons_succ]
          refine wpAnyT_done (by kernel_rfl) ?_ _
          go_wp2_with fail
          go_roundw
          case rel => exact .inr ⟨rfl, ⟨k, l2, ga, gc, ob, od, da, dc, tb, td, hl2, HAe.out⟩⟩
          case measure => simp [RowKit.intOf]
    · obtain ⟨k, l2, ga, gc, ob, od, da, dc, tb, td, hl2, hE⟩ := hF.out
      have HE : Hid (DS w P B turn deep ⟨(.slice ob 2 od), (.slice tb 2 td), wa, no, (.slice (some ⟨g4, 0, none⟩) 1 c4), ma, du, (.slice (some ⟨g7, 0, none⟩) 1 c7), se⟩ [⟨41, .slice tb 2 td, 2, [.slice va l.length vc, .slice da (l.length + k) dc]⟩, ⟨41, .slice ob 2 od, 2, [.slice la l.length lc, .slice ga (l.length + k) gc]⟩, ⟨9, .slice la l.length lc, l.length, l.map Value.string⟩, ⟨9, .slice ga (l.length + k) gc, l.length + k, l.map Value.string ++ l2.map Value.string⟩, ⟨9, .slice va l.length vc, l.length, l.map Value.string⟩, ⟨9, .slice da (l.length + k) dc, l.length + k, l.map Value.string ++ l2.map Value.string⟩] wr) := hE
      have p4 := hE.book.cell 17 (.slice (some ⟨g4, 0, none⟩) 1 c4) rfl
      have s4 := hE.book.free 17
      obtain ⟨W1, hW1⟩ : ∃ W, wr.setCell ⟨P, 17, none⟩ (.slice none 0 0) = W := ⟨_, rfl⟩
      have HE1 := hW1 ▸ hE.set (t' := ⟨.slice ob 2 od, .slice tb 2 td, wa, no, .slice none 0 0, ma, du, .slice (some ⟨g7, 0, none⟩) 1 c7, se⟩) 17 (.slice none 0 0) rfl
      have p7 := HE1.book.cell 20 (.slice (some ⟨g7, 0, none⟩) 1 c7) rfl
      have s7 := HE1.book.free 20
      obtain ⟨W2, hW2⟩ : ∃ W, W1.setCell ⟨P, 20, none⟩ (.slice none 0 0) = W := ⟨_, rfl⟩
      have HE2 : Hid (DS w P B turn deep ⟨.slice ob 2 od, .slice tb 2 td, wa, no, .slice none 0 0, ma, du, .slice none 0 0, se⟩ [⟨41, .slice tb 2 td, 2, [.slice va l.length vc, .slice da (l.length + k) dc]⟩, ⟨41, .slice ob 2 od, 2, [.slice la l.length lc, .slice ga (l.length + k) gc]⟩, ⟨9, .slice la l.length lc, l.length, l.map Value.string⟩, ⟨9, .slice ga (l.length + k) gc, l.length + k, l.map Value.string ++ l2.map Value.string⟩, ⟨9, .slice va l.length vc, l.length, l.map Value.string⟩, ⟨9, .slice da (l.length + k) dc, l.length + k, l.map Value.string ++ l2.map Value.string⟩] W2) := (hW2 ▸ HE1.set (t' := ⟨.slice ob 2 od, .slice tb 2 td, wa, no, .slice none 0 0, ma, du, .slice none 0 0, se⟩) 20 (.slice none 0 0) rfl)
      clear hE HE1 HE hF HA0
      go_wp2_with fail
      go_end0
      exact ⟨rfl, ⟨.slice ob 2 od, .slice tb 2 td, wa, no, .slice none 0 0, ma, du, .slice none 0 0, se⟩, .slice ga (l.length + k) gc, .slice da (l.length + k) dc, l ++ l2, ⟨rfl, rfl, rfl, rfl, rfl⟩, ⟨rfl, rfl⟩, HE2.out.less (by intro r hr; simp only [List.mem_cons, List.not_mem_nil, or_false] at hr; simp only [List.length_append, hl2, List.map_append] at hr; rcases hr with rfl | rfl | rfl | rfl | rfl | rfl <;> simp)⟩
end Go.Proofs.YtpmiplhbppmboaaDoor
