/-
  The book: the one list of texts that waits is due: it is written full.
-/
import Derived.Test.YtpmiplhbppmboaaDoorBkKeep
namespace Go.Proofs.YtpmiplhbppmboaaDoor
open Go Go.RowKit Go.Lib

/-- The list was written full. -/
structure Marked (w : World) (P B : Nat) (turn deep : Int) (t : Tx) (lv : Value) (n : Nat) (m : Int) (w' : World) (t' : Tx) (tv : Value) (l : List ByteArray) : Prop where
  len : l.length = n
  none : t'.waits = .slice none 0 0 ∧ t'.note = .slice none 0 0 ∧ t'.mark = .slice none 0 0 ∧ t'.due = .slice none 0 0 ∧ t'.seen = t.seen
  apart : ∀ g, t'.out.ownBlock = some g → t'.told.ownBlock ≠ some g
  apart' : ∀ g, lv.ownBlock = some g → tv.ownBlock ≠ some g
  st : DS w P B turn deep t' [⟨41, t'.out, 1, [lv]⟩, ⟨41, t'.told, 1, [tv]⟩, ⟨41, t'.fresh, 1, [lv]⟩, ⟨3, t'.from_, 1, [.int .i64 m]⟩, ⟨9, lv, n, l.map .string⟩, ⟨9, tv, n, l.map .string⟩] w'

theorem own_mk {w : World} {B : Nat} {v : Value} {n : Nat} {l : List ByteArray} (h : w.ownsRow B 9 1 v n (l.map .string)) (hl : l.length = n) : StAt w v l := own_st (by rw [hl]; exact h)
theorem own_src {w : World} {B e : Nat} {a : Option Addr} {n c : Nat} {xs : List Value} (h : w.ownsRow B e 1 (.slice a n c) n xs) (h1 : ∀ u ∈ xs, u.oneCell' = true) : SrcAt w (.slice a n c) n 1 xs := by
  refine ⟨a, c, rfl, h.1, h1, fun ha => ?_, fun ad ha j u hj => ?_⟩
  · rcases own_cells h with ⟨_, h0⟩ | ⟨g, cap, hv, _⟩
    · exact h0
    · injection hv with e _ _
      rw [ha] at e
      cases e
  · rcases own_cells h with ⟨h0, _⟩ | ⟨g, cap, hv, _, _, _, hc⟩
    · injection h0 with e _ _
      rw [ha] at e
      cases e
    · injection hv with e _ _
      rw [ha] at e
      injection e with e
      rw [e, addr_none, Nat.zero_add]
      exact hc j u hj
theorem set_map (l : List ByteArray) (i : Nat) (s : ByteArray) : (l.map Value.string).set i (.string s) = (l.set i s).map .string := by rw [List.map_set]
theorem str_one (l : List ByteArray) : ∀ u ∈ l.map Value.string, u.oneCell' = true := fun u hu => by
  obtain ⟨s, _, rfl⟩ := List.mem_map.1 hu
  rfl

set_option maxRecDepth 100000 in
set_option maxHeartbeats 8000000 in
theorem markTexts_due (P B : Nat) (turn deep : Int) (t : Tx) (w : World) (lv cv : Value) (l : List ByteArray) (m d : Int) (h : BkAt w P false turn deep t) (hP : 2 ≤ P) (hB : P < B) (hsz : B ≤ w.heap.size) (ht : Tab w) (h2 : w.ownsRow B 41 1 t.waits 1 [lv]) (h3 : w.ownsRow B 41 1 t.note 1 [cv]) (h5 : w.ownsRow B 3 1 t.mark 1 [.int .i64 m]) (h6 : w.ownsRow B 3 1 t.due 1 [.int .i64 d]) (hd : d ≤ turn)
    (hl : w.ownsRow B 9 1 lv l.length (l.map .string)) (hc : w.ownsRow B 9 1 cv l.length (l.map .string)) (hn : l.length ≤ 1000000) (hm : 0 ≤ m ∧ m ≤ 1000) (q0 : t.out = .slice none 0 0) (q1 : t.told = .slice none 0 0) (q4 : t.fresh = .slice none 0 0) (q7 : t.from_ = .slice none 0 0) :
    Calls Tryd.prog 52 #[.pointer (some ⟨P, 0, none⟩)] w fun e w' => e = .returned (.tuple #[]) ∧ ∃ t' tv l2, Marked w P B turn deep t lv l.length m w' t' tv l2 := by
  obtain ⟨o, tl, wa, no, fr, ma, du, fm, se⟩ := t
  change o = .slice none 0 0 at q0
  change tl = .slice none 0 0 at q1
  change fr = .slice none 0 0 at q4
  change fm = .slice none 0 0 at q7
  subst q0 q1 q4 q7
  obtain ⟨la, lc, rfl⟩ := own_form hl
  obtain ⟨ca, cc, rfl⟩ := own_form hc
  obtain ⟨g2, c2, e2, hc2⟩ := one_form h2
  obtain ⟨g3, c3, e3, hc3⟩ := one_form h3
  obtain ⟨g5, c5, e5, hc5⟩ := one_form h5
  obtain ⟨g6, c6, e6, hc6⟩ := one_form h6
  change wa = _ at e2
  change no = _ at e3
  change ma = _ at e5
  change du = _ at e6
  subst e2 e3 e5 e6
  have HT : Hid (Tab w) := ht
  have HP : Hid (2 ≤ P) := hP
  have HLb : Hid (∀ g, (Value.slice la l.length lc).ownBlock = some g → g < w.heap.size) := fun g hg => (hl.lt g hg).2
  have HA0 : Hid (DS w P B turn deep ⟨(.slice none 0 0), (.slice none 0 0), (.slice (some ⟨g2, 0, none⟩) 1 c2), (.slice (some ⟨g3, 0, none⟩) 1 c3), (.slice none 0 0), (.slice (some ⟨g5, 0, none⟩) 1 c5), (.slice (some ⟨g6, 0, none⟩) 1 c6), (.slice none 0 0), se⟩ [⟨9, .slice la l.length lc, l.length, l.map .string⟩, ⟨41, .slice (some ⟨g2, 0, none⟩) 1 c2, 1, [.slice la l.length lc]⟩, ⟨41, .slice (some ⟨g3, 0, none⟩) 1 c3, 1, [.slice ca l.length cc]⟩, ⟨3, .slice (some ⟨g5, 0, none⟩) 1 c5, 1, [.int .i64 m]⟩, ⟨3, .slice (some ⟨g6, 0, none⟩) 1 c6, 1, [.int .i64 d]⟩, ⟨9, .slice ca l.length cc, l.length, l.map .string⟩] w) := ⟨h, Off.refl _ _, by
    intro r hr
    simp only [List.mem_cons, List.not_mem_nil, or_false] at hr
    rcases hr with rfl | rfl | rfl | rfl | rfl | rfl
    all_goals first | exact hl | exact h2 | exact h3 | exact h5 | exact h6 | exact hc, hB, hsz⟩
  have k2 := h.cell 15 (.slice (some ⟨g2, 0, none⟩) 1 c2) rfl
  have k3 := h.cell 16 (.slice (some ⟨g3, 0, none⟩) 1 c3) rfl
  have k5 := h.cell 18 (.slice (some ⟨g5, 0, none⟩) 1 c5) rfl
  have k6 := h.cell 19 (.slice (some ⟨g6, 0, none⟩) 1 c6) rfl
  have f2 := h.free 15
  obtain ⟨W1, hW1⟩ : ∃ W, w.setCell ⟨P, 15, none⟩ (.slice none 0 0) = W := ⟨_, rfl⟩
  have HA1 : Hid (DS w P B turn deep ⟨(.slice none 0 0), (.slice none 0 0), (.slice none 0 0), (.slice (some ⟨g3, 0, none⟩) 1 c3), (.slice none 0 0), (.slice (some ⟨g5, 0, none⟩) 1 c5), (.slice (some ⟨g6, 0, none⟩) 1 c6), (.slice none 0 0), se⟩ [⟨9, .slice la l.length lc, l.length, l.map .string⟩, ⟨41, .slice (some ⟨g2, 0, none⟩) 1 c2, 1, [.slice la l.length lc]⟩, ⟨41, .slice (some ⟨g3, 0, none⟩) 1 c3, 1, [.slice ca l.length cc]⟩, ⟨3, .slice (some ⟨g5, 0, none⟩) 1 c5, 1, [.int .i64 m]⟩, ⟨3, .slice (some ⟨g6, 0, none⟩) 1 c6, 1, [.int .i64 d]⟩, ⟨9, .slice ca l.length cc, l.length, l.map .string⟩] W1) := hW1 ▸ HA0.out.set 15 _ rfl
  have r3 : W1.cell? ⟨P, 16, none⟩ = some (.slice (some ⟨g3, 0, none⟩) 1 c3) := HA1.out.book.cell 16 _ rfl
  have f3 := HA1.out.book.free 16
  obtain ⟨W2, hW2⟩ : ∃ W, W1.setCell ⟨P, 16, none⟩ (.slice none 0 0) = W := ⟨_, rfl⟩
  have HA2 : Hid (DS w P B turn deep ⟨(.slice none 0 0), (.slice none 0 0), (.slice none 0 0), (.slice none 0 0), (.slice none 0 0), (.slice (some ⟨g5, 0, none⟩) 1 c5), (.slice (some ⟨g6, 0, none⟩) 1 c6), (.slice none 0 0), se⟩ [⟨9, .slice la l.length lc, l.length, l.map .string⟩, ⟨41, .slice (some ⟨g2, 0, none⟩) 1 c2, 1, [.slice la l.length lc]⟩, ⟨41, .slice (some ⟨g3, 0, none⟩) 1 c3, 1, [.slice ca l.length cc]⟩, ⟨3, .slice (some ⟨g5, 0, none⟩) 1 c5, 1, [.int .i64 m]⟩, ⟨3, .slice (some ⟨g6, 0, none⟩) 1 c6, 1, [.int .i64 d]⟩, ⟨9, .slice ca l.length cc, l.length, l.map .string⟩] W2) := hW2 ▸ HA1.out.set 16 _ rfl
  have r5 : W2.cell? ⟨P, 18, none⟩ = some (.slice (some ⟨g5, 0, none⟩) 1 c5) := HA2.out.book.cell 18 _ rfl
  have f5 := HA2.out.book.free 18
  obtain ⟨W3, hW3⟩ : ∃ W, W2.setCell ⟨P, 18, none⟩ (.slice none 0 0) = W := ⟨_, rfl⟩
  have HA3 : Hid (DS w P B turn deep ⟨(.slice none 0 0), (.slice none 0 0), (.slice none 0 0), (.slice none 0 0), (.slice none 0 0), (.slice none 0 0), (.slice (some ⟨g6, 0, none⟩) 1 c6), (.slice none 0 0), se⟩ [⟨9, .slice la l.length lc, l.length, l.map .string⟩, ⟨41, .slice (some ⟨g2, 0, none⟩) 1 c2, 1, [.slice la l.length lc]⟩, ⟨41, .slice (some ⟨g3, 0, none⟩) 1 c3, 1, [.slice ca l.length cc]⟩, ⟨3, .slice (some ⟨g5, 0, none⟩) 1 c5, 1, [.int .i64 m]⟩, ⟨3, .slice (some ⟨g6, 0, none⟩) 1 c6, 1, [.int .i64 d]⟩, ⟨9, .slice ca l.length cc, l.length, l.map .string⟩] W3) := hW3 ▸ HA2.out.set 18 _ rfl
  have r6 : W3.cell? ⟨P, 19, none⟩ = some (.slice (some ⟨g6, 0, none⟩) 1 c6) := HA3.out.book.cell 19 _ rfl
  have f6 := HA3.out.book.free 19
  obtain ⟨W4, hW4⟩ : ∃ W, W3.setCell ⟨P, 19, none⟩ (.slice none 0 0) = W := ⟨_, rfl⟩
  have HA4 : Hid (DS w P B turn deep ⟨(.slice none 0 0), (.slice none 0 0), (.slice none 0 0), (.slice none 0 0), (.slice none 0 0), (.slice none 0 0), (.slice none 0 0), (.slice none 0 0), se⟩ [⟨9, .slice la l.length lc, l.length, l.map .string⟩, ⟨41, .slice (some ⟨g2, 0, none⟩) 1 c2, 1, [.slice la l.length lc]⟩, ⟨41, .slice (some ⟨g3, 0, none⟩) 1 c3, 1, [.slice ca l.length cc]⟩, ⟨3, .slice (some ⟨g5, 0, none⟩) 1 c5, 1, [.int .i64 m]⟩, ⟨3, .slice (some ⟨g6, 0, none⟩) 1 c6, 1, [.int .i64 d]⟩, ⟨9, .slice ca l.length cc, l.length, l.map .string⟩] W4) := hW4 ▸ HA3.out.set 19 _ rfl
  clear h h2 h3 h5 h6 HA0 HA1 HA2 HA3 hl hc ht hP hB hsz
  go_enter Tryd.func52, Tryd.ntmps52
  go_wp2_with fail
  go_loopw [6] (fun iv wr => (iv = .int .i64 0 ∧ Hid (DS w P B turn deep ⟨(.slice none 0 0), (.slice none 0 0), (.slice none 0 0), (.slice none 0 0), (.slice none 0 0), (.slice none 0 0), (.slice none 0 0), (.slice none 0 0), se⟩ [⟨9, .slice la l.length lc, l.length, l.map .string⟩, ⟨41, .slice (some ⟨g2, 0, none⟩) 1 c2, 1, [.slice la l.length lc]⟩, ⟨41, .slice (some ⟨g3, 0, none⟩) 1 c3, 1, [.slice ca l.length cc]⟩, ⟨3, .slice (some ⟨g5, 0, none⟩) 1 c5, 1, [.int .i64 m]⟩, ⟨3, .slice (some ⟨g6, 0, none⟩) 1 c6, 1, [.int .i64 d]⟩, ⟨9, .slice ca l.length cc, l.length, l.map .string⟩] wr)) ∨ (iv = .int .i64 1 ∧ Hid (∃ t' tv l2, Marked w P B turn deep ⟨(.slice none 0 0), (.slice none 0 0), (.slice (some ⟨g2, 0, none⟩) 1 c2), (.slice (some ⟨g3, 0, none⟩) 1 c3), (.slice none 0 0), (.slice (some ⟨g5, 0, none⟩) 1 c5), (.slice (some ⟨g6, 0, none⟩) 1 c6), (.slice none 0 0), se⟩ (.slice la l.length lc) l.length m wr t' tv l2))) (fun iv _ => 1 - (RowKit.intOf iv).toNat)
  case atStart => exact .inl ⟨rfl, HA4⟩
  case round =>
    clear k2 k3 k5 k6 r3 r5 r6 f2 f3 f5 f6 hW1 hW2 hW3 hW4 HA4
    rcases hrel with ⟨rfl, hA⟩ | ⟨rfl, hF⟩
    · have p2 := one_cell (hA.out.rows ⟨41, .slice (some ⟨g2, 0, none⟩) 1 c2, 1, [(.slice la l.length lc)]⟩ (by simp))
      have p3 := one_cell (hA.out.rows ⟨41, .slice (some ⟨g3, 0, none⟩) 1 c3, 1, [.slice ca l.length cc]⟩ (by simp))
      have p5 := one_cell (hA.out.rows ⟨3, .slice (some ⟨g5, 0, none⟩) 1 c5, 1, [.int .i64 m]⟩ (by simp))
      have p6 := one_cell (hA.out.rows ⟨3, .slice (some ⟨g6, 0, none⟩) 1 c6, 1, [.int .i64 d]⟩ (by simp))
      have pt := hA.out.book.cell 2 (.int .i64 turn) rfl
      have hd' : ¬ turn < d := by omega
      go_wp2_with fail
      go_region
      have HAu : Hid (DS w P B turn deep ⟨(.slice none 0 0), (.slice none 0 0), (.slice none 0 0), (.slice none 0 0), (.slice none 0 0), (.slice none 0 0), (.slice none 0 0), (.slice none 0 0), se⟩ [⟨9, .slice la l.length lc, l.length, l.map .string⟩, ⟨41, .slice (some ⟨g2, 0, none⟩) 1 c2, 1, [.slice la l.length lc]⟩, ⟨41, .slice (some ⟨g3, 0, none⟩) 1 c3, 1, [.slice ca l.length cc]⟩, ⟨3, .slice (some ⟨g5, 0, none⟩) 1 c5, 1, [.int .i64 m]⟩, ⟨3, .slice (some ⟨g6, 0, none⟩) 1 c6, 1, [.int .i64 d]⟩, ⟨9, .slice ca l.length cc, l.length, l.map .string⟩] wr.drew) := hA.out.below (Below.refl _ _).drew
      clear p2 p3 p5 p6 pt hA hd'
      generalize wr.drew = U at HAu ⊢
      have p3 := one_cell (HAu.out.rows ⟨41, .slice (some ⟨g3, 0, none⟩) 1 c3, 1, [.slice ca l.length cc]⟩ (by simp))
      have pb := HAu.out.book.cell 1 (.bool false) rfl
      have pn := HAu.out.book.cell 0 (.bool false) rfl
      have pf := HAu.out.book.free 1
      have HS : Hid (Calls Tryd.prog 34 #[(.slice la l.length lc), .slice ca l.length cc] U fun e w' => e = .returned (.bool true) ∧ w' = U) := sameTexts_eq _ _ l U (own_mk (HAu.out.rows ⟨9, (.slice la l.length lc), l.length, l.map .string⟩ (by simp)) rfl) (own_mk (HAu.out.rows ⟨9, .slice ca l.length cc, l.length, l.map .string⟩ (by simp)) rfl)
      obtain ⟨U1, hU1⟩ : ∃ W, U.setCell ⟨P, 1, none⟩ (.bool false) = W := ⟨_, rfl⟩
      have HA5 : Hid (DS w P B turn deep ⟨(.slice none 0 0), (.slice none 0 0), (.slice none 0 0), (.slice none 0 0), (.slice none 0 0), (.slice none 0 0), (.slice none 0 0), (.slice none 0 0), se⟩ [⟨9, .slice la l.length lc, l.length, l.map .string⟩] U1) := hU1 ▸ (HAu.out.set 1 _ rfl).less (by intro r hr; simp only [List.mem_cons, List.not_mem_nil, or_false] at hr; simp [hr])
      go_wp2_with (go_at_call 34; refine calls_at HS.out (by with_reducible rfl) (by with_reducible rfl) ?_; rintro e w2 ⟨rfl, hww⟩; rw [hww]; clear hww)
      go_loopw [9] (fun iv wx => ∃ (k : Nat) (l2 : List ByteArray), iv = .int .i64 (k : Int) ∧ k ≤ l.length ∧ l2.length = l.length ∧ Hid (DS w P B turn deep ⟨(.slice none 0 0), (.slice none 0 0), (.slice none 0 0), (.slice none 0 0), (.slice none 0 0), (.slice none 0 0), (.slice none 0 0), (.slice none 0 0), se⟩ [⟨9, .slice la l.length lc, l.length, l2.map .string⟩] wx)) (fun iv _ => l.length - (RowKit.intOf iv).toNat)
      case atStart => exact ⟨0, l, rfl, Nat.zero_le _, rfl, HA5⟩
      case round =>
        clear p3 pb pn pf HS hU1 HA5 HAu
        obtain ⟨k, l2, rfl, hk, hl2, hD⟩ := hrel
        rename World => wx
        by_cases hkN : k < l.length
        · have hkI : (k : Int) < (l.length : Int) := by omega
          obtain ⟨g, rfl⟩ : ∃ g, la = some ⟨g, 0, none⟩ := by
            rcases own_cells (hD.out.rows _ (List.mem_cons_self ..)) with ⟨_, h0⟩ | ⟨g, c, h0, _⟩
            · change l.length = 0 at h0; omega
            · change Value.slice la l.length lc = _ at h0
              injection h0 with e1 _ _
              exact ⟨g, e1⟩
          have hw1 : wrap64 (3 * (k : Int)) = 3 * (k : Int) := by unfold wrap64; omega
          have hw2 : wrap64 (m + 3 * (k : Int)) = m + 3 * (k : Int) := by unfold wrap64; omega
          have HI : Hid (Calls Tryd.prog 85 #[.int .i64 (m + 3 * (k : Int))] wx fun e w' => (∃ s, e = .returned (.string s)) ∧ Below wx.heap.size wx w') := itoa_any _ _ (by omega) (by omega) (hD.out.tab HT.out HP.out)
          go_wp2_with (go_at_call 85; refine calls_at HI.out (by with_reducible rfl) (by with_reducible rfl) ?_; rintro e w2 ⟨⟨s, rfl⟩, hb⟩; have HD2 : Hid (DS w P B turn deep ⟨(.slice none 0 0), (.slice none 0 0), (.slice none 0 0), (.slice none 0 0), (.slice none 0 0), (.slice none 0 0), (.slice none 0 0), (.slice none 0 0), se⟩ [⟨9, .slice (some ⟨g, 0, none⟩) l.length lc, l.length, l2.map .string⟩] w2) := hD.out.below hb; have hoa := own_at (i := k) (HD2.out.rows _ (List.mem_cons_self ..)) (show (l2.map Value.string)[k]? = some (.string (l2[k]'(by omega))) by simp [List.getElem?_eq_getElem (show k < l2.length by omega)]); obtain ⟨hoa1, hoa2⟩ := hoa; clear hb; obtain ⟨W6, hW6⟩ : ∃ W, w2.setCell ⟨g, k, none⟩ (.string s) = W := ⟨_, rfl⟩; have HD3 : Hid (∃ l3 : List ByteArray, l3.length = l.length ∧ DS w P B turn deep ⟨(.slice none 0 0), (.slice none 0 0), (.slice none 0 0), (.slice none 0 0), (.slice none 0 0), (.slice none 0 0), (.slice none 0 0), (.slice none 0 0), se⟩ [⟨9, .slice (some ⟨g, 0, none⟩) l.length lc, l.length, l3.map .string⟩] W6) := ⟨l2.set k s, by rw [List.length_set]; exact hl2, by rw [← set_map, ← hW6]; exact HD2.out.put (by intro r hr; cases hr) k _⟩)
          go_roundw
          case rel =>
            obtain ⟨l3, hl3, hd3⟩ := HD3.out
            exact ⟨k + 1, l3, by go_num, by omega, hl3, hd3⟩
          case measure => simp [RowKit.intOf]; omega
        · have hkI : ¬ (k : Int) < (l.length : Int) := by omega
          have pw : wx.cell? ⟨P, 13, none⟩ = some (.slice none 0 0) := hD.out.book.cell 13 _ rfl
          obtain ⟨V1, hV1⟩ : ∃ V, wx.alloc (.cells #[(.slice la l.length lc)] 41) = V := ⟨_, rfl⟩
          have hb1 : RowKit.Below wx.heap.size wx V1 := by rw [← hV1]; exact (Below.refl _ _).alloc (Nat.le_refl _) _
          have HS1 : Hid (SrcAt V1 (.slice (some ⟨wx.heap.size, 0, none⟩) 1 1) 1 1 [(.slice la l.length lc)]) := src_one (t := 41) (by rw [← hV1]; exact World.alloc_heap_new wx _) rfl
          have HB1 : Hid (DS w P B turn deep ⟨(.slice none 0 0), (.slice none 0 0), (.slice none 0 0), (.slice none 0 0), (.slice none 0 0), (.slice none 0 0), (.slice none 0 0), (.slice none 0 0), se⟩ [⟨9, .slice la l.length lc, l.length, l2.map .string⟩] V1) := hD.out.below hb1
          clear hb1
          go_wp2_with (first | (at_builtin; first | rw [hV1] | skip); (refine append_src V1 rfl (.tmp 151) (.tmp 153) 25 41 (.slice none 0 0) 1 24 rfl und25' info41' rfl (by decide) B _ _ 0 1 [] _ (by rfl) (by rfl) (own_nil _ _ _) HS1.out (by unfold maxLen; omega) (by omega) HB1.out.size ?_; intro v1 w1 g1' g2' _; have hb := below_none g2'; obtain ⟨x1, y1, hv⟩ := own_form g1'; rw [Nat.zero_add] at hv; subst hv; have HB2 : Hid (DS w P B turn deep ⟨(.slice none 0 0), (.slice none 0 0), (.slice none 0 0), (.slice none 0 0), (.slice none 0 0), (.slice none 0 0), (.slice none 0 0), (.slice none 0 0), se⟩ [⟨41, .slice x1 1 y1, 1, [.slice la l.length lc]⟩, ⟨9, .slice la l.length lc, l.length, l2.map .string⟩] w1) := (HB1.out.below hb).add ⟨41, .slice x1 1 y1, 1, [(.slice la l.length lc)]⟩ g1'; have r13 : w1.cell? ⟨P, 13, none⟩ = some (.slice none 0 0) := HB2.out.book.cell 13 _ rfl; have s13 := HB2.out.book.free 13; obtain ⟨X1, hX1⟩ : ∃ W, w1.setCell ⟨P, 13, none⟩ (.slice x1 1 y1) = W := ⟨_, rfl⟩; have HB3 : Hid (DS w P B turn deep ⟨(.slice x1 1 y1), (.slice none 0 0), (.slice none 0 0), (.slice none 0 0), (.slice none 0 0), (.slice none 0 0), (.slice none 0 0), (.slice none 0 0), se⟩ [⟨41, .slice x1 1 y1, 1, [.slice la l.length lc]⟩, ⟨9, .slice la l.length lc, l.length, l2.map .string⟩] X1) := hX1 ▸ HB2.out.set 13 _ rfl; clear g1' g2' hb))
          have HAv : Hid (DS w P B turn deep ⟨(.slice x1 1 y1), (.slice none 0 0), (.slice none 0 0), (.slice none 0 0), (.slice none 0 0), (.slice none 0 0), (.slice none 0 0), (.slice none 0 0), se⟩ [⟨41, .slice x1 1 y1, 1, [.slice la l.length lc]⟩, ⟨9, .slice la l.length lc, l.length, l2.map .string⟩] X1.drew) := HB3.out.below (Below.refl _ _).drew
          have HC : Hid (∀ w', DS w P B turn deep ⟨(.slice x1 1 y1), (.slice none 0 0), (.slice none 0 0), (.slice none 0 0), (.slice none 0 0), (.slice none 0 0), (.slice none 0 0), (.slice none 0 0), se⟩ [⟨41, .slice x1 1 y1, 1, [.slice la l.length lc]⟩, ⟨9, .slice la l.length lc, l.length, l2.map .string⟩] w' → w'.cell? ⟨P, 14, none⟩ = some (.slice none 0 0)) := fun w' h => h.book.cell 14 _ rfl
          refine wp_region_T (fun _ => True) (fun w' => w'.cell? ⟨P, 14, none⟩ = some (.slice none 0 0)) [12] (by kernel_rfl) ⟨trivial, HC.out _ HAv.out⟩ (fun hHeld => ?_)
          clear pw r13 s13 HB1 HB2 HB3 HS1 hV1 hX1 hD
          generalize X1.drew = U2 at HAv hHeld ⊢
          refine wpAnyT_takeB (i := 0) (oi := ⟨some 157, .move (.tmp 0), _, _, _, _⟩) (v := ?vR22c1x0) rfl (by kernel_rfl) (by kernel_rfl) (by kernel_rfl) (by kernel_rfl) (fun _ _ _ h => h) (Or.inl ⟨by rfl, ?hyR22c1x0⟩) (by assumption) ?restR22c1x0
          case hyR22c1x0 => (intro w hSw; (try dsimp only at hSw); go_simp; try (with_reducible rfl))
          try simp only [Act.put, List.setIfInBounds_toArray, List.set_cons_zero, List.set_cons_succ]
          refine wpAnyT_takeB (i := 1) (oi := ⟨some 158, .move (.tmp 0), _, _, _, _⟩) (v := ?vR22c1x1) rfl (by kernel_rfl) (by kernel_rfl) (by kernel_rfl) (by kernel_rfl) (fun _ _ _ h => h) (Or.inl ⟨by rfl, ?hyR22c1x1⟩) (by assumption) ?restR22c1x1
          case hyR22c1x1 => (intro w hSw; (try dsimp only at hSw); go_simp; try (with_reducible rfl))
          try simp only [Act.put, List.setIfInBounds_toArray, List.set_cons_zero, List.set_cons_succ]
          refine wpAnyT_takeB (i := 2) (oi := ⟨some 159, .nilCheck (.tmp 158), _, _, _, _⟩) (v := ?vR22c1x2) rfl (by kernel_rfl) (by kernel_rfl) (by kernel_rfl) (by kernel_rfl) (fun _ _ _ h => h) (Or.inl ⟨by rfl, ?hyR22c1x2⟩) (by assumption) ?restR22c1x2
          case hyR22c1x2 => (intro w hSw; (try dsimp only at hSw); go_simp; try (with_reducible rfl))
          try simp only [Act.put, List.setIfInBounds_toArray, List.set_cons_zero, List.set_cons_succ]
          refine wpAnyT_takeB (i := 3) (oi := ⟨some 160, .fieldAddr 40 (.tmp 159) 14, _, _, _, _⟩) (v := ?vR22c1x3) rfl (by kernel_rfl) (by kernel_rfl) (by kernel_rfl) (by kernel_rfl) (fun _ _ _ h => h) (Or.inl ⟨by rfl, ?hyR22c1x3⟩) (by assumption) ?restR22c1x3
          case hyR22c1x3 => (intro w hSw; (try dsimp only at hSw); go_simp; try (with_reducible rfl))
          try simp only [Act.put, List.setIfInBounds_toArray, List.set_cons_zero, List.set_cons_succ]
          refine wpAnyT_take (i := 4) (oi := ⟨some 161, .load 25 (.tmp 160), _, _, _, _⟩) (v := ?vR22c1x4) rfl (by kernel_rfl) (by kernel_rfl) (by kernel_rfl) (by kernel_rfl) (by kernel_rfl) (fun _ _ _ h => h) (Or.inl ⟨by rfl, ?hyR22c1x4⟩) (by assumption) ?restR22c1x4
          case hyR22c1x4 => (intro w hSw; (try dsimp only at hSw); go_simp; try (with_reducible rfl))
          try simp only [Act.put, List.setIfInBounds_toArray, List.set_cons_zero, List.set_cons_succ]
          refine wpAnyT_takeB (i := 6) (oi := ⟨some 163, .move (.tmp 7), _, _, _, _⟩) (v := ?vR22c1x6) rfl (by kernel_rfl) (by kernel_rfl) (by kernel_rfl) (by kernel_rfl) (fun _ _ _ h => h) (Or.inl ⟨by rfl, ?hyR22c1x6⟩) (by assumption) ?restR22c1x6
          case hyR22c1x6 => (intro w hSw; (try dsimp only at hSw); go_simp; try (with_reducible rfl))
          try simp only [Act.put, List.setIfInBounds_toArray, List.set_cons_zero, List.set_cons_succ]
          refine wpAnyT_one (i := 5) (o := ⟨some 162, .buildSlice 41 0 #[], _, _, _, _⟩) (by kernel_rfl) rfl (fun K hK => ?_)
          go_simp
          obtain ⟨Ua, hUa⟩ : ∃ V, U2.alloc (.cells #[] 9) = V := ⟨_, rfl⟩
          have hb : RowKit.Below U2.heap.size U2 Ua := by rw [← hUa]; exact (Below.refl _ _).alloc (Nat.le_refl _) _
          have hO : Ua.heap[U2.heap.size]? = some (.cells #[] 9) := by rw [← hUa]; exact World.alloc_heap_new U2 _
          have hsz : Ua.heap.size = U2.heap.size + 1 := by rw [← hUa]; simp
          rw [hUa]
          have HAa : Hid (DS w P B turn deep ⟨(.slice x1 1 y1), (.slice none 0 0), (.slice none 0 0), (.slice none 0 0), (.slice none 0 0), (.slice none 0 0), (.slice none 0 0), (.slice none 0 0), se⟩ [⟨41, .slice x1 1 y1, 1, [.slice la l.length lc]⟩, ⟨9, .slice la l.length lc, l.length, l2.map .string⟩] Ua) := HAv.out.below hb
          have HRa : Hid (∀ r ∈ [(⟨41, .slice x1 1 y1, 1, [(.slice la l.length lc)]⟩ : Rw), ⟨9, (.slice la l.length lc), l.length, l2.map .string⟩], r.v.ownBlock ≠ some U2.heap.size) := fun r hr e => by have := ((HAv.out.rows r hr).lt _ e).2; omega
          have HZ : Hid (Ua.ownsRow B 9 1 (.slice (some ⟨U2.heap.size, 0, none⟩) 0 0) 0 []) := ⟨rfl, .inr ⟨U2.heap.size, 0, #[], rfl, HAv.out.size, hO, Nat.le_refl _, Nat.zero_le _, rfl, rfl⟩⟩
          have HSr : Hid (SrcAt Ua (.slice la l.length lc) l.length 1 (l2.map .string)) := own_src (HAa.out.rows ⟨9, (.slice la l.length lc), l.length, l2.map .string⟩ (by simp)) (str_one l2)
          have HLs : Hid (∀ g, (Value.slice la l.length lc).ownBlock = some g → g < U2.heap.size) := fun g hg => ((HAv.out.rows ⟨9, (.slice la l.length lc), l.length, l2.map .string⟩ (by simp)).lt g hg).2
          have HSz : Hid (Ua.heap.size = U2.heap.size + 1) := hsz
          clear hO hb hUa hsz
          refine hK.out _ _ ⟨trivial, fun _ => HC.out _ HAa.out⟩ ?_
          have hHeld := (⟨trivial, HC.out _ HAa.out⟩ : True ∧ _)
          clear hK K
          try simp only [Act.put, List.setIfInBounds_toArray, List.set_cons_zero, List.set_cons_succ]
          refine wpAnyT_one (i := 7) (o := ⟨some 164, .call { callee := .builtin .append, args := #[(.tmp 162), (.tmp 163)], argTypes := #[41, 41] }, _, _, _, _⟩) (by kernel_rfl) rfl (fun K hK => ?_)
          refine op_append_src Ua (.tmp 162) (.tmp 163) 41 9 (.string ⟨#[]⟩) 1 16 rfl und41' info9' rfl (by decide) B _ _ 0 l.length [] (l2.map .string) (by rfl) (by rfl) HZ.out HSr.out (by unfold maxLen; omega) (by omega) HAa.out.size (by rfl) ?_
          intro v2 w2 g1 g2 g3
          obtain ⟨a2, c2, hv2⟩ := own_form g1
          rw [Nat.zero_add, List.nil_append] at g1
          rw [Nat.zero_add] at hv2
          subst hv2
          have HAp : Hid (∀ g, (Value.slice la l.length lc).ownBlock = some g → (Value.slice a2 l.length c2).ownBlock ≠ some g) := fun g hg e => by
            have h1 := HLs.out g hg
            have h2 := HSz.out
            rw [e] at g3
            rcases g3 with g3 | g3
            · injection g3 with g3
              change g = U2.heap.size at g3
              omega
            · injection g3 with g3
              omega
          have HAb : Hid (DS w P B turn deep ⟨(.slice x1 1 y1), (.slice none 0 0), (.slice none 0 0), (.slice none 0 0), (.slice none 0 0), (.slice none 0 0), (.slice none 0 0), (.slice none 0 0), se⟩ [⟨9, .slice a2 l.length c2, l.length, l2.map .string⟩, ⟨41, .slice x1 1 y1, 1, [.slice la l.length lc]⟩, ⟨9, .slice la l.length lc, l.length, l2.map .string⟩] w2) := (HAa.out.grown g2 (fun g e => by injection e with e; subst e; exact HAv.out.size) (fun r hr g e => by injection e with e; subst e; exact HRa.out r hr)).add ⟨9, .slice a2 l.length c2, l.length, l2.map .string⟩ g1
          have HC : Hid (∀ w', DS w P B turn deep ⟨(.slice x1 1 y1), (.slice none 0 0), (.slice none 0 0), (.slice none 0 0), (.slice none 0 0), (.slice none 0 0), (.slice none 0 0), (.slice none 0 0), se⟩ [⟨9, .slice a2 l.length c2, l.length, l2.map .string⟩, ⟨41, .slice x1 1 y1, 1, [.slice la l.length lc]⟩, ⟨9, .slice la l.length lc, l.length, l2.map .string⟩] w' → w'.cell? ⟨P, 14, none⟩ = some (.slice none 0 0)) := fun w' h => h.book.cell 14 _ rfl
          clear g1 g2 g3
          refine hK.out _ _ ⟨trivial, fun _ => HC.out _ HAb.out⟩ ?_
          have hHeld := (⟨trivial, HC.out _ HAb.out⟩ : True ∧ _)
          clear hK K
          try simp only [Act.put, List.setIfInBounds_toArray, List.set_cons_zero, List.set_cons_succ]
          refine wpAnyT_one (i := 8) (o := ⟨some 165, .buildSlice 25 1 #[(0, (.tmp 164))], _, _, _, _⟩) (by kernel_rfl) rfl (fun K hK => ?_)
          go_simp
          obtain ⟨V3, hV3⟩ : ∃ V, w2.alloc (.cells #[.slice a2 l.length c2] 41) = V := ⟨_, rfl⟩
          have hb : RowKit.Below w2.heap.size w2 V3 := by rw [← hV3]; exact (Below.refl _ _).alloc (Nat.le_refl _) _
          have hO : V3.heap[w2.heap.size]? = some (.cells #[.slice a2 l.length c2] 41) := by rw [← hV3]; exact World.alloc_heap_new w2 _
          rw [hV3]
          have HAc : Hid (DS w P B turn deep ⟨(.slice x1 1 y1), (.slice none 0 0), (.slice none 0 0), (.slice none 0 0), (.slice none 0 0), (.slice none 0 0), (.slice none 0 0), (.slice none 0 0), se⟩ [⟨9, .slice a2 l.length c2, l.length, l2.map .string⟩, ⟨41, .slice x1 1 y1, 1, [.slice la l.length lc]⟩, ⟨9, .slice la l.length lc, l.length, l2.map .string⟩] V3) := HAb.out.below hb
          have HSc : Hid (SrcAt V3 (.slice (some ⟨w2.heap.size, 0, none⟩) 1 1) 1 1 [.slice a2 l.length c2]) := src_one hO rfl
          clear hb hO hV3
          refine hK.out _ _ ⟨trivial, fun _ => HC.out _ HAc.out⟩ ?_
          have hHeld := (⟨trivial, HC.out _ HAc.out⟩ : True ∧ _)
          clear hK K
          try simp only [Act.put, List.setIfInBounds_toArray, List.set_cons_zero, List.set_cons_succ]
          refine wpAnyT_one (i := 9) (o := ⟨some 166, .call { callee := .builtin .append, args := #[(.tmp 161), (.tmp 165)], argTypes := #[25, 25] }, _, _, _, _⟩) (by kernel_rfl) rfl (fun K hK => ?_)
          refine op_append_src V3 (.tmp 161) (.tmp 165) 25 41 (.slice none 0 0) 1 24 rfl und25' info41' rfl (by decide) B _ _ 0 1 [] _ (by rfl) (by rfl) (own_nil _ _ _) HSc.out (by unfold maxLen; omega) (by omega) HAc.out.size (by rfl) ?_
          intro v3 w3 g1 g2 g3
          have hb := below_none g2
          obtain ⟨a3, c3', hv3⟩ := own_form g1
          rw [Nat.zero_add] at hv3
          subst hv3
          have HAq : Hid (∀ g, (Value.slice x1 1 y1).ownBlock = some g → (Value.slice a3 1 c3').ownBlock ≠ some g) := fun g hg e => by
            have h1 := ((HAc.out.rows ⟨41, .slice x1 1 y1, 1, [(.slice la l.length lc)]⟩ (by simp)).lt g hg).2
            rw [e] at g3
            rcases g3 with g3 | g3
            · cases g3
            · injection g3 with g3
              omega
          have HAd : Hid (DS w P B turn deep ⟨(.slice x1 1 y1), (.slice none 0 0), (.slice none 0 0), (.slice none 0 0), (.slice none 0 0), (.slice none 0 0), (.slice none 0 0), (.slice none 0 0), se⟩ [⟨41, .slice a3 1 c3', 1, [.slice a2 l.length c2]⟩, ⟨9, .slice a2 l.length c2, l.length, l2.map .string⟩, ⟨41, .slice x1 1 y1, 1, [.slice la l.length lc]⟩, ⟨9, .slice la l.length lc, l.length, l2.map .string⟩] w3) := (HAc.out.below hb).add ⟨41, .slice a3 1 c3', 1, [.slice a2 l.length c2]⟩ g1
          have HC : Hid (∀ w', DS w P B turn deep ⟨(.slice x1 1 y1), (.slice none 0 0), (.slice none 0 0), (.slice none 0 0), (.slice none 0 0), (.slice none 0 0), (.slice none 0 0), (.slice none 0 0), se⟩ [⟨41, .slice a3 1 c3', 1, [.slice a2 l.length c2]⟩, ⟨9, .slice a2 l.length c2, l.length, l2.map .string⟩, ⟨41, .slice x1 1 y1, 1, [.slice la l.length lc]⟩, ⟨9, .slice la l.length lc, l.length, l2.map .string⟩] w' → w'.cell? ⟨P, 14, none⟩ = some (.slice none 0 0)) := fun w' h => h.book.cell 14 _ rfl
          clear g1 g2 g3 hb
          refine hK.out _ _ ⟨trivial, fun _ => HC.out _ HAd.out⟩ ?_
          have hHeld := (⟨trivial, HC.out _ HAd.out⟩ : True ∧ _)
          clear hK K
          try simp only [Act.put, List.setIfInBounds_toArray, List.set_cons_zero, List.set_cons_succ]
          refine wpAnyT_takeB (i := 10) (oi := ⟨some 167, .nilCheck (.tmp 157), _, _, _, _⟩) (v := ?vR22c1x10) rfl (by kernel_rfl) (by kernel_rfl) (by kernel_rfl) (by kernel_rfl) (fun _ _ _ h => h) (Or.inl ⟨by rfl, ?hyR22c1x10⟩) (by assumption) ?restR22c1x10
          case hyR22c1x10 => (intro w hSw; (try dsimp only at hSw); go_simp; try (with_reducible rfl))
          try simp only [Act.put, List.setIfInBounds_toArray, List.set_cons_zero, List.set_cons_succ]
          refine wpAnyT_takeB (i := 11) (oi := ⟨some 168, .fieldAddr 40 (.tmp 167) 14, _, _, _, _⟩) (v := ?vR22c1x11) rfl (by kernel_rfl) (by kernel_rfl) (by kernel_rfl) (by kernel_rfl) (fun _ _ _ h => h) (Or.inl ⟨by rfl, ?hyR22c1x11⟩) (by assumption) ?restR22c1x11
          case hyR22c1x11 => (intro w hSw; (try dsimp only at hSw); go_simp; try (with_reducible rfl))
          try simp only [Act.put, List.setIfInBounds_toArray, List.set_cons_zero, List.set_cons_succ]
          have r14 := HC.out _ HAd.out
          have s14 := HAd.out.book.free 14
          obtain ⟨X3, hX3⟩ : ∃ W, w3.setCell ⟨P, 14, none⟩ (.slice a3 1 c3') = W := ⟨_, rfl⟩
          have HAe : Hid (DS w P B turn deep ⟨(.slice x1 1 y1), (.slice a3 1 c3'), (.slice none 0 0), (.slice none 0 0), (.slice none 0 0), (.slice none 0 0), (.slice none 0 0), (.slice none 0 0), se⟩ [⟨41, .slice a3 1 c3', 1, [.slice a2 l.length c2]⟩, ⟨9, .slice a2 l.length c2, l.length, l2.map .string⟩, ⟨41, .slice x1 1 y1, 1, [.slice la l.length lc]⟩, ⟨9, .slice la l.length lc, l.length, l2.map .string⟩] X3) := hX3 ▸ HAd.out.set 14 _ rfl
          refine wpAnyT_late (i := 12) (o := ⟨none, .store 25 (.tmp 168) (.tmp 166), _, _, _, _⟩) (by kernel_rfl) rfl (by kernel_rfl) (fun Kq hK => ?_)
          go_simp
          try rw [hX3]
          refine hK.out _ _ trivial ?_
          clear hK Kq r14 s14 HAd HAc HSc HAb HAa HRa HZ HSr HAv HC hHeld hX3 HLs HSz
          try simp only [Act.put, List.setIfInBounds_toArray, List.set_cons_zero, List.set_cons_succ]
          refine wpAnyT_done (by kernel_rfl) ?_ _
          have t17 : X3.cell? ⟨P, 17, none⟩ = some (.slice none 0 0) := HAe.out.book.cell 17 _ rfl
          obtain ⟨V4, hV4⟩ : ∃ V, X3.alloc (.cells #[(.slice la l.length lc)] 41) = V := ⟨_, rfl⟩
          have hb4 : RowKit.Below X3.heap.size X3 V4 := by rw [← hV4]; exact (Below.refl _ _).alloc (Nat.le_refl _) _
          have HS4 : Hid (SrcAt V4 (.slice (some ⟨X3.heap.size, 0, none⟩) 1 1) 1 1 [(.slice la l.length lc)]) := src_one (t := 41) (by rw [← hV4]; exact World.alloc_heap_new X3 _) rfl
          have HB4 : Hid (DS w P B turn deep ⟨(.slice x1 1 y1), (.slice a3 1 c3'), (.slice none 0 0), (.slice none 0 0), (.slice none 0 0), (.slice none 0 0), (.slice none 0 0), (.slice none 0 0), se⟩ [⟨41, .slice a3 1 c3', 1, [.slice a2 l.length c2]⟩, ⟨9, .slice a2 l.length c2, l.length, l2.map .string⟩, ⟨41, .slice x1 1 y1, 1, [.slice la l.length lc]⟩, ⟨9, .slice la l.length lc, l.length, l2.map .string⟩] V4) := HAe.out.below hb4
          clear hb4
          go_wp2_with (first | (at_builtin; (first | rw [hV4] | rw [hV6] | skip); (refine append_src V4 rfl (.tmp 173) (.tmp 175) 25 41 (.slice none 0 0) 1 24 rfl und25' info41' rfl (by decide) B _ _ 0 1 [] _ (by rfl) (by rfl) (own_nil _ _ _) HS4.out (by unfold maxLen; omega) (by omega) HB4.out.size ?_; intro v5 w5 g1' g2' _; have hb := below_none g2'; obtain ⟨x3, y3, hv⟩ := own_form g1'; rw [Nat.zero_add] at hv; subst hv; have HB5 : Hid (DS w P B turn deep ⟨(.slice x1 1 y1), (.slice a3 1 c3'), (.slice none 0 0), (.slice none 0 0), (.slice none 0 0), (.slice none 0 0), (.slice none 0 0), (.slice none 0 0), se⟩ [⟨41, .slice x3 1 y3, 1, [.slice la l.length lc]⟩, ⟨41, .slice a3 1 c3', 1, [.slice a2 l.length c2]⟩, ⟨9, .slice a2 l.length c2, l.length, l2.map .string⟩, ⟨41, .slice x1 1 y1, 1, [.slice la l.length lc]⟩, ⟨9, .slice la l.length lc, l.length, l2.map .string⟩] w5) := (HB4.out.below hb).add ⟨41, .slice x3 1 y3, 1, [(.slice la l.length lc)]⟩ g1'; have r17 : w5.cell? ⟨P, 17, none⟩ = some (.slice none 0 0) := HB5.out.book.cell 17 _ rfl; have s17 := HB5.out.book.free 17; obtain ⟨X5, hX5⟩ : ∃ W, w5.setCell ⟨P, 17, none⟩ (.slice x3 1 y3) = W := ⟨_, rfl⟩; have HB6 : Hid (DS w P B turn deep ⟨(.slice x1 1 y1), (.slice a3 1 c3'), (.slice none 0 0), (.slice none 0 0), (.slice x3 1 y3), (.slice none 0 0), (.slice none 0 0), (.slice none 0 0), se⟩ [⟨41, .slice x3 1 y3, 1, [.slice la l.length lc]⟩, ⟨41, .slice a3 1 c3', 1, [.slice a2 l.length c2]⟩, ⟨9, .slice a2 l.length c2, l.length, l2.map .string⟩, ⟨41, .slice x1 1 y1, 1, [.slice la l.length lc]⟩, ⟨9, .slice la l.length lc, l.length, l2.map .string⟩] X5) := hX5 ▸ HB5.out.set 17 _ rfl; clear g1' g2' hb t17; have t20 : X5.cell? ⟨P, 20, none⟩ = some (.slice none 0 0) := HB6.out.book.cell 20 _ rfl; obtain ⟨V6, hV6⟩ : ∃ V, X5.alloc (.cells #[.int .i64 m] 3) = V := ⟨_, rfl⟩; have hb6 : RowKit.Below X5.heap.size X5 V6 := hV6 ▸ (Below.refl _ _).alloc (Nat.le_refl _) _; have HS6 : Hid (SrcAt V6 (.slice (some ⟨X5.heap.size, 0, none⟩) 1 1) 1 1 [.int .i64 m]) := src_one (t := 3) (by rw [← hV6]; exact World.alloc_heap_new X5 _) rfl; have HB7 : Hid (DS w P B turn deep ⟨(.slice x1 1 y1), (.slice a3 1 c3'), (.slice none 0 0), (.slice none 0 0), (.slice x3 1 y3), (.slice none 0 0), (.slice none 0 0), (.slice none 0 0), se⟩ [⟨41, .slice x3 1 y3, 1, [.slice la l.length lc]⟩, ⟨41, .slice a3 1 c3', 1, [.slice a2 l.length c2]⟩, ⟨9, .slice a2 l.length c2, l.length, l2.map .string⟩, ⟨41, .slice x1 1 y1, 1, [.slice la l.length lc]⟩, ⟨9, .slice la l.length lc, l.length, l2.map .string⟩] V6) := HB6.out.below hb6; clear hb6)) | (at_builtin; (first | rw [hV6] | skip); (refine append_src V6 rfl (.tmp 183) (.tmp 185) 24 3 (.int .i64 0) 1 8 rfl und24' info3' rfl (by decide) B _ _ 0 1 [] _ (by rfl) (by rfl) (own_nil _ _ _) HS6.out (by unfold maxLen; omega) (by omega) HB7.out.size ?_; intro v8 w8 g1' g2' _; have hb := below_none g2'; obtain ⟨x4, y4, hv⟩ := own_form g1'; rw [Nat.zero_add] at hv; subst hv; have HB8 : Hid (DS w P B turn deep ⟨(.slice x1 1 y1), (.slice a3 1 c3'), (.slice none 0 0), (.slice none 0 0), (.slice x3 1 y3), (.slice none 0 0), (.slice none 0 0), (.slice none 0 0), se⟩ [⟨3, .slice x4 1 y4, 1, [.int .i64 m]⟩, ⟨41, .slice x3 1 y3, 1, [.slice la l.length lc]⟩, ⟨41, .slice a3 1 c3', 1, [.slice a2 l.length c2]⟩, ⟨9, .slice a2 l.length c2, l.length, l2.map .string⟩, ⟨41, .slice x1 1 y1, 1, [.slice la l.length lc]⟩, ⟨9, .slice la l.length lc, l.length, l2.map .string⟩] w8) := (HB7.out.below hb).add ⟨3, .slice x4 1 y4, 1, [.int .i64 m]⟩ g1'; have r20 : w8.cell? ⟨P, 20, none⟩ = some (.slice none 0 0) := HB8.out.book.cell 20 _ rfl; have s20 := HB8.out.book.free 20; obtain ⟨X8, hX8⟩ : ∃ W, w8.setCell ⟨P, 20, none⟩ (.slice x4 1 y4) = W := ⟨_, rfl⟩; have HB9 : Hid (DS w P B turn deep ⟨(.slice x1 1 y1), (.slice a3 1 c3'), (.slice none 0 0), (.slice none 0 0), (.slice x3 1 y3), (.slice none 0 0), (.slice none 0 0), (.slice x4 1 y4), se⟩ [⟨3, .slice x4 1 y4, 1, [.int .i64 m]⟩, ⟨41, .slice x3 1 y3, 1, [.slice la l.length lc]⟩, ⟨41, .slice a3 1 c3', 1, [.slice a2 l.length c2]⟩, ⟨9, .slice a2 l.length c2, l.length, l2.map .string⟩, ⟨41, .slice x1 1 y1, 1, [.slice la l.length lc]⟩, ⟨9, .slice la l.length lc, l.length, l2.map .string⟩] X8) := hX8 ▸ HB8.out.set 20 _ rfl; clear g1' g2' hb)))
          go_roundw
          case rel => exact .inr ⟨rfl, ⟨⟨(.slice x1 1 y1), (.slice a3 1 c3'), (.slice none 0 0), (.slice none 0 0), (.slice x3 1 y3), (.slice none 0 0), (.slice none 0 0), (.slice x4 1 y4), se⟩, .slice a2 l.length c2, l2, hl2, ⟨rfl, rfl, rfl, rfl, rfl⟩, HAq.out, HAp.out, HB9.out.less (by intro r hr; simp only [List.mem_cons, List.not_mem_nil, or_false] at hr; simp only [List.mem_cons, List.not_mem_nil, or_false]; rcases hr with rfl | rfl | rfl | rfl | rfl | rfl <;> simp)⟩⟩
          case measure => simp [RowKit.intOf]
    · go_wp2_with fail
      go_end0
      exact ⟨rfl, hF.out⟩
end Go.Proofs.YtpmiplhbppmboaaDoor
