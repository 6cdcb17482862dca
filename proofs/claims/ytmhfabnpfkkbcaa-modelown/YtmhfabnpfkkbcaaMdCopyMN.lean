/-
  Put together: MdCopyM, MdCopyN.
-/
import Derived.Test.YtmhfabnpfkkbcaaMdCopyOf
namespace Go.Proofs.Ytmhfabnpfkkbcaa
open Go.RowKit

/-- So it stays for another set: what is new may be written. -/
theorem Kept.young {S T : Nat → Prop} {w w1 : World} {p : World → Prop} (h : Kept S w p) (ho : Off S w w1) (hT : ∀ b, T b → S b ∨ w.heap.size ≤ b) : Kept T w1 p := fun w2 h2 =>
  h w2 ⟨Nat.le_trans ho.size h2.size, fun k hk hs => (h2.block k (Nat.lt_of_lt_of_le hk ho.size) fun ht => (hT k ht).elim hs (fun h => by omega)).trans (ho.block k hk hs)⟩
theorem Kept.less {S T : Nat → Prop} {w : World} {p : World → Prop} (h : Kept T w p) (hs : ∀ k, S k → T k) : Kept S w p := fun w2 h2 => h w2 (h2.less hs)

theorem list_val {P : Nat → Value → Prop} {n : Nat} (h : ∀ j, j < n → ∃ u, P j u) : ∃ us : List Value, us.length = n ∧ ∀ j (hj : j < us.length), P j us[j] := by
  induction n with
  | zero => exact ⟨[], rfl, fun j hj => absurd hj (Nat.not_lt_zero _)⟩
  | succ n ih =>
    obtain ⟨us, hl, hp⟩ := ih fun j hj => h j (by omega)
    obtain ⟨u, hu⟩ := h n (by omega)
    refine ⟨us ++ [u], by simp [hl], fun j hj => ?_⟩
    rcases Nat.lt_or_ge j us.length with h1 | h1
    · rw [List.getElem_append_left h1]; exact hp j h1
    · have : j = n := by simp at hj; omega
      subst this
      rw [List.getElem_append_right h1]
      simp [hl]
      exact hu

/-- A list of lists. -/
structure KRows (S : Nat → Prop) (w : World) (v : Value) (l : List (List Int)) (us : List Value) : Prop where
  len : us.length = l.length
  form : ∃ a cap, v = .slice a l.length cap ∧ l.length ≤ maxLen ∧ (0 < l.length → ∃ b off, a = some ⟨b, off, none⟩ ∧ b < w.heap.size ∧ ¬ S b ∧ ∀ j (h : j < us.length), w.cell? ⟨b, off + j, none⟩ = some us[j])
  each : ∀ j (h : j < us.length) (h2 : j < l.length), Kept S w (fun w' => IntsAt w' us[j] l[j])
theorem KRows.next {S : Nat → Prop} {w w' : World} {v : Value} {l : List (List Int)} {us : List Value} (h : KRows S w v l us) (ho : Off S w w') : KRows S w' v l us := by
  refine ⟨h.len, ?_, fun j hj h2 => (h.each j hj h2).next ho⟩
  obtain ⟨a, cap, hv, hm, hc⟩ := h.form
  refine ⟨a, cap, hv, hm, fun h0 => ?_⟩
  obtain ⟨b, off, ha, hb, hS, hj⟩ := hc h0
  exact ⟨b, off, ha, Nat.lt_of_lt_of_le hb ho.size, hS, fun j h => (World.cell?_of_block (a := ⟨b, off + j, none⟩) (ho.block b hb hS)).trans (hj j h)⟩
theorem KRows.rows {S : Nat → Prop} {w : World} {v : Value} {l : List (List Int)} {us : List Value} (h : KRows S w v l us) : RowsAt w v l := by
  obtain ⟨a, cap, hv, hm, hc⟩ := h.form
  refine ⟨a, cap, hv, hm, fun h0 => ?_⟩
  obtain ⟨b, off, ha, hb, _, hj⟩ := hc h0
  exact ⟨b, off, ha, hb, fun j h1 => ⟨us[j]'(by rw [h.len]; exact h1), hj j _, (h.each j (by rw [h.len]; exact h1) h1).now⟩⟩
theorem KRows.src {S : Nat → Prop} {w : World} {v : Value} {l : List (List Int)} {us : List Value} (h : KRows S w v l us) : SrcAt w v l.length 1 us := by
  obtain ⟨a, cap, hv, hm, hc⟩ := h.form
  refine ⟨a, cap, hv, by rw [h.len, Nat.mul_one], fun u hu => ?_, fun ha => ?_, fun ad ha j u hj => ?_⟩
  · obtain ⟨j, hj, rfl⟩ := List.mem_iff_getElem.1 hu
    obtain ⟨a', c', he, _⟩ := (h.each j hj (by rw [← h.len]; exact hj)).now
    rw [he]; rfl
  · rcases Nat.eq_zero_or_pos l.length with h0 | h0
    · exact h0
    · obtain ⟨b, off, hb, _⟩ := hc h0
      rw [ha] at hb; cases hb
  · obtain ⟨hj', he⟩ := List.getElem?_eq_some_iff.1 hj
    obtain ⟨b, off, hb, _, _, hcell⟩ := hc (by rw [← h.len]; omega)
    rw [ha] at hb
    injection hb with hb
    subst hb
    rw [addr_none, ← he]
    exact hcell j hj'
theorem KRows.old {S : Nat → Prop} {w0 w : World} {v : Value} {l : List (List Int)} (h : RowsAt w0 v l) (h0 : Below w0.heap.size w0 w) (hS : ∀ k, S k → w0.heap.size ≤ k) : ∃ us, KRows S w v l us := by
  obtain ⟨a, cap, hv, hm, hc⟩ := h
  rcases Nat.eq_zero_or_pos l.length with hz | hz
  · exact ⟨[], by rw [hz]; rfl, ⟨a, cap, hv, hm, fun h => by omega⟩, fun j hj => absurd hj (Nat.not_lt_zero _)⟩
  · obtain ⟨b, off, ha, hb, hj⟩ := hc hz
    obtain ⟨us, hl, hp⟩ := list_val (n := l.length) (P := fun j u => w0.cell? ⟨b, off + j, none⟩ = some u ∧ ∀ (h : j < l.length), IntsAt w0 u l[j]) (fun j h1 => by
      obtain ⟨u, h2, h3⟩ := hj j h1
      exact ⟨u, h2, fun _ => h3⟩)
    refine ⟨us, hl, ⟨a, cap, hv, hm, fun _ => ⟨b, off, ha, Nat.lt_of_lt_of_le hb h0.size, fun e => by have := hS b e; omega, fun j h1 => ?_⟩⟩, fun j h1 h2 => kept_ints ((hp j h1).2 h2) h0 hS⟩
    exact (h0.cell (p := ⟨b, off + j, none⟩) hb).trans (hp j h1).1
theorem KRows.own {S : Nat → Prop} {w : World} {B : Nat} {v : Value} {l : List (List Int)} {us : List Value} {e : TypeId} (h : w.ownsRow B e 1 v l.length us) (hl : us.length = l.length) (hm : l.length ≤ maxLen) (hS : ∀ g, B ≤ g → ¬ S g) (hk : ∀ j (h : j < us.length) (h2 : j < l.length), Kept S w (fun w' => IntsAt w' us[j] l[j])) : KRows S w v l us := by
  refine ⟨hl, ?_, hk⟩
  rcases own_cells h with ⟨rfl, hn⟩ | ⟨g, cap, rfl, hB, hg, _, hc⟩
  · exact ⟨none, 0, by rw [hn], hm, fun h0 => by omega⟩
  · exact ⟨_, cap, rfl, hm, fun _ => ⟨g, 0, rfl, hg, hS g hB, fun j hj => by rw [Nat.zero_add]; exact hc j _ (List.getElem?_eq_getElem hj)⟩⟩

/-- A constraint's lists. -/
structure KCn (S : Nat → Prop) (w : World) (c : Md.Cn) (vt vx vb vr : Value) : Prop where
  t : Kept S w (fun w' => TermsAt w' vt c.terms)
  x : Kept S w (fun w' => IntsAt w' vx c.xs)
  xcap : ∀ a n cp, vx = .slice a n cp → n ≤ cp
  b : Kept S w (fun w' => IntsAt w' vb c.table)
  r : ∃ us, KRows S w vr c.rows us
theorem KCn.at {S : Nat → Prop} {w : World} {c : Md.Cn} {vt vx vb vr : Value} (h : KCn S w c vt vx vb vr) : CnAt w c vt vx vb vr := by
  obtain ⟨us, hr⟩ := h.r
  exact ⟨h.t.now, h.x.now, h.xcap, h.b.now, hr.rows⟩
theorem KCn.next {S : Nat → Prop} {w w' : World} {c : Md.Cn} {vt vx vb vr : Value} (h : KCn S w c vt vx vb vr) (ho : Off S w w') : KCn S w' c vt vx vb vr := by
  obtain ⟨us, hr⟩ := h.r
  exact ⟨h.t.next ho, h.x.next ho, h.xcap, h.b.next ho, us, hr.next ho⟩
theorem KCn.old {S : Nat → Prop} {w0 w : World} {c : Md.Cn} {vt vx vb vr : Value} (h : CnAt w0 c vt vx vb vr) (h0 : Below w0.heap.size w0 w) (hS : ∀ k, S k → w0.heap.size ≤ k) : KCn S w c vt vx vb vr :=
  ⟨(kept_cn h h0 hS).imp fun _ h => h.t, kept_ints h.x h0 hS, h.xcap, kept_ints h.b h0 hS, KRows.old h.r h0 hS⟩

/-- A constraint's cells. -/
def cnCells (c : Md.Cn) (vt vx vb vr : Value) : List Value := [.int .i64 c.kind, .int .i64 c.op, vt, .int .i64 c.k, .int .i64 c.v, .int .i64 c.x, .int .i64 c.y, vx, vb, vr]
def InArr (cur : Array Value) (o : Nat) (L : List Value) : Prop := ∀ i u, L[i]? = some u → cur[o + i]? = some u
theorem InArr.far {cur : Array Value} {o p : Nat} {L : List Value} {v : Value} (h : InArr cur o L) (hp : p < o ∨ o + L.length ≤ p) : InArr (cur.setIfInBounds p v) o L := fun i u hi => by
  have hl := (List.getElem?_eq_some_iff.1 hi).1
  rw [Array.getElem?_setIfInBounds_ne (by omega)]
  exact h i u hi
theorem InArr.set {cur : Array Value} {o q : Nat} {L : List Value} (h : InArr cur o L) (hq : q < L.length) (v : Value) : InArr (cur.setIfInBounds (o + q) v) o (L.set q v) := fun i u hi => by
  rw [List.getElem?_set] at hi
  by_cases e : q = i
  · subst e
    rw [if_pos rfl, if_pos hq] at hi
    have hs : o + q < cur.size := (Array.getElem?_eq_some_iff.1 (h q _ (List.getElem?_eq_getElem hq))).1
    rw [Array.getElem?_setIfInBounds_self_of_lt hs]
    exact hi
  · rw [if_neg e] at hi
    rw [Array.getElem?_setIfInBounds_ne (by omega)]
    exact h i u hi
theorem InArr.cells {w : World} {g : Nat} {cur : Array Value} {t : TypeId} {o : Nat} {c : Md.Cn} {vt vx vb vr : Value} (h : InArr cur o (cnCells c vt vx vb vr)) (hg : w.heap[g]? = some (.cells cur t (0, 0))) : CnCells w g o c vt vx vb vr := by
  have key : ∀ i u, (cnCells c vt vx vb vr)[i]? = some u → w.cell? ⟨g, o + i, none⟩ = some u := fun i u hi => by
    have := h i u hi
    simp [World.cell?, hg, this]
  exact ⟨key 0 _ rfl, key 1 _ rfl, key 2 _ rfl, key 3 _ rfl, key 4 _ rfl, key 5 _ rfl, key 6 _ rfl, key 7 _ rfl, key 8 _ rfl, key 9 _ rfl⟩

/-- A list of constraints in a row of the call's own. -/
structure KCons (w : World) (g r cap : Nat) (l : List Md.Cn) (cur : Array Value) : Prop where
  blk : w.heap[g]? = some (.cells cur 40 (0, 0))
  size : cur.size = cap * 10
  le : l.length ≤ cap
  max : cap ≤ maxLen
  each : ∀ j (h : j < l.length), ∃ vt vx vb vr, InArr cur (j * 10) (cnCells l[j] vt vx vb vr) ∧ KCn (fun k => k = g ∨ k = r) w l[j] vt vx vb vr
theorem KCons.next {w w' : World} {g r cap : Nat} {l : List Md.Cn} {cur : Array Value} (h : KCons w g r cap l cur) (hb : Below w.heap.size w w') : KCons w' g r cap l cur :=
  ⟨(hb.block g (Array.getElem?_eq_some_iff.1 h.blk).1).trans h.blk, h.size, h.le, h.max, fun j hj => by
    obtain ⟨vt, vx, vb, vr, h1, h2⟩ := h.each j hj
    exact ⟨vt, vx, vb, vr, h1, h2.next (Off.of_below hb)⟩⟩
theorem KCons.cons {w : World} {g r cap : Nat} {l : List Md.Cn} {cur : Array Value} (h : KCons w g r cap l cur) : ConsAt w (.slice (some ⟨g, 0, none⟩) l.length cap) l :=
  ⟨_, cap, rfl, Nat.le_trans h.le h.max, fun _ => ⟨g, 0, rfl, (Array.getElem?_eq_some_iff.1 h.blk).1, fun j hj => by
    obtain ⟨vt, vx, vb, vr, h1, h2⟩ := h.each j hj
    exact ⟨vt, vx, vb, vr, h2.at, by rw [Nat.zero_add]; exact h1.cells h.blk⟩⟩⟩
/-- One constraint's lists are written anew. -/
theorem KCons.write {w w' : World} {g r cap k : Nat} {l : List Md.Cn} {cur : Array Value} {vt vx vb vr vt' vx' vb' vr' : Value} (h : KCons w g r cap l cur) (hk : k < l.length) (h0 : InArr cur (k * 10) (cnCells l[k] vt vx vb vr)) (ho : Off (fun b => b = g ∨ b = r) w w')
    (hb : w'.heap[g]? = some (.cells ((((cur.setIfInBounds (k * 10 + 2) vt').setIfInBounds (k * 10 + 7) vx').setIfInBounds (k * 10 + 8) vb').setIfInBounds (k * 10 + 9) vr') 40 (0, 0))) (hn : KCn (fun b => b = g ∨ b = r) w' l[k] vt' vx' vb' vr') :
    KCons w' g r cap l ((((cur.setIfInBounds (k * 10 + 2) vt').setIfInBounds (k * 10 + 7) vx').setIfInBounds (k * 10 + 8) vb').setIfInBounds (k * 10 + 9) vr') := by
  refine ⟨hb, by simp [h.size], h.le, h.max, fun j hj => ?_⟩
  by_cases e : j = k
  · subst e
    refine ⟨vt', vx', vb', vr', ?_, hn⟩
    exact ((((h0.set (q := 2) (by simp [cnCells]) vt').set (q := 7) (by simp [cnCells]) vx').set (q := 8) (by simp [cnCells]) vb').set (q := 9) (by simp [cnCells]) vr')
  · obtain ⟨v1, v2, v3, v4, h1, h2⟩ := h.each j hj
    have hlen : (cnCells l[j] v1 v2 v3 v4).length = 10 := rfl
    refine ⟨v1, v2, v3, v4, ?_, h2.next ho⟩
    exact (((h1.far (by rw [hlen]; omega)).far (by rw [hlen]; omega)).far (by rw [hlen]; omega)).far (by rw [hlen]; omega)

/-- Rows of equal length, one behind the other. -/
theorem flat_length (f : Nat → List Value) (s : Nat) (hf : ∀ j, (f j).length = s) (n : Nat) : ((List.range n).flatMap f).length = n * s := by
  induction n with
  | zero => simp
  | succ n ih => rw [List.range_succ, List.flatMap_append, List.length_append, ih, Nat.succ_mul]; simp [hf]
theorem flat_get (f : Nat → List Value) (s : Nat) (hf : ∀ j, (f j).length = s) (n j i : Nat) (hj : j < n) (hi : i < s) : ((List.range n).flatMap f)[j * s + i]? = (f j)[i]? := by
  induction n with
  | zero => omega
  | succ n ih =>
    rw [List.range_succ, List.flatMap_append]
    have hl := flat_length f s hf n
    rcases Nat.lt_or_ge j n with h | h
    · have : j * s + i < n * s := by
        have := Nat.mul_le_mul_right s (show j + 1 ≤ n from h)
        rw [Nat.succ_mul] at this; omega
      rw [List.getElem?_append_left (by rw [hl]; exact this)]
      exact ih h
    · have hjn : j = n := by omega
      subst hjn
      rw [List.getElem?_append_right (by rw [hl]; omega), hl, Nat.add_sub_cancel_left]
      simp
theorem ConsAt.srcs {w : World} {v : Value} {l : List Md.Cn} (h : ConsAt w v l) : ∃ D : Nat → Value × Value × Value × Value, SrcAt w v l.length 10 ((List.range l.length).flatMap fun j => cnCells (l.getD j ⟨0, 0, [], 0, 0, 0, 0, [], [], []⟩) (D j).1 (D j).2.1 (D j).2.2.1 (D j).2.2.2) ∧ ∀ j (h : j < l.length), CnAt w l[j] (D j).1 (D j).2.1 (D j).2.2.1 (D j).2.2.2 := by
  obtain ⟨a, cap, hv, hm, hc⟩ := h
  have hflat : ∀ D : Nat → Value × Value × Value × Value, ((List.range l.length).flatMap fun j => cnCells (l.getD j ⟨0, 0, [], 0, 0, 0, 0, [], [], []⟩) (D j).1 (D j).2.1 (D j).2.2.1 (D j).2.2.2).length = l.length * 10 := fun D => flat_length _ 10 (fun j => rfl) _
  rcases Nat.eq_zero_or_pos l.length with hz | hz
  · refine ⟨fun _ => (undef, undef, undef, undef), ⟨a, cap, hv, hflat _, fun u hu => ?_, fun _ => hz, fun ad _ j u hj => ?_⟩, fun j hj => by omega⟩
    · rw [hz] at hu; simp at hu
    · rw [hz] at hj; simp at hj
  · obtain ⟨b, off, ha, hb, hj⟩ := hc hz
    have hD : ∀ j, ∃ d : Value × Value × Value × Value, ∀ (h : j < l.length), CnAt w l[j] d.1 d.2.1 d.2.2.1 d.2.2.2 ∧ CnCells w b (off + j * 10) l[j] d.1 d.2.1 d.2.2.1 d.2.2.2 := fun j => by
      by_cases h1 : j < l.length
      · obtain ⟨v1, v2, v3, v4, h2, h3⟩ := hj j h1
        exact ⟨(v1, v2, v3, v4), fun _ => ⟨h2, h3⟩⟩
      · exact ⟨(undef, undef, undef, undef), fun h => absurd h h1⟩
    obtain ⟨D, hD⟩ := Classical.axiomOfChoice hD
    have key : ∀ q u, ((List.range l.length).flatMap fun j => cnCells (l.getD j ⟨0, 0, [], 0, 0, 0, 0, [], [], []⟩) (D j).1 (D j).2.1 (D j).2.2.1 (D j).2.2.2)[q]? = some u → w.cell? ⟨b, off + q, none⟩ = some u ∧ u.oneCell' = true := fun q u hq => by
      have hql : q < l.length * 10 := by rw [← hflat D]; exact (List.getElem?_eq_some_iff.1 hq).1
      have hjl : q / 10 < l.length := by omega
      have e : q = q / 10 * 10 + q % 10 := by omega
      rw [e, flat_get _ 10 (fun j => rfl) _ _ _ hjl (by omega)] at hq
      obtain ⟨hA, h0, h1, h2, h3, h4, h5, h6, h7, h8, h9⟩ := hD (q / 10) hjl
      have hgd : l.getD (q / 10) ⟨0, 0, [], 0, 0, 0, 0, [], [], []⟩ = l[q / 10] := by rw [List.getD_eq_getElem?_getD, List.getElem?_eq_getElem hjl]; rfl
      rw [hgd] at hq
      obtain ⟨at1, ct1, et, _⟩ := hA.t
      obtain ⟨ax1, cx1, ex, _⟩ := hA.x
      obtain ⟨ab1, cb1, eb, _⟩ := hA.b
      obtain ⟨ar1, cr1, er, _⟩ := hA.r
      have e2 : off + q = off + q / 10 * 10 + q % 10 := by omega
      rw [e2]
      have hi : q % 10 < 10 := Nat.mod_lt _ (by decide)
      generalize q % 10 = i at *
      match i, hi with
      | 0, _ => cases hq; exact ⟨h0, rfl⟩
      | 1, _ => cases hq; exact ⟨h1, rfl⟩
      | 2, _ => simp only [cnCells] at hq; cases hq; exact ⟨h2, by rw [et]; rfl⟩
      | 3, _ => cases hq; exact ⟨h3, rfl⟩
      | 4, _ => cases hq; exact ⟨h4, rfl⟩
      | 5, _ => cases hq; exact ⟨h5, rfl⟩
      | 6, _ => cases hq; exact ⟨h6, rfl⟩
      | 7, _ => simp only [cnCells] at hq; cases hq; exact ⟨h7, by rw [ex]; rfl⟩
      | 8, _ => simp only [cnCells] at hq; cases hq; exact ⟨h8, by rw [eb]; rfl⟩
      | 9, _ => simp only [cnCells] at hq; cases hq; exact ⟨h9, by rw [er]; rfl⟩
    refine ⟨D, ⟨a, cap, hv, hflat D, fun u hu => ?_, fun hn => (by rw [hn] at ha; cases ha), fun ad hd q u hq => ?_⟩, fun j h => (hD j h).1⟩
    · obtain ⟨q, hq, rfl⟩ := List.mem_iff_getElem.1 hu
      exact (key q _ (List.getElem?_eq_getElem hq)).2
    · rw [ha] at hd
      injection hd with hd
      subst hd
      rw [addr_none]
      exact (key q u hq).1
end Go.Proofs.Ytmhfabnpfkkbcaa

namespace Go.Proofs.Ytmhfabnpfkkbcaa
open Go.RowKit

theorem KRows.less {S T : Nat → Prop} {w : World} {v : Value} {l : List (List Int)} {us : List Value} (h : KRows T w v l us) (hs : ∀ k, S k → T k) : KRows S w v l us := by
  refine ⟨h.len, ?_, fun j hj h2 => (h.each j hj h2).less hs⟩
  obtain ⟨a, cap, hv, hm, hc⟩ := h.form
  refine ⟨a, cap, hv, hm, fun h0 => ?_⟩
  obtain ⟨b, off, ha, hb, hS, hj⟩ := hc h0
  exact ⟨b, off, ha, hb, fun e => hS (hs b e), hj⟩
theorem KCn.less {S T : Nat → Prop} {w : World} {c : Md.Cn} {vt vx vb vr : Value} (h : KCn T w c vt vx vb vr) (hs : ∀ k, S k → T k) : KCn S w c vt vx vb vr := by
  obtain ⟨us, hr⟩ := h.r
  exact ⟨h.t.less hs, h.x.less hs, h.xcap, h.b.less hs, us, hr.less hs⟩
theorem SrcAt.below {w w' : World} {x : Value} {m size : Nat} {news : List Value} (h : SrcAt w x m size news) (hb : Below w.heap.size w w') : SrcAt w' x m size news := by
  obtain ⟨a, c, h1, h2, h3, h4, h5⟩ := h
  exact ⟨a, c, h1, h2, h3, h4, fun ad ha j u hj => one_next hb (h5 ad ha j u hj)⟩

/-- The row's own block. -/
abbrev ob (v : Value) : Nat → Prop := fun b => v.ownBlock = some b
structure COwn (B r : Nat) (w : World) (v : Value) (l : List Md.Cn) (xs : List Value) : Prop where
  own : w.ownsRow B 40 10 v l.length xs
  each : ∀ j (h : j < l.length), ∃ vt vx vb vr, (∀ i u, (cnCells l[j] vt vx vb vr)[i]? = some u → xs[j * 10 + i]? = some u) ∧ KCn (fun b => ob v b ∨ b = r) w l[j] vt vx vb vr
theorem COwn.next {B r : Nat} {w w' : World} {v : Value} {l : List Md.Cn} {xs : List Value} (h : COwn B r w v l xs) (hb : Below w.heap.size w w') : COwn B r w' v l xs :=
  ⟨own_off (S := fun _ => False) h.own (fun _ _ h => h) (Off.of_below hb), fun j hj => by
    obtain ⟨vt, vx, vb, vr, h1, h2⟩ := h.each j hj
    exact ⟨vt, vx, vb, vr, h1, h2.next (Off.of_below hb)⟩⟩
theorem COwn.start {w0 w : World} {B r : Nat} {v : Value} {l : List Md.Cn} {D : Nat → Value × Value × Value × Value} (h : w.ownsRow B 40 10 v l.length ((List.range l.length).flatMap fun j => cnCells (l.getD j ⟨0, 0, [], 0, 0, 0, 0, [], [], []⟩) (D j).1 (D j).2.1 (D j).2.2.1 (D j).2.2.2)) (hD : ∀ j (h : j < l.length), CnAt w0 l[j] (D j).1 (D j).2.1 (D j).2.2.1 (D j).2.2.2) (h0 : Below w0.heap.size w0 w) (hB : w0.heap.size ≤ B) (hr : w0.heap.size ≤ r) : COwn B r w v l ((List.range l.length).flatMap fun j => cnCells (l.getD j ⟨0, 0, [], 0, 0, 0, 0, [], [], []⟩) (D j).1 (D j).2.1 (D j).2.2.1 (D j).2.2.2) := by
  refine ⟨h, fun j hj => ⟨_, _, _, _, fun i u hi => ?_, KCn.old (hD j hj) h0 (fun k hk => hk.elim (fun hk => Nat.le_trans hB (h.lt k hk).1) (fun hk => by omega))⟩⟩
  have hi10 : i < 10 := (List.getElem?_eq_some_iff.1 hi).1
  have hq := flat_get (fun j => cnCells (l.getD j ⟨0, 0, [], 0, 0, 0, 0, [], [], []⟩) (D j).1 (D j).2.1 (D j).2.2.1 (D j).2.2.2) 10 (fun j => rfl) l.length j i hj hi10
  have hgd : l.getD j ⟨0, 0, [], 0, 0, 0, 0, [], [], []⟩ = l[j] := by rw [List.getD_eq_getElem?_getD, List.getElem?_eq_getElem hj]; rfl
  rw [hq]
  simp only [hgd]
  exact hi
theorem COwn.kcons {B r n cap g : Nat} {w : World} {l : List Md.Cn} {xs : List Value} (h : COwn B r w (.slice (some ⟨g, 0, none⟩) n cap) l xs) : B ≤ g ∧ ∃ cur, KCons w g r cap l cur := by
  rcases h.own.2 with ⟨hv, _⟩ | ⟨g', cap', cur, hv, hg, hc, hm, hx, hs, ht⟩
  · injection hv with h1 _ _; cases h1
  · injection hv with h1 _ h3
    injection h1 with h1
    injection h1 with h1
    subst h1 h3
    refine ⟨hg, cur, hc, hs, hm, hx, fun j hj => ?_⟩
    obtain ⟨vt, vx, vb, vr, h1, h2⟩ := h.each j hj
    refine ⟨vt, vx, vb, vr, fun i u hi => ?_, h2.less fun k hk => hk.imp (fun e => by rw [e]; rfl) id⟩
    have hi10 : i < 10 := (List.getElem?_eq_some_iff.1 hi).1
    have := h1 i u hi
    rw [← ht, List.getElem?_take, if_pos (by omega)] at this
    simpa using this
theorem KCons.cown {B r cap g : Nat} {w : World} {l : List Md.Cn} {cur : Array Value} (h : KCons w g r cap l cur) (hB : B ≤ g) : COwn B r w (.slice (some ⟨g, 0, none⟩) l.length cap) l (cur.toList.take (l.length * 10)) := by
  have hle : l.length * 10 ≤ cur.size := by rw [h.size]; exact Nat.mul_le_mul_right 10 h.le
  refine ⟨⟨by simp; omega, .inr ⟨g, cap, cur, rfl, hB, h.blk, h.le, h.max, h.size, rfl⟩⟩, fun j hj => ?_⟩
  obtain ⟨vt, vx, vb, vr, h1, h2⟩ := h.each j hj
  refine ⟨vt, vx, vb, vr, fun i u hi => ?_, h2.less fun k hk => hk.imp (fun hk => by simp [ob, Value.ownBlock] at hk; exact hk.symm) id⟩
  have hi10 : i < 10 := (List.getElem?_eq_some_iff.1 hi).1
  rw [List.getElem?_take, if_pos (by omega)]
  simpa using h1 i u hi
theorem COwn.cons {B r : Nat} {w : World} {v : Value} {l : List Md.Cn} {xs : List Value} (h : COwn B r w v l xs) (hm : l.length ≤ maxLen) : ConsAt w v l := by
  rcases own_cells h.own with ⟨rfl, hn⟩ | ⟨g, cap, rfl, _, hg, _, hc⟩
  · exact ⟨none, 0, by rw [hn], hm, fun h0 => by omega⟩
  · refine ⟨_, cap, rfl, hm, fun _ => ⟨g, 0, rfl, hg, fun j hj => ?_⟩⟩
    obtain ⟨vt, vx, vb, vr, h1, h2⟩ := h.each j hj
    have key : ∀ i u, (cnCells l[j] vt vx vb vr)[i]? = some u → w.cell? ⟨g, 0 + j * 10 + i, none⟩ = some u := fun i u hi => by rw [Nat.zero_add]; exact hc _ _ (h1 i u hi)
    exact ⟨vt, vx, vb, vr, h2.at, key 0 _ rfl, key 1 _ rfl, key 2 _ rfl, key 3 _ rfl, key 4 _ rfl, key 5 _ rfl, key 6 _ rfl, key 7 _ rfl, key 8 _ rfl, key 9 _ rfl⟩
/-- One constraint more. -/
theorem COwn.more {B r : Nat} {w w' : World} {v v' : Value} {l : List Md.Cn} {xs : List Value} {c : Md.Cn} {vt vx vb vr : Value} (h : COwn B r w v l xs) (hn : w'.ownsRow B 40 10 v' (l.length + 1) (xs ++ cnCells c vt vx vb vr)) (ho : Off (fun b => ob v b ∨ b = r) w w') (hc : CnAt w' c vt vx vb vr) (hm : l.length + 1 ≤ maxLen) : ConsAt w' v' (l ++ [c]) := by
  have hxl : xs.length = l.length * 10 := h.own.1
  rcases own_cells hn with ⟨rfl, h0⟩ | ⟨g, cap, rfl, _, hg, _, hcell⟩
  · omega
  · refine ⟨some ⟨g, 0, none⟩, cap, by rw [List.length_append, List.length_singleton], by rw [List.length_append, List.length_singleton]; exact hm, fun _ => ⟨g, 0, rfl, hg, fun j hj => ?_⟩⟩
    rw [List.length_append, List.length_singleton] at hj
    rcases Nat.lt_or_ge j l.length with h1 | h1
    · obtain ⟨v1, v2, v3, v4, h2, h3⟩ := h.each j h1
      rw [List.getElem_append_left h1]
      have key : ∀ i u, (cnCells l[j] v1 v2 v3 v4)[i]? = some u → w'.cell? ⟨g, 0 + j * 10 + i, none⟩ = some u := fun i u hi => by
        have hi10 : i < 10 := (List.getElem?_eq_some_iff.1 hi).1
        rw [Nat.zero_add]
        exact hcell _ _ (by rw [List.getElem?_append_left (by omega)]; exact h2 i u hi)
      exact ⟨v1, v2, v3, v4, (h3.next ho).at, key 0 _ rfl, key 1 _ rfl, key 2 _ rfl, key 3 _ rfl, key 4 _ rfl, key 5 _ rfl, key 6 _ rfl, key 7 _ rfl, key 8 _ rfl, key 9 _ rfl⟩
    · have e : j = l.length := by omega
      subst e
      have e1 : (l ++ [c])[l.length]'(by simp) = c := by simp
      rw [e1]
      have key : ∀ i u, (cnCells c vt vx vb vr)[i]? = some u → w'.cell? ⟨g, 0 + l.length * 10 + i, none⟩ = some u := fun i u hi => by
        rw [Nat.zero_add]
        exact hcell _ _ (by rw [List.getElem?_append_right (by omega), hxl, Nat.add_sub_cancel_left]; exact hi)
      exact ⟨vt, vx, vb, vr, hc, key 0 _ rfl, key 1 _ rfl, key 2 _ rfl, key 3 _ rfl, key 4 _ rfl, key 5 _ rfl, key 6 _ rfl, key 7 _ rfl, key 8 _ rfl, key 9 _ rfl⟩

/-- What Copy keeps. -/
structure CopyI (w : World) (m : Md.Mo) (vv vc vg : Value) (wr : World) : Prop where
  box : wr.heap[w.heap.size]? = some (.cells #[vv, vc, .bool m.has, vg] 26 (0, 0))
  res : wr.heap[w.heap.size + 1]? = some (.cells #[.slice none 0 0, .slice none 0 0, .bool false, .slice none 0 0] 26 (0, 0))
  below : Below w.heap.size w wr
  cons : ∃ xs, COwn (w.heap.size + 2) (w.heap.size + 1) wr vc m.cons xs
  vars : Kept (fun b => ob vc b ∨ b = w.heap.size + 1) wr (fun w' => VarsAt w' vv m.vars)
  vcap : ∀ a n cp, vv = .slice a n cp → n ≤ cp
  goal : Kept (fun b => ob vc b ∨ b = w.heap.size + 1) wr (fun w' => TermsAt w' vg m.goal)
theorem CopyI.next {w wr w' : World} {m : Md.Mo} {vv vc vg : Value} (h : CopyI w m vv vc vg wr) (ho : Off (ob vc) wr w') (hb : Below w.heap.size w w') (hc : ∃ xs, COwn (w.heap.size + 2) (w.heap.size + 1) w' vc m.cons xs) : CopyI w m vv vc vg w' := by
  obtain ⟨xs, hx⟩ := h.cons
  have hlt := hx.own.lt
  have hb1 := (Array.getElem?_eq_some_iff.1 h.box).1
  have hb2 := (Array.getElem?_eq_some_iff.1 h.res).1
  exact ⟨(ho.block _ hb1 (fun e => by have := (hlt _ e).1; omega)).trans h.box, (ho.block _ hb2 (fun e => by have := (hlt _ e).1; omega)).trans h.res, hb, hc, h.vars.next (ho.less fun _ => .inl), h.vcap, h.goal.next (ho.less fun _ => .inl)⟩
/-- What Copy leaves. -/
def CopyOut (w : World) (m : Md.Mo) (e : Ending) (w' : World) : Prop :=
  ∃ vv vc vg xs, e = .returned (.agg #[vv, vc, .bool m.has, vg]) ∧ Below w.heap.size w w' ∧ COwn w.heap.size (w.heap.size + 1) w' vc m.cons xs ∧ Kept (fun b => ob vc b ∨ b = w.heap.size + 1) w' (fun w2 => VarsAt w2 vv m.vars) ∧ (∀ a n cp, vv = .slice a n cp → n ≤ cp) ∧ Kept (fun b => ob vc b ∨ b = w.heap.size + 1) w' (fun w2 => TermsAt w2 vg m.goal)
theorem Off.setG {w : World} {g i : Nat} (v : Value) : Off (fun b => b = g) w (w.setCell ⟨g, i, none⟩ v) := Off.set (S := fun b => b = g) v rfl
theorem Off.then {S T : Nat → Prop} {a b c : World} (h : Off S a b) (k : Off T b c) (hT : ∀ x, T x → a.heap.size ≤ x) : Off S a c :=
  ⟨Nat.le_trans h.size k.size, fun i hi hs => (k.block i (Nat.lt_of_lt_of_le hi h.size) fun ht => by have := hT i ht; omega).trans (h.block i hi hs)⟩
theorem own_low {w : World} {B B' : Nat} {e : TypeId} {size : Nat} {v : Value} {n : Nat} {xs : List Value} (h : w.ownsRow B e size v n xs) (hB : B' ≤ B) : w.ownsRow B' e size v n xs := by
  refine ⟨h.1, ?_⟩
  rcases h.2 with h1 | ⟨g, cap, cur, hv, hg, h2⟩
  · exact .inl h1
  · exact .inr ⟨g, cap, cur, hv, Nat.le_trans hB hg, h2⟩
/-- The three lists are copied, and laid in the problem's box. -/
theorem copyI_start {w W w1 w2 w3 : World} {m : Md.Mo} {vv vc vg v1 v2 v3 : Value} {D : Nat → Value × Value × Value × Value} (hN : W.heap[w.heap.size]? = some (.cells #[vv, vc, .bool m.has, vg] 26)) (hN1 : W.heap[w.heap.size + 1]? = some (.cells #[.slice none 0 0, .slice none 0 0, .bool false, .slice none 0 0] 26)) (hs : W.heap.size = w.heap.size + 2) (hbW : Below w.heap.size w W)
    (hb1 : Below W.heap.size W w1) (hb2 : Below w1.heap.size w1 w2) (hb3 : Below w2.heap.size w2 w3) (ho1 : w1.ownsRow W.heap.size 37 3 v1 m.vars.length (varCells m.vars)) (ho2 : w2.ownsRow w1.heap.size 40 10 v2 m.cons.length ((List.range m.cons.length).flatMap fun j => cnCells (m.cons.getD j ⟨0, 0, [], 0, 0, 0, 0, [], [], []⟩) (D j).1 (D j).2.1 (D j).2.2.1 (D j).2.2.2)) (ho3 : w3.ownsRow w2.heap.size 35 2 v3 m.goal.length (termCells m.goal))
    (hD : ∀ j (h : j < m.cons.length), CnAt w m.cons[j] (D j).1 (D j).2.1 (D j).2.2.1 (D j).2.2.2) (hn : ∀ x ∈ m.vars, x.name.size ≤ maxLen) (hl : m.vars.length ≤ maxLen) (hg : m.goal.length ≤ maxLen) :
    CopyI w m v1 v2 v3 (((w3.setCell ⟨w.heap.size, 0, none⟩ v1).setCell ⟨w.heap.size, 1, none⟩ v2).setCell ⟨w.heap.size, 3, none⟩ v3) := by
  have s1 := hb1.size
  have s2 := hb2.size
  have s3 := hb3.size
  have hb13 : Below W.heap.size W w3 := (hb1.trans (hb2.mono s1)).trans (hb3.mono (by omega))
  have hbw : Below w.heap.size w w3 := hbW.trans (hb13.mono (by omega))
  have hbx : Below w.heap.size w (((w3.setCell ⟨w.heap.size, 0, none⟩ v1).setCell ⟨w.heap.size, 1, none⟩ v2).setCell ⟨w.heap.size, 3, none⟩ v3) := ((hbw.setCell (Nat.le_refl _) _).setCell (Nat.le_refl _) _).setCell (Nat.le_refl _) _
  have hoff : Off (fun b => b = w.heap.size) w3 (((w3.setCell ⟨w.heap.size, 0, none⟩ v1).setCell ⟨w.heap.size, 1, none⟩ v2).setCell ⟨w.heap.size, 3, none⟩ v3) := ((Off.setG _).trans (Off.setG _)).trans (Off.setG _)
  have e0 : w3.heap[w.heap.size]? = some (.cells #[vv, vc, .bool m.has, vg] 26) := (hb13.block _ (by omega)).trans hN
  have l1 := ho1.lt
  have l2 := ho2.lt
  have l3 := ho3.lt
  have q1 := own_off (own_off (own_off (S := fun _ => False) ho1 (fun _ _ h => h) (Off.of_below hb2)) (fun _ _ h => h) (Off.of_below hb3)) (fun g hg => by have := (l1 g hg).1; omega) hoff
  have q2 := own_off (own_off (S := fun _ => False) ho2 (fun _ _ h => h) (Off.of_below hb3)) (fun g hg => by have := (l2 g hg).1; omega) hoff
  have q3 := own_off ho3 (fun g hg => by have := (l3 g hg).1; omega) hoff
  have hc := COwn.start (r := w.heap.size + 1) q2 hD hbx (by omega) (by omega)
  refine ⟨?_, ?_, hbx, ⟨_, own_low hc.own (by omega), hc.each⟩, fun w' ho => own_vars (own_off q1 (fun g hg e => e.elim (fun e => by have := (l1 g hg).2; have := (l2 g e).1; omega) (fun e => by have := (l1 g hg).1; omega)) ho) hl hn, own_cap q1, fun w' ho => own_terms (own_off q3 (fun g hg e => e.elim (fun e => by have := (l3 g hg).1; have := (l2 g e).2; omega) (fun e => by have := (l3 g hg).1; omega)) ho) hg⟩
  · have e1 := heap_setCell_same w3 w.heap.size 0 _ 26 v1 e0
    have e2 := heap_setCell_same _ w.heap.size 1 _ 26 v2 e1
    have e3 := heap_setCell_same _ w.heap.size 3 _ 26 v3 e2
    exact e3
  · exact (hoff.block _ (by omega) (by omega)).trans ((hb13.block _ (by omega)).trans hN1)

/-- One element of a row of the call's own is written. -/
theorem own_set {w : World} {B : Nat} {e : TypeId} {g n cap j : Nat} {xs : List Value} (h : w.ownsRow B e 1 (.slice (some ⟨g, 0, none⟩) n cap) n xs) (u : Value) : (w.setCell ⟨g, j, none⟩ u).ownsRow B e 1 (.slice (some ⟨g, 0, none⟩) n cap) n (xs.set j u) := by
  rcases h.2 with ⟨hv, _⟩ | ⟨g', cap', cur, hv, hg, hc, hm, hx, hs, ht⟩
  · injection hv with h1 _ _; cases h1
  · injection hv with h1 _ h3
    injection h1 with h1
    injection h1 with h1
    subst h1 h3
    refine ⟨by rw [List.length_set]; exact h.1, .inr ⟨g, cap, cur.setIfInBounds j u, rfl, hg, heap_setCell_same w g j cur e u hc, hm, hx, by simp [hs], ?_⟩⟩
    rw [Array.toList_setIfInBounds, ← ht, List.take_set]
/-- The rows of one constraint while they are copied. -/
structure RowsC (V : World) (g r : Nat) (v : Value) (l : List (List Int)) (B : Nat) (wq : World) : Prop where
  off : Off (ob v) V wq
  row : ∃ us, wq.ownsRow B 27 1 v l.length us ∧ us.length = l.length ∧ ∀ j (h : j < us.length) (h2 : j < l.length), Kept (fun b => (b = g ∨ b = r) ∨ ob v b) wq (fun w' => IntsAt w' us[j] l[j])
theorem RowsC.step {V wq w1 : World} {g r h n cap j B : Nat} {l : List (List Int)} {v' : Value} (hR : RowsC V g r (.slice (some ⟨h, 0, none⟩) n cap) l B wq) (hn : l.length = n) (hj : j < n) (hg : g < wq.heap.size) (hr : r < wq.heap.size) (hb : Below wq.heap.size wq w1) (ho : w1.ownsRow wq.heap.size 3 1 v' (l[j]'(by omega)).length ((l[j]'(by omega)).map (.int .i64))) (hm : (l[j]'(by omega)).length ≤ maxLen) : RowsC V g r (.slice (some ⟨h, 0, none⟩) n cap) l B (w1.setCell ⟨h, j, none⟩ v') := by
  subst hn
  obtain ⟨us, h1, h2, h3⟩ := hR.row
  have hh : h < wq.heap.size := (h1.lt h rfl).2
  have o1 : Off (fun b => (b = g ∨ b = r) ∨ ob (.slice (some ⟨h, 0, none⟩) l.length cap) b) wq (w1.setCell ⟨h, j, none⟩ v') := (Off.of_below hb).trans (Off.set _ (.inr rfl))
  refine ⟨hR.off.trans ((Off.of_below hb).trans (Off.set _ rfl)), us.set j v', own_set (own_off (S := fun _ => False) h1 (fun _ _ h => h) (Off.of_below hb)) v', by rw [List.length_set]; exact h2, fun i hi h4 => ?_⟩
  rw [List.length_set] at hi
  rw [List.getElem_set]
  by_cases e : j = i
  · subst e
    rw [if_pos rfl]
    intro w' hw'
    have ho' := own_off (S := fun b => (b = g ∨ b = r) ∨ ob (.slice (some ⟨h, 0, none⟩) l.length cap) b) ho (fun k hk hS => by
      have := (ho.lt k hk).1
      rcases hS with (rfl | rfl) | hS
      · omega
      · omega
      · simp [ob, Value.ownBlock] at hS; omega) ((Off.set _ (.inr rfl)).trans hw')
    exact own_ints' ho' hm
  · rw [if_neg e]
    exact (h3 i hi h4).next o1
/-- All lists of one constraint are copied. -/
theorem copied {w wr w6 w7 w8 w9 wq V : World} {m : Md.Mo} {g cap k : Nat} {cur : Array Value} {vv vg vt vx vb vr vt' vx' vb' vr' : Value} {us : List Value} (hI : CopyI w m vv (.slice (some ⟨g, 0, none⟩) m.cons.length cap) vg wr) (hg : w.heap.size + 2 ≤ g) (hK : KCons wr g (w.heap.size + 1) cap m.cons cur) (hk : k < m.cons.length) (h0 : InArr cur (k * 10) (cnCells m.cons[k] vt vx vb vr))
    (hb6 : Below wr.heap.size wr w6) (hb7 : Below w6.heap.size w6 w7) (hb8 : Below w7.heap.size w7 w8) (hb9 : Below w8.heap.size w8 w9) (ht : w6.ownsRow wr.heap.size 35 2 vt' m.cons[k].terms.length (termCells m.cons[k].terms)) (hx : w7.ownsRow w6.heap.size 3 1 vx' m.cons[k].xs.length (m.cons[k].xs.map (.int .i64))) (hbt : w8.ownsRow w7.heap.size 3 1 vb' m.cons[k].table.length (m.cons[k].table.map (.int .i64))) (hr : w9.ownsRow w8.heap.size 27 1 vr' m.cons[k].rows.length us)
    (hV : (((w9.setCell ⟨g, k * 10 + 2, none⟩ vt').setCell ⟨g, k * 10 + 7, none⟩ vx').setCell ⟨g, k * 10 + 8, none⟩ vb').setCell ⟨g, k * 10 + 9, none⟩ vr' = V) (hR : RowsC V g (w.heap.size + 1) vr' m.cons[k].rows w8.heap.size wq) (hb : Below w.heap.size w wq)
    (hm : m.cons[k].terms.length ≤ maxLen ∧ m.cons[k].xs.length ≤ maxLen ∧ m.cons[k].table.length ≤ maxLen ∧ m.cons[k].rows.length ≤ maxLen) : CopyI w m vv (.slice (some ⟨g, 0, none⟩) m.cons.length cap) vg wq := by
  have s6 := hb6.size
  have s7 := hb7.size
  have s8 := hb8.size
  have s9 := hb9.size
  have hgl : g < wr.heap.size := (Array.getElem?_eq_some_iff.1 hK.blk).1
  have hb69 : Below wr.heap.size wr w9 := ((hb6.trans (hb7.mono s6)).trans (hb8.mono (by omega))).trans (hb9.mono (by omega))
  have hoV : Off (fun b => b = g) w9 V := by rw [← hV]; exact (((Off.setG _).trans (Off.setG _)).trans (Off.setG _)).trans (Off.setG _)
  have hoW : Off (fun b => b = g) wr V := (Off.of_below hb69).trans hoV
  have hrl := hr.lt
  have hyoung : ∀ x, ob vr' x → wr.heap.size ≤ x := fun x hx => by have := (hrl x hx).1; omega
  have hoq : Off (fun b => b = g) wr wq := hoW.then hR.off hyoung
  have e9 : w9.heap[g]? = some (.cells cur 40 (0, 0)) := (hb69.block g hgl).trans hK.blk
  have eV : V.heap[g]? = some (.cells ((((cur.setIfInBounds (k * 10 + 2) vt').setIfInBounds (k * 10 + 7) vx').setIfInBounds (k * 10 + 8) vb').setIfInBounds (k * 10 + 9) vr') 40 (0, 0)) := by
    rw [← hV]
    exact heap_setCell_same _ g _ _ 40 vr' (heap_setCell_same _ g _ _ 40 vb' (heap_setCell_same _ g _ _ 40 vx' (heap_setCell_same w9 g _ cur 40 vt' e9)))
  have hsV : w9.heap.size ≤ V.heap.size := hoV.size
  have eq : wq.heap[g]? = some (.cells ((((cur.setIfInBounds (k * 10 + 2) vt').setIfInBounds (k * 10 + 7) vx').setIfInBounds (k * 10 + 8) vb').setIfInBounds (k * 10 + 9) vr') 40 (0, 0)) := (hR.off.block g (by omega) (fun e => by have := (hrl g e).1; omega)).trans eV
  have lt := ht.lt
  have lx := hx.lt
  have lb := hbt.lt
  have t2 := own_off (own_off (own_off (own_off (own_off (S := fun _ => False) ht (fun _ _ h => h) (Off.of_below hb7)) (fun _ _ h => h) (Off.of_below hb8)) (fun _ _ h => h) (Off.of_below hb9)) (fun b hb => by have := (lt b hb).1; omega) hoV) (fun b hb e => by have := (lt b hb).2; have := (hrl b e).1; omega) hR.off
  have x2 := own_off (own_off (own_off (own_off (S := fun _ => False) hx (fun _ _ h => h) (Off.of_below hb8)) (fun _ _ h => h) (Off.of_below hb9)) (fun b hb => by have := (lx b hb).1; omega) hoV) (fun b hb e => by have := (lx b hb).2; have := (hrl b e).1; omega) hR.off
  have b2 := own_off (own_off (own_off (S := fun _ => False) hbt (fun _ _ h => h) (Off.of_below hb9)) (fun b hb => by have := (lb b hb).1; omega) hoV) (fun b hb e => by have := (lb b hb).2; have := (hrl b e).1; omega) hR.off
  obtain ⟨us', r1, r2, r3⟩ := hR.row
  have hn : KCn (fun b => b = g ∨ b = w.heap.size + 1) wq m.cons[k] vt' vx' vb' vr' :=
    ⟨keptown_terms t2 (fun b hb e => by omega) hm.1, keptown_ints x2 (fun b hb e => by omega) hm.2.1, own_cap x2, keptown_ints b2 (fun b hb e => by omega) hm.2.2.1, us', KRows.own r1 r2 hm.2.2.2 (fun b hb e => by omega) fun j hj h2 => (r3 j hj h2).less fun _ e => .inl e⟩
  have hKn := hK.write hk h0 (hoq.less fun _ => .inl) eq hn
  exact hI.next (hoq.less fun b e => by rw [e]; rfl) hb ⟨_, hKn.cown hg⟩
theorem rowsC_start {wr w8 w9 V : World} {g r : Nat} {vr vr' : Value} {l : List (List Int)} {us : List Value} (hU : KRows (fun b => b = g ∨ b = r) wr vr l us) (hb : Below wr.heap.size wr w9) (h8 : wr.heap.size ≤ w8.heap.size) (hr : w9.ownsRow w8.heap.size 27 1 vr' l.length us) (hV : Off (fun b => b = g) w9 V) (hg : g < wr.heap.size) : RowsC V g r vr' l w8.heap.size V :=
  ⟨Off.refl _ _, us, own_off hr (fun b hb => by have := (hr.lt b hb).1; omega) hV, hU.len, fun j h h2 => (hU.each j h h2).young ((Off.of_below hb).trans (hV.less fun _ => .inl)) (fun b e => e.elim .inl (fun e => .inr (by have := (hr.lt b e).1; omega)))⟩
theorem CopyI.done {w wr w' : World} {m : Md.Mo} {vv vc vg : Value} (h : CopyI w m vv vc vg wr) (ho : Off (fun b => b = w.heap.size + 1) wr w') (hb : Below w.heap.size w w') : CopyOut w m (.returned (.agg #[vv, vc, .bool m.has, vg])) w' := by
  obtain ⟨xs, hx⟩ := h.cons
  refine ⟨vv, vc, vg, xs, rfl, hb, ⟨own_low (own_off hx.own (fun b hb => by have := (hx.own.lt b hb).1; omega) ho) (by omega), fun j hj => ?_⟩, h.vars.next (ho.less fun _ => .inr), h.vcap, h.goal.next (ho.less fun _ => .inr)⟩
  obtain ⟨vt, vx, vb, vr, h1, h2⟩ := hx.each j hj
  exact ⟨vt, vx, vb, vr, h1, h2.next (ho.less fun _ => .inr)⟩
end Go.Proofs.Ytmhfabnpfkkbcaa
