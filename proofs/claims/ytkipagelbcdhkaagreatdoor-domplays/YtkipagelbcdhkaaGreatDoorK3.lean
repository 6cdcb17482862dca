/-
  Put together: DtDuo, DtPlayA, DtPlayB.
-/
import Derived.Test.YtkipagelbcdhkaaGreatDoorK2
import Derived.Test.YtkipagelbcdhkaaGreatDoorK1
import Derived.Test.YtkipagelbcdhkaaGreatDoorDmMark
namespace Go.Proofs.YtkipagelbcdhkaaGreatDoor
open Go.RowKit

structure Duo (B : Nat) (O : Nat → Prop) (w : World) (p r : Nat) (s : St) (LL : List (List Int)) (MM : List (List (List Int))) : Prop where
  ex : ∃ nv mv S Bs, StAt Bs w p nv mv s ∧ RsAt B S w r LL MM ∧ B ≤ Bs ∧ (∀ k, Own p nv mv k → O k) ∧ (∀ k, S k → O k) ∧ ∀ k, Own p nv mv k → ¬ S k
  lo : ∀ k, O k → B ≤ k
  lt : ∀ k, O k → k < w.heap.size
def DuOut (B : Nat) (O : Nat → Prop) (p r : Nat) (s : St) (LL : List (List Int)) (MM : List (List (List Int))) (v : Value) (w : World) (e : Ending) (w' : World) : Prop := e = .returned v ∧ ∃ O', Duo B O' w' p r s LL MM ∧ SStp B O w w' ∧ Grown O w w' O'
section
variable {B : Nat} {O : Nat → Prop} {w w' : World} {p r : Nat} {s s' : St} {LL LL' : List (List Int)} {MM MM' : List (List (List Int))}
theorem Duo.keep (h : Duo B O w p r s LL MM) (hz : w.heap.size ≤ w'.heap.size) (hk : ∀ k, O k → w'.heap[k]? = w.heap[k]?) : Duo B O w' p r s LL MM := by
  obtain ⟨nv, mv, S, Bs, h2, h3, h4, h5, h6, h7⟩ := h.ex
  exact ⟨⟨nv, mv, S, Bs, h2.keep (fun k _ ho => hk k (h5 k ho)), h3.keep hz (fun k hS => hk k (h6 k hS)), h4, h5, h6, h7⟩, h.lo, fun k hS => Nat.lt_of_lt_of_le (h.lt k hS) hz⟩
theorem Duo.below (h : Duo B O w p r s LL MM) (hb : Below w.heap.size w w') : Duo B O w' p r s LL MM := h.keep hb.size fun k hk => hb.block k (h.lt k hk)
theorem Duo.prog {nv mv mv' : Value} {S : Nat → Prop} {Bs : Nat} (h : Duo B O w p r s LL MM) (_h2 : StAt Bs w p nv mv s) (h3 : RsAt B S w r LL MM) (h4 : B ≤ Bs) (h5 : ∀ k, Own p nv mv k → O k) (h6 : ∀ k, S k → O k) (h7 : ∀ k, Own p nv mv k → ¬ S k)
    (a1 : StAt Bs w' p nv mv' s') (a2 : Stp Bs p nv mv w w') (a3 : ∀ k, mv'.ownBlock = some k → mv.ownBlock = some k ∨ w.heap.size ≤ k) : ∃ O', Duo B O' w' p r s' LL MM ∧ SStp B O w w' ∧ Grown O w w' O' := by
  have hown : ∀ k, Own p nv mv' k → Own p nv mv k ∨ (w.heap.size ≤ k ∧ k < w'.heap.size) := fun k hk => by
    rcases hk with e | e | e
    · exact .inl (.inl e)
    · exact .inl (.inr (.inl e))
    · rcases a3 k e with a | a
      · exact .inl (.inr (.inr a))
      · exact .inr ⟨a, own_lt a1 (.inr (.inr e))⟩
  refine ⟨fun k => O k ∨ Own p nv mv' k, ⟨⟨nv, mv', S, Bs, a1, h3.keep a2.off.size (fun k hk => a2.off.block k (h3.lt k hk) (fun e => h7 k e hk)), h4, fun k hk => .inr hk, fun k hk => .inl (h6 k hk), fun k hk hS => ?_⟩, ?_, ?_⟩, ⟨a2.below.mono h4, a2.off.less h5⟩, fun k hk => ?_⟩
  · rcases hown k hk with e | e
    · exact h7 k e hS
    · have := h3.lt k hS; omega
  · rintro k (e | e)
    · exact h.lo k e
    · exact Nat.le_trans h4 (own_lo a1 e)
  · rintro k (e | e)
    · exact Nat.lt_of_lt_of_le (h.lt k e) a2.off.size
    · exact own_lt a1 e
  · rcases hk with e | e
    · exact .inl e
    · rcases hown k e with a | a
      · exact .inl (h5 k a)
      · exact .inr a
theorem Duo.doc {nv mv : Value} {S S' : Nat → Prop} {Bs : Nat} (h : Duo B O w p r s LL MM) (h2 : StAt Bs w p nv mv s) (h4 : B ≤ Bs) (h5 : ∀ k, Own p nv mv k → O k) (h6 : ∀ k, S k → O k) (h7 : ∀ k, Own p nv mv k → ¬ S k)
    (a1 : RsAt B S' w' r LL' MM') (a2 : SStp B S w w') (a3 : Grown S w w' S') : ∃ O', Duo B O' w' p r s LL' MM' ∧ SStp B O w w' ∧ Grown O w w' O' := by
  refine ⟨fun k => O k ∨ S' k, ⟨⟨nv, mv, S', Bs, h2.keep (fun k hk ho => a2.off.block k hk (fun e => h7 k ho e)), a1, h4, fun k hk => .inl (h5 k hk), fun k hk => .inr hk, fun k hk hS => ?_⟩, ?_, ?_⟩, ⟨a2.below, a2.off.less h6⟩, fun k hk => ?_⟩
  · rcases a3 k hS with e | e
    · exact h7 k hk e
    · have := own_lt h2 hk; omega
  · rintro k (e | e)
    · exact h.lo k e
    · exact a1.lo k e
  · rintro k (e | e)
    · exact Nat.lt_of_lt_of_le (h.lt k e) a2.off.size
    · exact a1.lt k e
  · rcases hk with e | e
    · exact .inl e
    · rcases a3 k e with a | a
      · exact .inl (h6 k a)
      · exact .inr a
/-- The calls. -/
theorem Duo.cut1 (h : Duo B O w p r s LL MM) (k x v : Int) : Calls Tryz.prog 15 #[.pointer (some ⟨p, 0, none⟩), .agg #[.int .i64 k, .int .i64 x, .int .i64 v]] w (DuOut B O p r (s.cut k x v) LL MM (.tuple #[.bool (s.went k x v), .bool (s.may k x v)]) w) := by
  obtain ⟨nv, mv, S, Bs, h2, h3, h4, h5, h6, h7⟩ := h.ex
  exact (cut_any Bs p nv mv s k x v w h2).mono fun e w' hq => ⟨hq.1, h.prog h2 h3 h4 h5 h6 h7 hq.2.1 hq.2.2 fun k hk => .inl hk⟩
theorem Duo.cut2 (h : Duo B O w p r s LL MM) (k x v : Int) : Calls Tryz.prog 35 #[.pointer (some ⟨r, 0, none⟩), .agg #[.int .i64 k, .int .i64 x, .int .i64 v]] w (DuOut B O p r s (cutLL LL k x v) MM (.tuple #[.bool (wentLL LL k x v), .bool (mayLL LL k x v)]) w) := by
  obtain ⟨nv, mv, S, Bs, h2, h3, h4, h5, h6, h7⟩ := h.ex
  refine (rCut_any k x v w h3).mono fun e w' hq => ?_
  obtain ⟨q1, S', q2, q3, q4⟩ := hq
  exact ⟨q1, h.doc h2 h4 h5 h6 h7 q2 q3 q4⟩
theorem Duo.mark1 (h : Duo B O w p r s LL MM) (hm : s.marks + 1 ≤ 10000) : Calls Tryz.prog 18 #[.pointer (some ⟨p, 0, none⟩)] w (DuOut B O p r s.mark LL MM (.int .i64 (s.marks : Int)) w) := by
  obtain ⟨nv, mv, S, Bs, h2, h3, h4, h5, h6, h7⟩ := h.ex
  refine (mark_any Bs p nv mv s w h2 hm).mono fun e w' hq => ?_
  obtain ⟨mv', q1, q2, q3, q4⟩ := hq
  exact ⟨q1, h.prog h2 h3 h4 h5 h6 h7 q2 q3 q4⟩
theorem Duo.mark2 (h : Duo B O w p r s LL MM) (hm : MM.length + 1 ≤ 10000) : Calls Tryz.prog 36 #[.pointer (some ⟨r, 0, none⟩)] w (DuOut B O p r s LL (MM ++ [LL]) (.int .i64 (MM.length : Int)) w) := by
  obtain ⟨nv, mv, S, Bs, h2, h3, h4, h5, h6, h7⟩ := h.ex
  refine (rMark_any w h3 hm).mono fun e w' hq => ?_
  obtain ⟨q1, S', q2, q3, q4⟩ := hq
  exact ⟨q1, h.doc h2 h4 h5 h6 h7 q2 q3 q4⟩
theorem Duo.back1 (h : Duo B O w p r s LL MM) (k : Int) : Calls Tryz.prog 22 #[.pointer (some ⟨p, 0, none⟩), .int .i64 k] w (DuOut B O p r (s.back k) LL MM (.bool (s.backB k)) w) := by
  obtain ⟨nv, mv, S, Bs, h2, h3, h4, h5, h6, h7⟩ := h.ex
  refine (back_any Bs p nv mv s k w h2).mono fun e w' hq => ?_
  obtain ⟨mv', q1, q2, q3, q4⟩ := hq
  exact ⟨q1, h.prog h2 h3 h4 h5 h6 h7 q2 q3 fun k hk => .inl (q4 k hk)⟩
theorem Duo.back2 (h : Duo B O w p r s LL MM) (k : Int) : Calls Tryz.prog 37 #[.pointer (some ⟨r, 0, none⟩), .int .i64 k] w (DuOut B O p r s (if backL MM k then MM.getD k.toNat [] else LL) (if backL MM k then MM.take k.toNat else MM) (.bool (backL MM k)) w) := by
  obtain ⟨nv, mv, S, Bs, h2, h3, h4, h5, h6, h7⟩ := h.ex
  refine (rBack_any k w h3).mono fun e w' hq => ?_
  obtain ⟨q1, S', q2, q3, q4⟩ := hq
  exact ⟨q1, h.doc h2 h4 h5 h6 h7 q2 q3 q4⟩
/-- A pair is two stores and a box. -/
theorem PaAt.duo {P : Nat} (h : PaAt B P O w s) : ∃ p r, w.heap[P]? = some (.cells #[.pointer (some ⟨p, 0, none⟩), .pointer (some ⟨r, 0, none⟩)] 42 (0, 0)) ∧ Duo B (fun k => O k ∧ k ≠ P) w p r s (s.now.map Dm.all) (mksOf s) := by
  obtain ⟨p, nv, mv, r, S, Bs, h1, h2, h3, h4, h5, h6, h7⟩ := h.ex
  exact ⟨p, r, h1, ⟨nv, mv, S, Bs, h2, h3, h4, h5, h6, h7⟩, fun k hk => h.lo k hk.1, fun k hk => h.lt k hk.1⟩
theorem Duo.pair {P : Nat} (h : Duo B O w p r s (s.now.map Dm.all) (mksOf s)) (h1 : w.heap[P]? = some (.cells #[.pointer (some ⟨p, 0, none⟩), .pointer (some ⟨r, 0, none⟩)] 42 (0, 0))) (hP : ¬ O P) (hB : B ≤ P) (ha : Alls s) (hm : AllsM s) : PaAt B P (fun k => O k ∨ k = P) w s := by
  obtain ⟨nv, mv, S, Bs, h2, h3, h4, h5, h6, h7⟩ := h.ex
  refine ⟨⟨p, nv, mv, r, S, Bs, h1, h2, h3, h4, fun k hk => ⟨.inl (h5 k hk), fun e => hP (e ▸ h5 k hk)⟩, fun k hk => ⟨.inl (h6 k hk), fun e => hP (e ▸ h6 k hk)⟩, h7⟩, .inr rfl, ?_, ?_, ha, hm⟩
  · rintro k (e | e)
    · exact h.lo k e
    · rw [e]; exact hB
  · rintro k (e | e)
    · exact h.lt k e
    · rw [e]; exact (Array.getElem?_eq_some_iff.1 h1).1
end
/-- Mark and Back, of lists as of words. -/
theorem mark_rel {s : St} (ha : Alls s) (hm : AllsM s) (hl : s.noted.length = s.marks * s.now.length) : s.mark.now.map Dm.all = s.now.map Dm.all ∧ mksOf s.mark = mksOf s ++ [s.now.map Dm.all] ∧ (mksOf s).length = s.marks ∧ Alls s.mark ∧ AllsM s.mark := by
  refine ⟨rfl, mks_mark hl, by simp [mksOf], ha, fun d hd => ?_⟩
  rcases List.mem_append.1 hd with e | e
  · exact hm d e
  · exact ha d e
theorem back_rel {s : St} (ha : Alls s) (hm : AllsM s) (hl : s.noted.length = s.marks * s.now.length) (k : Int) : s.backB k = backL (mksOf s) k ∧ (s.back k).now.map Dm.all = (if backL (mksOf s) k then (mksOf s).getD k.toNat [] else s.now.map Dm.all) ∧ mksOf (s.back k) = (if backL (mksOf s) k then (mksOf s).take k.toNat else mksOf s) ∧ Alls (s.back k) ∧ AllsM (s.back k) ∧ (s.back k).marks ≤ s.marks := by
  have e0 : s.backB k = backL (mksOf s) k := by unfold St.backB backL; simp [mksOf]
  cases hb : s.backB k with
  | false =>
    have e1 : s.back k = s := by unfold St.back; rw [hb]; rfl
    rw [← e0, hb, e1]
    exact ⟨rfl, rfl, rfl, ha, hm, Nat.le_refl _⟩
  | true =>
    obtain ⟨q1, q2, q3⟩ := mks_back hl hb
    rw [← e0, hb, if_pos rfl, if_pos rfl]
    refine ⟨rfl, ?_, q1, ?_, ?_, ?_⟩
    · rw [q3, List.getD_eq_getElem?_getD, List.getElem?_eq_getElem q2]; rfl
    · intro d hd
      unfold St.back at hd
      rw [if_pos hb] at hd
      exact hm d (List.mem_of_mem_drop (List.mem_of_mem_take hd))
    · intro d hd
      unfold St.back at hd
      rw [if_pos hb] at hd
      exact hm d (List.mem_of_mem_take hd)
    · unfold St.back
      rw [if_pos hb]
      have : 0 ≤ k ∧ k < (s.marks : Int) := by unfold St.backB at hb; simpa using hb
      show k.toNat ≤ s.marks
      omega
end Go.Proofs.YtkipagelbcdhkaaGreatDoor

namespace Go.Proofs.YtkipagelbcdhkaaGreatDoor
open Go.RowKit

/-- What calls on two stores have changed since W. -/
structure Ch (B : Nat) (T : Nat → Prop) (W w : World) (O : Nat → Prop) : Prop where
  off : Off T W w
  below : Below B W w
  own : ∀ k, O k → T k ∨ W.heap.size ≤ k
theorem Ch.refl (B : Nat) (T : Nat → Prop) (W : World) : Ch B T W W T := ⟨Off.refl _ _, Below.refl _ _, fun _ h => .inl h⟩
theorem Ch.next {B : Nat} {T O O' : Nat → Prop} {W w w' : World} (h : Ch B T W w O) (h1 : SStp B O w w') (h2 : Grown O w w' O') : Ch B T W w' O' :=
  ⟨⟨Nat.le_trans h.off.size h1.off.size, fun k hk hn => (h1.off.block k (Nat.lt_of_lt_of_le hk h.off.size) fun e => by
      rcases h.own k e with a | a
      · exact hn a
      · omega).trans (h.off.block k hk hn)⟩,
    h.below.trans h1.below, fun k hk => by
      rcases h2 k hk with a | a
      · exact h.own k a
      · exact .inr (Nat.le_trans h.off.size a.1)⟩
theorem Ch.read {B : Nat} {T O : Nat → Prop} {W w w' : World} (h : Ch B T W w O) (hb : Below w.heap.size w w') (hB : B ≤ w.heap.size) : Ch B T W w' O :=
  ⟨h.off.trans (Off.of_below hb), h.below.trans (hb.mono hB), h.own⟩
theorem Ch.drew {B : Nat} {T O : Nat → Prop} {W w : World} (h : Ch B T W w O) : Ch B T W w.drew O := ⟨⟨h.off.size, h.off.block⟩, h.below.drew, h.own⟩
theorem Ch.pair {B P : Nat} {T O : Nat → Prop} {W w : World} {p r : Nat} {s : St} (h : Ch B T W w O) (hd : Duo B O w p r s (s.now.map Dm.all) (mksOf s)) (h1 : W.heap[P]? = some (.cells #[.pointer (some ⟨p, 0, none⟩), .pointer (some ⟨r, 0, none⟩)] 42 (0, 0))) (hT : ¬ T P) (hB : B ≤ P) (ha : Alls s) (hm : AllsM s) : PaAt B P (fun k => O k ∨ k = P) w s := by
  have hPl := (Array.getElem?_eq_some_iff.1 h1).1
  refine hd.pair ((h.off.block P hPl hT).trans h1) (fun e => ?_) hB ha hm
  rcases h.own P e with a | a
  · exact hT a
  · omega
def PlOut (B P : Nat) (s : St) (w : World) (e : Ending) (w' : World) : Prop := e = .returned (.bool true) ∧ ∃ O' s', PaAt B P O' w' s' ∧ s'.marks ≤ s.marks + 1 ∧ Below B w w'
theorem noted_len {B P : Nat} {O : Nat → Prop} {w : World} {s : St} (h : PaAt B P O w s) : s.noted.length = s.marks * s.now.length := by
  obtain ⟨_, _, _, _, _, _, _, h2, _⟩ := h.ex
  exact h2.len

set_option maxRecDepth 10000 in
set_option maxHeartbeats 1000000 in
theorem plays_mark {B P : Nat} {O : Nat → Prop} {s : St} (k x v n : Int) (w : World) (h : PaAt B P O w s) (hm : s.marks + 1 ≤ 10000) : Calls Tryz.prog 9 #[.pointer (some ⟨P, 0, none⟩), .agg #[.int .i64 2, .int .i64 k, .int .i64 x, .int .i64 v, .int .i64 n]] w (PlOut B P s w) := by
  have hBw : B ≤ w.heap.size := Nat.le_of_lt (Nat.lt_of_le_of_lt (h.lo P h.op) (h.lt P h.op))
  obtain ⟨W, hW⟩ : ∃ W, w.alloc (.cells #[.int .i64 2, .int .i64 k, .int .i64 x, .int .i64 v, .int .i64 n] 36) = W := ⟨_, rfl⟩
  have hb0 : Below w.heap.size w W := by rw [← hW]; exact (Below.refl _ _).alloc (Nat.le_refl _) _
  have HB : Hid (Below w.heap.size w W) := hb0
  have g0 : W.heap[w.heap.size]? = some (.cells #[.int .i64 2, .int .i64 k, .int .i64 x, .int .i64 v, .int .i64 n] 36 (0, 0)) := by rw [← hW]; exact heap_alloc_new w _
  have c0 : W.cell? ⟨w.heap.size, 0, none⟩ = some (.int .i64 2) := cell_of g0 0
  have hA := h.below hb0
  obtain ⟨p, r, h1, hd⟩ := hA.duo
  obtain ⟨T, hT⟩ : ∃ T, (fun k => O k ∧ k ≠ P) = T := ⟨_, rfl⟩
  have hTP : ¬ T P := by rw [← hT]; exact fun e => e.2 rfl
  rw [hT] at hd
  have HX : Hid (∀ w' O', Ch B T W w' O' → w'.cell? ⟨P, 0, none⟩ = some (.pointer (some ⟨p, 0, none⟩)) ∧ w'.cell? ⟨P, 1, none⟩ = some (.pointer (some ⟨r, 0, none⟩))) := fun w' O' hc => by
    have f := (hc.off.block P (hA.lt P hA.op) hTP).trans h1
    exact ⟨cell_of f 0, cell_of f 1⟩
  obtain ⟨e1, e2, e3, e4, e5⟩ := mark_rel h.al h.alm (noted_len h)
  obtain ⟨mk, hmk⟩ : ∃ mk, s.marks = mk := ⟨_, rfl⟩
  have HC1 : Hid (Calls Tryz.prog 18 #[.pointer (some ⟨p, 0, none⟩)] W.drew (DuOut B T p r s.mark (s.now.map Dm.all) (mksOf s) (.int .i64 (mk : Int)) W.drew)) := by
    have := (hd.below (Below.refl _ _).drew).mark1 hm
    rw [hmk] at this
    exact this
  have HC2 : Hid (∀ w2 O2, Duo B O2 w2 p r s.mark (s.now.map Dm.all) (mksOf s) → Calls Tryz.prog 36 #[.pointer (some ⟨r, 0, none⟩)] w2 (DuOut B O2 p r s.mark (s.mark.now.map Dm.all) (mksOf s.mark) (.int .i64 (mk : Int)) w2)) := fun w2 O2 hq => by
    have := hq.mark2 (by rw [e3]; exact hm)
    rw [e3, hmk] at this
    rw [e1, e2]
    exact this
  have HE : Hid (∀ w3 O3, Ch B T W w3 O3 → Duo B O3 w3 p r s.mark (s.mark.now.map Dm.all) (mksOf s.mark) → ∃ O' s', PaAt B P O' w3 s' ∧ s'.marks ≤ s.marks + 1 ∧ Below B w w3) := fun w3 O3 hc hq => ⟨_, s.mark, hc.pair hq h1 hTP (h.lo P h.op) e4 e5, Nat.le_refl _, (hb0.mono hBw).trans hc.below⟩
  have HK0 : Hid (Ch B T W W.drew T) := (Ch.refl B T W).drew
  have hmm : ((mk : Int) == (mk : Int)) = true := by simp
  clear h hA hb0 g0 h1 hd hT hTP hmk e1 e2 e3 e4 e5 hm
  go_enter Tryz.func9, Tryz.ntmps9
  go_wp2_with fail
  go_region_held3 (fun w' => w'.cell? ⟨P, 0, none⟩ = some (.pointer (some ⟨p, 0, none⟩)) ∧ w'.cell? ⟨P, 1, none⟩ = some (.pointer (some ⟨r, 0, none⟩)))
    (first | exact HX.out _ _ HK0.out | exact HX.out _ _ HK3.out | exact HX.out _ _ HK2.out | assumption)
    (first
      | (go_at_call 18; refine calls_at HC1.out (by with_reducible rfl) (by with_reducible rfl) ?_; rintro e w2 ⟨rfl, O2, hD2, hS2, hG2⟩; (have HK2 : Hid (Ch B T W w2 O2) := HK0.out.next hS2 hG2); (have HD2 : Hid (Duo B O2 w2 p r s.mark (s.now.map Dm.all) (mksOf s)) := hD2); clear hD2 hS2 hG2)
      | (go_at_call 36; refine calls_at (HC2.out w2 O2 HD2.out) (by with_reducible rfl) (by with_reducible rfl) ?_; rintro e w3 ⟨rfl, O3, hD3, hS3, hG3⟩; (have HK3 : Hid (Ch B T W w3 O3) := HK2.out.next hS3 hG3); (have HD3 : Hid (Duo B O3 w3 p r s.mark (s.mark.now.map Dm.all) (mksOf s.mark)) := hD3); clear hD3 hS3 hG3))
  go_wp2_with fail
  go_ret
  exact ⟨ret_bool (by simp), HE.out w3 O3 HK3.out HD3.out⟩

set_option maxRecDepth 10000 in
set_option maxHeartbeats 1000000 in
theorem plays_back {B P : Nat} {O : Nat → Prop} {s : St} (k x v n : Int) (w : World) (h : PaAt B P O w s) : Calls Tryz.prog 9 #[.pointer (some ⟨P, 0, none⟩), .agg #[.int .i64 3, .int .i64 k, .int .i64 x, .int .i64 v, .int .i64 n]] w (PlOut B P s w) := by
  have hBw : B ≤ w.heap.size := Nat.le_of_lt (Nat.lt_of_le_of_lt (h.lo P h.op) (h.lt P h.op))
  obtain ⟨W, hW⟩ : ∃ W, w.alloc (.cells #[.int .i64 3, .int .i64 k, .int .i64 x, .int .i64 v, .int .i64 n] 36) = W := ⟨_, rfl⟩
  have hb0 : Below w.heap.size w W := by rw [← hW]; exact (Below.refl _ _).alloc (Nat.le_refl _) _
  have HB : Hid (Below w.heap.size w W) := hb0
  have g0 : W.heap[w.heap.size]? = some (.cells #[.int .i64 3, .int .i64 k, .int .i64 x, .int .i64 v, .int .i64 n] 36 (0, 0)) := by rw [← hW]; exact heap_alloc_new w _
  have hlt := (Array.getElem?_eq_some_iff.1 g0).1
  have c0 : W.cell? ⟨w.heap.size, 0, none⟩ = some (.int .i64 3) := cell_of g0 0
  have hA := h.below hb0
  obtain ⟨p, r, h1, hd⟩ := hA.duo
  obtain ⟨T, hT⟩ : ∃ T, (fun k => O k ∧ k ≠ P) = T := ⟨_, rfl⟩
  have hTP : ¬ T P := by rw [← hT]; exact fun e => e.2 rfl
  have hTW : ¬ T w.heap.size := by rw [← hT]; exact fun e => by have := h.lt _ e.1; omega
  rw [hT] at hd
  have HX : Hid (∀ w' O', Ch B T W w' O' → w'.cell? ⟨P, 0, none⟩ = some (.pointer (some ⟨p, 0, none⟩)) ∧ w'.cell? ⟨P, 1, none⟩ = some (.pointer (some ⟨r, 0, none⟩)) ∧ w'.cell? ⟨w.heap.size, 4, none⟩ = some (.int .i64 n)) := fun w' O' hc => by
    have f := (hc.off.block P (hA.lt P hA.op) hTP).trans h1
    have f2 := (hc.off.block _ hlt hTW).trans g0
    exact ⟨cell_of f 0, cell_of f 1, cell_of f2 4⟩
  obtain ⟨e1, e2, e3, e4, e5, e6⟩ := back_rel h.al h.alm (noted_len h) n
  obtain ⟨bb, hbb⟩ : ∃ bb, s.backB n = bb := ⟨_, rfl⟩
  have HC1 : Hid (Calls Tryz.prog 22 #[.pointer (some ⟨p, 0, none⟩), .int .i64 n] W.drew (DuOut B T p r (s.back n) (s.now.map Dm.all) (mksOf s) (.bool bb) W.drew)) := by
    have := (hd.below (Below.refl _ _).drew).back1 n
    rw [hbb] at this
    exact this
  have HC2 : Hid (∀ w2 O2, Duo B O2 w2 p r (s.back n) (s.now.map Dm.all) (mksOf s) → Calls Tryz.prog 37 #[.pointer (some ⟨r, 0, none⟩), .int .i64 n] w2 (DuOut B O2 p r (s.back n) ((s.back n).now.map Dm.all) (mksOf (s.back n)) (.bool bb) w2)) := fun w2 O2 hq => by
    have := hq.back2 n
    rw [e2, e3, ← hbb, e1]
    exact this
  have HE : Hid (∀ w3 O3, Ch B T W w3 O3 → Duo B O3 w3 p r (s.back n) ((s.back n).now.map Dm.all) (mksOf (s.back n)) → ∃ O' s', PaAt B P O' w3 s' ∧ s'.marks ≤ s.marks + 1 ∧ Below B w w3) := fun w3 O3 hc hq => ⟨_, s.back n, hc.pair hq h1 hTP (h.lo P h.op) e4 e5, by omega, (hb0.mono hBw).trans hc.below⟩
  have HK0 : Hid (Ch B T W W.drew T) := (Ch.refl B T W).drew
  have hmm : (bb == bb) = true := by simp
  clear h hA hb0 g0 hlt h1 hd hT hTP hTW hbb e1 e2 e3 e4 e5 e6
  go_enter Tryz.func9, Tryz.ntmps9
  go_wp2_with fail
  go_region_held3 (fun w' => w'.cell? ⟨P, 0, none⟩ = some (.pointer (some ⟨p, 0, none⟩)) ∧ w'.cell? ⟨P, 1, none⟩ = some (.pointer (some ⟨r, 0, none⟩)) ∧ w'.cell? ⟨w.heap.size, 4, none⟩ = some (.int .i64 n))
    (first | exact HX.out _ _ HK0.out | exact HX.out _ _ HK3.out | exact HX.out _ _ HK2.out | assumption)
    (first
      | (go_at_call 22; refine calls_at HC1.out (by with_reducible rfl) (by with_reducible rfl) ?_; rintro e w2 ⟨rfl, O2, hD2, hS2, hG2⟩; (have HK2 : Hid (Ch B T W w2 O2) := HK0.out.next hS2 hG2); (have HD2 : Hid (Duo B O2 w2 p r (s.back n) (s.now.map Dm.all) (mksOf s)) := hD2); clear hD2 hS2 hG2)
      | (go_at_call 37; refine calls_at (HC2.out w2 O2 HD2.out) (by with_reducible rfl) (by with_reducible rfl) ?_; rintro e w3 ⟨rfl, O3, hD3, hS3, hG3⟩; (have HK3 : Hid (Ch B T W w3 O3) := HK2.out.next hS3 hG3); (have HD3 : Hid (Duo B O3 w3 p r (s.back n) ((s.back n).now.map Dm.all) (mksOf (s.back n))) := hD3); clear hD3 hS3 hG3))
  go_wp2_with fail
  go_ret
  exact ⟨ret_bool (by simp), HE.out w3 O3 HK3.out HD3.out⟩
end Go.Proofs.YtkipagelbcdhkaaGreatDoor

namespace Go.Proofs.YtkipagelbcdhkaaGreatDoor
open Go.RowKit

set_option maxRecDepth 10000 in
set_option maxHeartbeats 1000000 in
theorem plays_look {B P : Nat} {O : Nat → Prop} {s : St} (k x v n : Int) (w : World) (h : PaAt B P O w s) (hT : Tz w) (hs : 0 < w.heap.size) : Calls Tryz.prog 9 #[.pointer (some ⟨P, 0, none⟩), .agg #[.int .i64 4, .int .i64 k, .int .i64 x, .int .i64 v, .int .i64 n]] w (PlOut B P s w) := by
  have hBw : B ≤ w.heap.size := Nat.le_of_lt (Nat.lt_of_le_of_lt (h.lo P h.op) (h.lt P h.op))
  obtain ⟨W, hW⟩ : ∃ W, w.alloc (.cells #[.int .i64 4, .int .i64 k, .int .i64 x, .int .i64 v, .int .i64 n] 36) = W := ⟨_, rfl⟩
  have hb0 : Below w.heap.size w W := by rw [← hW]; exact (Below.refl _ _).alloc (Nat.le_refl _) _
  have g0 : W.heap[w.heap.size]? = some (.cells #[.int .i64 4, .int .i64 k, .int .i64 x, .int .i64 v, .int .i64 n] 36 (0, 0)) := by rw [← hW]; exact heap_alloc_new w _
  have c0 : W.cell? ⟨w.heap.size, 0, none⟩ = some (.int .i64 4) := cell_of g0 0
  have HC : Hid (Calls Tryz.prog 8 #[.pointer (some ⟨P, 0, none⟩)] W fun e w' => e = .returned (.bool true) ∧ Below W.heap.size W w') := like_any W (h.below hb0) (hT.below hb0 hs) (Nat.lt_of_lt_of_le hs hb0.size)
  have HE : Hid (∀ w', Below W.heap.size W w' → ∃ O' s', PaAt B P O' w' s' ∧ s'.marks ≤ s.marks + 1 ∧ Below B w w') := fun w' hb => ⟨O, s, (h.below hb0).below hb, by omega, (hb0.mono hBw).trans (hb.mono (Nat.le_trans hBw hb0.size))⟩
  clear h hb0 g0 hT
  go_enter Tryz.func9, Tryz.ntmps9
  go_wp2_with fail
  refine calls_at HC.out (by with_reducible rfl) (by with_reducible rfl) ?_
  rintro e w2 ⟨rfl, hb2⟩
  have HE2 : Hid (∃ O' s', PaAt B P O' w2 s' ∧ s'.marks ≤ s.marks + 1 ∧ Below B w w2) := HE.out w2 hb2
  clear hb2
  go_wp2_with fail
  go_ret
  exact ⟨rfl, HE2.out⟩
set_option maxRecDepth 10000 in
set_option maxHeartbeats 1000000 in
theorem plays_none {B P : Nat} {O : Nat → Prop} {s : St} (kd k x v n : Int) (w : World) (h : PaAt B P O w s) (h1 : kd ≠ 1) (h2 : kd ≠ 2) (h3 : kd ≠ 3) (h4 : kd ≠ 4) (h5 : kd ≠ 5) : Calls Tryz.prog 9 #[.pointer (some ⟨P, 0, none⟩), .agg #[.int .i64 kd, .int .i64 k, .int .i64 x, .int .i64 v, .int .i64 n]] w (PlOut B P s w) := by
  have hBw : B ≤ w.heap.size := Nat.le_of_lt (Nat.lt_of_le_of_lt (h.lo P h.op) (h.lt P h.op))
  obtain ⟨W, hW⟩ : ∃ W, w.alloc (.cells #[.int .i64 kd, .int .i64 k, .int .i64 x, .int .i64 v, .int .i64 n] 36) = W := ⟨_, rfl⟩
  have hb0 : Below w.heap.size w W := by rw [← hW]; exact (Below.refl _ _).alloc (Nat.le_refl _) _
  have g0 : W.heap[w.heap.size]? = some (.cells #[.int .i64 kd, .int .i64 k, .int .i64 x, .int .i64 v, .int .i64 n] 36 (0, 0)) := by rw [← hW]; exact heap_alloc_new w _
  have c0 : W.cell? ⟨w.heap.size, 0, none⟩ = some (.int .i64 kd) := cell_of g0 0
  have HE : Hid (∃ O' s', PaAt B P O' W s' ∧ s'.marks ≤ s.marks + 1 ∧ Below B w W) := ⟨O, s, h.below hb0, by omega, hb0.mono hBw⟩
  have e1 : (kd == 1) = false := by simpa using h1
  have e2 : (kd == 2) = false := by simpa using h2
  have e3 : (kd == 3) = false := by simpa using h3
  have e4 : (kd == 4) = false := by simpa using h4
  have e5 : (kd == 5) = false := by simpa using h5
  clear h hb0 g0
  go_enter Tryz.func9, Tryz.ntmps9
  go_wp2_with fail
  go_ret
  exact ⟨rfl, HE.out⟩

/-- The old store and the document's copy, as they go on by themselves. -/
structure Cy (B n : Nat) (T : Nat → Prop) (w6 : World) (p r : Nat) (w : World) : Prop where
  ex : ∃ O t, Duo B O w p r t (t.now.map Dm.all) (mksOf t) ∧ Alls t ∧ AllsM t ∧ t.now.length = n ∧ Ch B T w6 w O
structure Cz (B n : Nat) (T : Nat → Prop) (w6 : World) (p r : Nat) (k x v : Int) (w : World) : Prop where
  ex : ∃ O t, Duo B O w p r (t.cut k x v) (t.now.map Dm.all) (mksOf t) ∧ Alls t ∧ AllsM t ∧ t.now.length = n ∧ Ch B T w6 w O
structure Cb (B n : Nat) (T : Nat → Prop) (w6 : World) (p r : Nat) (w : World) : Prop where
  ex : ∃ O t, Duo B O w p r (t.back 0) (t.now.map Dm.all) (mksOf t) ∧ Alls t ∧ AllsM t ∧ t.noted.length = t.marks * t.now.length ∧ Ch B T w6 w O
section
variable {B n : Nat} {T : Nat → Prop} {w6 w w' : World} {p r : Nat}
theorem Duo.size {O : Nat → Prop} {s : St} {LL : List (List Int)} {MM : List (List (List Int))} (h : Duo B O w p r s LL MM) : B ≤ w.heap.size := by
  obtain ⟨nv, mv, S, Bs, h2, h3, h4, _⟩ := h.ex
  exact Nat.le_trans h4 h2.size
theorem Cy.below (h : Cy B n T w6 p r w) (hb : Below w.heap.size w w') : Cy B n T w6 p r w' := by
  obtain ⟨O, t, h1, h2, h3, h4, h5⟩ := h.ex
  exact ⟨O, t, h1.below hb, h2, h3, h4, h5.read hb h1.size⟩
theorem Cy.vars (h : Cy B n T w6 p r w) : Calls Tryz.prog 28 #[.pointer (some ⟨r, 0, none⟩)] w fun e w' => e = .returned (.int .i64 (n : Int)) ∧ w' = w := by
  obtain ⟨O, t, h1, h2, h3, h4, h5⟩ := h.ex
  obtain ⟨nv, mv, S, Bs, a2, a3, _⟩ := h1.ex
  have := rVars_any w a3
  rw [List.length_map, h4] at this
  exact this
theorem Cy.lo (h : Cy B n T w6 p r w) (x : Nat) (hx : x < n) : Calls Tryz.prog 30 #[.pointer (some ⟨r, 0, none⟩), .int .i64 (x : Int)] w fun e w' => (∃ z, e = .returned (.int .i64 z)) ∧ Below w.heap.size w w' := by
  obtain ⟨O, t, h1, h2, h3, h4, h5⟩ := h.ex
  obtain ⟨nv, mv, S, Bs, a2, a3, _⟩ := h1.ex
  have hq : x < t.now.length := by omega
  obtain ⟨ho, hA⟩ := h2 _ (List.getElem_mem hq)
  exact (rLo_in x (by rw [List.length_map]; exact hq) (by rw [List.getElem_map]; exact all_pos ho hA) w a3).mono fun e w' hq => ⟨⟨_, hq.1⟩, hq.2⟩
theorem Cy.cut1 {w0 : World} (h : Cy B n T w6 p r w0) (hb : Below w0.heap.size w0 w) (k x v : Int) : Calls Tryz.prog 15 #[.pointer (some ⟨p, 0, none⟩), .agg #[.int .i64 k, .int .i64 x, .int .i64 v]] w fun e w' => (∃ a b, e = .returned (.tuple #[.bool a, .bool b])) ∧ Cz B n T w6 p r k x v w' ∧ ∀ b, w0.heap.size ≤ b → b < w.heap.size → w'.heap[b]? = w.heap[b]? := by
  obtain ⟨O, t, h1, h2, h3, h4, h5⟩ := h.ex
  refine ((h1.below hb).cut1 k x v).mono fun e w' hq => ?_
  obtain ⟨q1, O', q2, q3, q4⟩ := hq
  exact ⟨⟨_, _, q1⟩, ⟨O', t, q2, h2, h3, h4, (h5.read hb h1.size).next q3 q4⟩, fun b a1 a2 => q3.off.block b a2 fun e => by have := h1.lt b e; omega⟩
theorem Cz.cut2 {k x v : Int} (h : Cz B n T w6 p r k x v w) : Calls Tryz.prog 35 #[.pointer (some ⟨r, 0, none⟩), .agg #[.int .i64 k, .int .i64 x, .int .i64 v]] w fun e w' => (∃ a b, e = .returned (.tuple #[.bool a, .bool b])) ∧ Cy B n T w6 p r w' := by
  obtain ⟨O, t, h1, h2, h3, h4, h5⟩ := h.ex
  refine (h1.cut2 k x v).mono fun e w' hq => ?_
  obtain ⟨q1, O', q2, q3, q4⟩ := hq
  obtain ⟨e1, e2, e3⟩ := cut_len t k x v
  refine ⟨⟨_, _, q1⟩, ⟨O', t.cut k x v, ?_, alls_cut h2 k x v, ?_, by rw [e1]; exact h4, h5.next q3 q4⟩⟩
  · rw [(cut_rel h2 k x v).1, cut_mks]
    exact q2
  · intro d hd
    rw [e2] at hd
    exact h3 d hd
theorem Cy.back1 (h : Cy B n T w6 p r w) : Calls Tryz.prog 22 #[.pointer (some ⟨p, 0, none⟩), .int .i64 0] w fun e w' => (∃ a, e = .returned (.bool a)) ∧ Cb B n T w6 p r w' := by
  obtain ⟨O, t, h1, h2, h3, h4, h5⟩ := h.ex
  have hl : t.noted.length = t.marks * t.now.length := by
    obtain ⟨_, _, _, _, a2, _⟩ := h1.ex
    exact a2.len
  refine (h1.back1 0).mono fun e w' hq => ?_
  obtain ⟨q1, O', q2, q3, q4⟩ := hq
  exact ⟨⟨_, q1⟩, ⟨O', t, q2, h2, h3, hl, h5.next q3 q4⟩⟩
theorem Cb.back2 (h : Cb B n T w6 p r w) : Calls Tryz.prog 37 #[.pointer (some ⟨r, 0, none⟩), .int .i64 0] w fun e w' => (∃ a, e = .returned (.bool a)) ∧ ∃ O t, Duo B O w' p r t (t.now.map Dm.all) (mksOf t) ∧ Alls t ∧ AllsM t ∧ Ch B T w6 w' O := by
  obtain ⟨O, t, h1, h2, h3, h4, h5⟩ := h.ex
  refine (h1.back2 0).mono fun e w' hq => ?_
  obtain ⟨q1, O', q2, q3, q4⟩ := hq
  obtain ⟨e1, e2, e3, e4, e5, _⟩ := back_rel h2 h3 h4 0
  refine ⟨⟨_, q1⟩, O', t.back 0, ?_, e4, e5, h5.next q3 q4⟩
  rw [e2, e3]
  exact q2
end
end Go.Proofs.YtkipagelbcdhkaaGreatDoor
