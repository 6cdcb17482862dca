/-
  DomApart's two pairs and its book, side by side.
-/
import Derived.Test.YtchpapppkmnfnaaGreatDoorBiDone
import Derived.Test.YtchpapppkmnfnaaGreatDoorJ42
namespace Go.Proofs.YtchpapppkmnfnaaGreatDoor
open Go.RowKit

/-- Two pairs and a book: T has all their blocks. -/
structure Tri (B : Nat) (T : Nat → Prop) (w : World) (P Q K : Nat) (s t : St) (n : Nat) : Prop where
  ex : ∃ O O' S, PaAt B P O w s ∧ PaAt B Q O' w t ∧ Bok B S w K n ∧ (∀ k, O k → ¬ O' k) ∧ (∀ k, O k → ¬ S k) ∧ (∀ k, O' k → ¬ S k) ∧ (∀ k, O k → T k) ∧ (∀ k, O' k → T k) ∧ ∀ k, S k → T k
  lt : ∀ k, T k → k < w.heap.size
section
variable {B P Q K n : Nat} {T : Nat → Prop} {w w' : World} {s t : St}
theorem Tri.keep (h : Tri B T w P Q K s t n) (hz : w.heap.size ≤ w'.heap.size) (hk : ∀ k, T k → w'.heap[k]? = w.heap[k]?) : Tri B T w' P Q K s t n := by
  obtain ⟨O, O', S, a1, a2, a3, d1, d2, d3, i1, i2, i3⟩ := h.ex
  exact ⟨⟨O, O', S, a1.keep hz fun k hO => hk k (i1 k hO), a2.keep hz fun k hO => hk k (i2 k hO), a3.keep hz fun k hS => hk k (i3 k hS), d1, d2, d3, i1, i2, i3⟩, fun k hT => Nat.lt_of_lt_of_le (h.lt k hT) hz⟩
theorem Tri.below (h : Tri B T w P Q K s t n) (hb : Below w.heap.size w w') : Tri B T w' P Q K s t n := h.keep hb.size fun k hk => hb.block k (h.lt k hk)
def TrOut (B : Nat) (w : World) (P Q K : Nat) (n : Nat) (A : St → St → Prop) (w' : World) : Prop := ∃ T' s' t', Tri B T' w' P Q K s' t' n ∧ A s' t' ∧ Below B w w'
theorem Tri.playsP (h : Tri B T w P Q K s t n) (o : Cl) (hT : Tz w) (hs : 0 < w.heap.size) (hB : 1 ≤ B) (hm : s.marks + 1 ≤ 10000) : Calls Tryz.prog 9 #[.pointer (some ⟨P, 0, none⟩), .agg #[.int .i64 o.kind, .int .i64 o.ck, .int .i64 o.cx, .int .i64 o.cv, .int .i64 o.n]] w fun e w' => e = .returned (.bool true) ∧ TrOut B w P Q K n (fun s' t' => s'.marks ≤ s.marks + 1 ∧ t' = t) w' := by
  obtain ⟨O, O', S, a1, a2, a3, d1, d2, d3, i1, i2, i3⟩ := h.ex
  refine (plays_any o w a1 hT hs hB hm).mono ?_
  rintro e w' ⟨he, O1, s', b1, b2, b3, b4⟩
  have hz := b3.off.size
  have hold : ∀ k, T k → k < w.heap.size := h.lt
  refine ⟨he, fun k => T k ∨ O1 k, s', t, ⟨⟨O1, O', S, b1, a2.keep hz fun k hO => b3.off.block k (hold k (i2 k hO)) fun e => d1 k e hO, a3.keep hz fun k hS => b3.off.block k (hold k (i3 k hS)) fun e => d2 k e hS, fun k h1 h2 => ?_, fun k h1 h2 => ?_, d3, fun k h1 => .inr h1, fun k h1 => .inl (i2 k h1), fun k h1 => .inl (i3 k h1)⟩, fun k hk => ?_⟩, ⟨b2, rfl⟩, b3.below⟩
  · rcases b4 k h1 with a | a
    · exact d1 k a h2
    · have := hold k (i2 k h2); omega
  · rcases b4 k h1 with a | a
    · exact d2 k a h2
    · have := hold k (i3 k h2); omega
  · rcases hk with a | a
    · exact Nat.lt_of_lt_of_le (hold k a) hz
    · exact b1.lt k a
theorem Tri.swap (h : Tri B T w P Q K s t n) : Tri B T w Q P K t s n := by
  obtain ⟨O, O', S, a1, a2, a3, d1, d2, d3, i1, i2, i3⟩ := h.ex
  exact ⟨⟨O', O, S, a2, a1, a3, fun k h1 h2 => d1 k h2 h1, d3, d2, i2, i1, i3⟩, h.lt⟩
theorem Tri.playsQ (h : Tri B T w P Q K s t n) (o : Cl) (hT : Tz w) (hs : 0 < w.heap.size) (hB : 1 ≤ B) (hm : t.marks + 1 ≤ 10000) : Calls Tryz.prog 9 #[.pointer (some ⟨Q, 0, none⟩), .agg #[.int .i64 o.kind, .int .i64 o.ck, .int .i64 o.cx, .int .i64 o.cv, .int .i64 o.n]] w fun e w' => e = .returned (.bool true) ∧ TrOut B w P Q K n (fun s' t' => t'.marks ≤ t.marks + 1 ∧ s' = s) w' := by
  refine (h.swap.playsP o hT hs hB hm).mono ?_
  rintro e w' ⟨he, T', t', s', h1, h2, h3⟩
  exact ⟨he, T', s', t', h1.swap, h2, h3⟩
/-- A list is kept in the book. -/
theorem Tri.ints (h : Tri B T w P Q K s t n) {v : Value} {c : List Int} {mark : Int} (hv : w.ownsRow 0 3 1 v c.length (ic c)) (hg : ∀ g, v.ownBlock = some g → ¬ T g ∧ B ≤ g) (hc : c.length ≤ 90000) (hm : -1000000 ≤ mark ∧ mark ≤ 1000000) (hn : n ≤ 10000) :
    Calls Tryz.prog 14 #[.pointer (some ⟨K, 0, none⟩), v, .int .i64 mark] w fun e w' => e = .returned (.tuple #[]) ∧ ∃ T', Tri B T' w' P Q K s t (n + 1) ∧ SStp B (fun k => T k ∨ v.ownBlock = some k) w w' ∧ Grown (fun k => T k ∨ v.ownBlock = some k) w w' T' := by
  obtain ⟨O, O', S, a1, a2, a3, d1, d2, d3, i1, i2, i3⟩ := h.ex
  refine (bok_ints w a3 hv (fun g hg' => ⟨fun e => (hg g hg').1 (i3 g e), (hg g hg').2⟩) hc hm hn).mono ?_
  rintro e w' ⟨he, S', b1, b2, b3⟩
  have hz := b2.off.size
  have hold : ∀ k, T k → k < w.heap.size := h.lt
  have nv : ∀ k, T k → v.ownBlock ≠ some k := fun k hk e => (hg k e).1 hk
  have far : ∀ k, T k → ¬ S k → w'.heap[k]? = w.heap[k]? := fun k hk hS => b2.off.block k (hold k hk) fun e => by
    rcases e with e | e
    · exact hS e
    · exact nv k hk e
  have new : ∀ k, S' k → T k → S k := fun k h1 h2 => by
    rcases b3 k h1 with (a | a) | a
    · exact a
    · exact absurd a (nv k h2)
    · have := hold k h2; omega
  refine ⟨he, fun k => O k ∨ O' k ∨ S' k, ⟨⟨O, O', S', a1.keep hz fun k hO => far k (i1 k hO) (d2 k hO), a2.keep hz fun k hO => far k (i2 k hO) (d3 k hO), b1, d1, fun k h1 h2 => d2 k h1 (new k h2 (i1 k h1)), fun k h1 h2 => d3 k h1 (new k h2 (i2 k h1)), fun k h1 => .inl h1, fun k h1 => .inr (.inl h1), fun k h1 => .inr (.inr h1)⟩, fun k hk => ?_⟩, ⟨b2.below, b2.off.less fun k hk => ?_⟩, fun k hk => ?_⟩
  · rcases hk with a | a | a
    · exact Nat.lt_of_lt_of_le (hold k (i1 k a)) hz
    · exact Nat.lt_of_lt_of_le (hold k (i2 k a)) hz
    · exact b1.lt k a
  · rcases hk with a | a
    · exact .inl (i3 k a)
    · exact .inr a
  · rcases hk with a | a | a
    · exact .inl (.inl (i1 k a))
    · exact .inl (.inl (i2 k a))
    · rcases b3 k a with (b | b) | b
      · exact .inl (.inl (i3 k b))
      · exact .inl (.inr b)
      · exact .inr b
theorem Tri.hold (h : Tri B T w P Q K s t n) (hn : n ≤ 10000) : Calls Tryz.prog 17 #[.pointer (some ⟨K, 0, none⟩)] w fun e w' => e = .returned (.bool true) ∧ Below w.heap.size w w' := by
  obtain ⟨O, O', S, a1, a2, a3, _⟩ := h.ex
  exact bok_hold w a3 (by omega)
theorem Tri.likeP (h : Tri B T w P Q K s t n) (hT : Tz w) (hs : 0 < w.heap.size) : Calls Tryz.prog 18 #[.pointer (some ⟨P, 0, none⟩)] w fun e w' => e = .returned (.bool true) ∧ Below w.heap.size w w' := by
  obtain ⟨O, O', S, a1, a2, a3, _⟩ := h.ex
  exact like_any w a1 hT hs
theorem Tri.likeQ (h : Tri B T w P Q K s t n) (hT : Tz w) (hs : 0 < w.heap.size) : Calls Tryz.prog 18 #[.pointer (some ⟨Q, 0, none⟩)] w fun e w' => e = .returned (.bool true) ∧ Below w.heap.size w w' := h.swap.likeP hT hs
end
/-- What the first pair answers. -/
structure Vi (w : World) (P p r : Nat) (s : St) : Prop where
  c : ∀ w', Below w.heap.size w w' → w'.cell? ⟨P, 0, none⟩ = some (.pointer (some ⟨p, 0, none⟩)) ∧ w'.cell? ⟨P, 1, none⟩ = some (.pointer (some ⟨r, 0, none⟩))
  n : ∀ w', Below w.heap.size w w' → Calls Tryz.prog 10 #[.pointer (some ⟨r, 0, none⟩)] w' fun e w2 => e = .returned (.int .i64 (s.now.length : Int)) ∧ w2 = w'
  v1 : ∀ w', Below w.heap.size w w' → ∀ x (hx : x < s.now.length), Tz w' → Calls Tryz.prog 11 #[.pointer (some ⟨p, 0, none⟩), .int .i64 (x : Int)] w' (VsOut s.now[x].all w')
  v2 : ∀ w', Below w.heap.size w w' → ∀ x (hx : x < s.now.length), Calls Tryz.prog 13 #[.pointer (some ⟨r, 0, none⟩), .int .i64 (x : Int)] w' (VsOut s.now[x].all w')
  o1 : ∀ w', Below w.heap.size w w' → Calls Tryz.prog 15 #[.pointer (some ⟨p, 0, none⟩)] w' (VsOut (openL s.now s.now.length) w')
  o2 : ∀ w', Below w.heap.size w w' → Calls Tryz.prog 16 #[.pointer (some ⟨r, 0, none⟩)] w' (VsOut (openL s.now s.now.length) w')
  b : (∀ x (hx : x < s.now.length), s.now[x].all.length ≤ 64) ∧ (openL s.now s.now.length).length ≤ 64 ∧ s.now.length ≤ 32
theorem Tri.vi {B P Q K n : Nat} {T : Nat → Prop} {w : World} {s t : St} (h : Tri B T w P Q K s t n) : ∃ p r, Vi w P p r s := by
  obtain ⟨O, O', S, a1, _⟩ := h.ex
  obtain ⟨p, nv, mv, r, S, Bs, h1, h2, h3, h4, h5, h6, h7⟩ := a1.ex
  have hPl := a1.lt P a1.op
  have hn := h3.few.n
  have hf := h3.few.ls
  rw [List.length_map] at hn
  refine ⟨p, r, fun w' hb => ?_, fun w' hb => ?_, fun w' hb x hx hT => values_in Bs p nv mv s x hx w' (h2.below hb) hT, fun w' hb x hx => ?_, fun w' hb => open_any Bs p nv mv s w' (h2.below hb), fun w' hb => ?_, fun x hx => hf _ (List.mem_map.2 ⟨_, List.getElem_mem hx, rfl⟩), ?_, hn⟩
  · have := (hb.block P hPl).trans h1
    exact ⟨cell_of this 0, cell_of this 1⟩
  · have := rVars_any w' (h3.below hb)
    rw [List.length_map] at this
    exact this
  · have := rVals_in x (by rw [List.length_map]; exact hx) w' (h3.below hb)
    rw [List.getElem_map] at this
    exact this
  · have := rOpen_any w' (h3.below hb)
    rw [List.length_map, open_rel a1.al s.now.length (Nat.le_refl _)] at this
    exact this
  · exact Nat.le_trans (openL_len _ _) (by omega)
/-- A new book's rows. -/
def tx0 : Tx := ⟨.slice none 0 0, .slice none 0 0, .slice none 0 0, .slice none 0 0, .slice none 0 0, .slice none 0 0, .slice none 0 0, .slice none 0 0, .int .i64 0⟩
theorem tri_new {B P Q : Nat} {O O' : Nat → Prop} {wy Y : World} {s t : St} (h1 : PaAt B P O wy s) (h2 : PaAt B Q O' wy t) (hd : ∀ k, O k → ¬ O' k) (hB : B ≤ wy.heap.size) (hY : wy.alloc (.cells (bookCs false 0 0 tx0) 58) = Y) : Tri B (fun k => O k ∨ O' k ∨ k = wy.heap.size) Y P Q wy.heap.size s t 0 := by
  have hb : Below wy.heap.size wy Y := by rw [← hY]; exact (Below.refl _ _).alloc (Nat.le_refl _) _
  have hx : BkAt Y wy.heap.size false 0 0 tx0 := by rw [← hY]; exact heap_alloc_new wy _
  have l1 := h1.lt
  have l2 := h2.lt
  have lY : wy.heap.size < Y.heap.size := (Array.getElem?_eq_some_iff.1 hx).1
  have hk : Bok wy.heap.size (fun k => k = wy.heap.size) Y wy.heap.size 0 := bok_new hx (Nat.le_refl _)
  refine ⟨⟨O, O', fun k => k = wy.heap.size, h1.below hb, h2.below hb, ⟨hk.ex, fun k e => by omega, hk.lt⟩, hd, fun k h e => by have := l1 k h; omega, fun k h e => by have := l2 k h; omega, fun k h => .inl h, fun k h => .inr (.inl h), fun k h => .inr (.inr h)⟩, fun k h => ?_⟩
  rcases h with a | a | a
  · have := l1 k a; omega
  · have := l2 k a; omega
  · omega
/-- Two pairs of one problem. -/
theorem two_pairs {B b1 b2 b3 b4 e1 e2 e3 e4 : Nat} {X : World} {P Q p q r r' : Nat} {nv mv nw mw : Value} {S S' : Nat → Prop} {m : Md.Mo}
    (hP : X.heap[P]? = some (.cells #[.pointer (some ⟨p, 0, none⟩), .pointer (some ⟨r, 0, none⟩)] 39 (0, 0))) (hQ : X.heap[Q]? = some (.cells #[.pointer (some ⟨q, 0, none⟩), .pointer (some ⟨r', 0, none⟩)] 39 (0, 0)))
    (s1 : StAt b1 X p nv mv (newS m)) (s2 : StAt b2 X q nw mw (newS m)) (o1 : ∀ k, Own p nv mv k → k < e1) (o2 : ∀ k, Own q nw mw k → k < e2) (r1 : RsAt b3 S X r (newLL m) []) (r2 : RsAt b4 S' X r' (newLL m) []) (z1 : ∀ k, S k → k < e3) (z2 : ∀ k, S' k → k < e4)
    (hB : B ≤ b1 ∧ e1 ≤ b2 ∧ e2 ≤ b3 ∧ e3 ≤ b4 ∧ B ≤ b2 ∧ B ≤ b3 ∧ B ≤ b4 ∧ e1 ≤ b3 ∧ e1 ≤ b4 ∧ e2 ≤ b4) (hPQ : P ≠ Q ∧ e1 ≤ P ∧ e2 ≤ P ∧ e3 ≤ P ∧ (P < b4 ∨ e4 ≤ P) ∧ e1 ≤ Q ∧ e2 ≤ Q ∧ e3 ≤ Q ∧ (Q < b4 ∨ e4 ≤ Q) ∧ B ≤ P ∧ B ≤ Q) :
    ∃ O O', PaAt B P O X (newS m) ∧ PaAt B Q O' X (newS m) ∧ ∀ k, O k → ¬ O' k := by
  obtain ⟨n1, n2, n3⟩ := new_rel m
  have lP := (Array.getElem?_eq_some_iff.1 hP).1
  have lQ := (Array.getElem?_eq_some_iff.1 hQ).1
  refine ⟨fun k => k = P ∨ Own p nv mv k ∨ S k, fun k => k = Q ∨ Own q nw mw k ∨ S' k, ⟨⟨p, nv, mv, r, S, b1, hP, s1, ?_, hB.1, fun k hk => ⟨.inr (.inl hk), ?_⟩, fun k hk => ⟨.inr (.inr hk), ?_⟩, fun k hk hS => ?_⟩, .inl rfl, fun k hk => ?_, fun k hk => ?_, alls_new m, n3⟩, ⟨⟨q, nw, mw, r', S', b2, hQ, s2, ?_, hB.2.2.2.2.1, fun k hk => ⟨.inr (.inl hk), ?_⟩, fun k hk => ⟨.inr (.inr hk), ?_⟩, fun k hk hS => ?_⟩, .inl rfl, fun k hk => ?_, fun k hk => ?_, alls_new m, n3⟩, fun k h1 h2 => ?_⟩
  · rw [n1, n2]
    exact { r1 with lo := fun k hk => by have := r1.lo k hk; omega }
  · have := o1 k hk; omega
  · have := z1 k hk; omega
  · have := o1 k hk; have := r1.lo k hS; omega
  · rcases hk with a | a | a
    · omega
    · have := own_lo s1 a; omega
    · have := r1.lo k a; omega
  · rcases hk with a | a | a
    · omega
    · exact own_lt s1 a
    · exact r1.lt k a
  · rw [n1, n2]
    exact { r2 with lo := fun k hk => by have := r2.lo k hk; omega }
  · have := o2 k hk; omega
  · have := z2 k hk; have := r2.lo k hk; omega
  · have := o2 k hk; have := r2.lo k hS; omega
  · rcases hk with a | a | a
    · omega
    · have := own_lo s2 a; omega
    · have := r2.lo k a; omega
  · rcases hk with a | a | a
    · omega
    · exact own_lt s2 a
    · exact r2.lt k a
  · rcases h1 with a | a | a <;> rcases h2 with b | b | b
    · omega
    · have := o2 k b; omega
    · have := r2.lo k b; have := z2 k b; omega
    · have := o1 k a; omega
    · have := o1 k a; have := own_lo s2 b; omega
    · have := o1 k a; have := r2.lo k b; omega
    · have := z1 k a; omega
    · have := r1.lo k a; have := o2 k b; omega
    · have := z1 k a; have := r2.lo k b; omega
/-- They are made in any order. -/
theorem two_of {B b1 b2 b3 b4 : Nat} {wr w7 w8 X : World} {P Q p q r r' : Nat} {nv mv nw mw : Value} {S S' : Nat → Prop} {m : Md.Mo}
    (hP : X.heap[P]? = some (.cells #[.pointer (some ⟨p, 0, none⟩), .pointer (some ⟨r, 0, none⟩)] 39 (0, 0))) (hQ : X.heap[Q]? = some (.cells #[.pointer (some ⟨q, 0, none⟩), .pointer (some ⟨r', 0, none⟩)] 39 (0, 0)))
    (s1 : StAt b1 wr p nv mv (newS m)) (s2 : StAt b2 wr q nw mw (newS m)) (o1 : ∀ k, Own p nv mv k → k < b2) (r1 : RsAt b3 S w7 r (newLL m) []) (r2 : RsAt b4 S' w8 r' (newLL m) []) (hr : Below wr.heap.size wr X) (h7 : Below w7.heap.size w7 X) (h8 : Below w8.heap.size w8 X)
    (hB : B ≤ b1 ∧ B ≤ b2 ∧ b2 ≤ wr.heap.size ∧ wr.heap.size ≤ b3 ∧ w7.heap.size ≤ b4 ∧ wr.heap.size ≤ w7.heap.size ∧ B ≤ wr.heap.size) (hPQ : P ≠ Q ∧ w7.heap.size ≤ P ∧ (P < b4 ∨ w8.heap.size ≤ P) ∧ w7.heap.size ≤ Q ∧ (Q < b4 ∨ w8.heap.size ≤ Q)) :
    ∃ O O', PaAt B P O X (newS m) ∧ PaAt B Q O' X (newS m) ∧ ∀ k, O k → ¬ O' k :=
  two_pairs (e1 := b2) (e2 := wr.heap.size) (e3 := w7.heap.size) (e4 := w8.heap.size) hP hQ (s1.below hr) (s2.below hr) o1 (fun k hk => own_lt s2 hk) (r1.below h7) (r2.below h8) r1.lt r2.lt (by omega) (by omega)
section
variable {B b1 b2 : Nat} {wr w7 w8 : World} {p q r r' : Nat} {nv mv nw mw : Value} {S S' : Nat → Prop} {m : Md.Mo}
theorem ord_a (s1 : StAt b1 wr p nv mv (newS m)) (s2 : StAt b2 wr q nw mw (newS m)) (o1 : ∀ k, Own p nv mv k → k < b2) (r1 : RsAt wr.heap.size S w7 r (newLL m) []) (l1 : Below wr.heap.size wr w7) (r2 : RsAt (w7.alloc (.cells #[.pointer (some ⟨p, 0, none⟩), .pointer (some ⟨r, 0, none⟩)] 39)).heap.size S' w8 r' (newLL m) []) (l2 : Below (w7.alloc (.cells #[.pointer (some ⟨p, 0, none⟩), .pointer (some ⟨r, 0, none⟩)] 39)).heap.size (w7.alloc (.cells #[.pointer (some ⟨p, 0, none⟩), .pointer (some ⟨r, 0, none⟩)] 39)) w8) (hB : B ≤ b1 ∧ b2 ≤ wr.heap.size ∧ B ≤ b2) :
    ∃ O O', PaAt B w7.heap.size O (w8.alloc (.cells #[.pointer (some ⟨q, 0, none⟩), .pointer (some ⟨r', 0, none⟩)] 39)) (newS m) ∧ PaAt B w8.heap.size O' (w8.alloc (.cells #[.pointer (some ⟨q, 0, none⟩), .pointer (some ⟨r', 0, none⟩)] 39)) (newS m) ∧ ∀ k, O k → ¬ O' k := by
  obtain ⟨V, hV⟩ : ∃ V, w7.alloc (.cells #[.pointer (some ⟨p, 0, none⟩), .pointer (some ⟨r, 0, none⟩)] 39) = V := ⟨_, rfl⟩
  have g1 : V.heap[w7.heap.size]? = some (.cells #[.pointer (some ⟨p, 0, none⟩), .pointer (some ⟨r, 0, none⟩)] 39 (0, 0)) := by rw [← hV]; exact heap_alloc_new w7 _
  have k1 : Below w7.heap.size w7 V := by rw [← hV]; exact (Below.refl _ _).alloc (Nat.le_refl _) _
  rw [hV] at r2 l2
  obtain ⟨X, hX⟩ : ∃ X, w8.alloc (.cells #[.pointer (some ⟨q, 0, none⟩), .pointer (some ⟨r', 0, none⟩)] 39) = X := ⟨_, rfl⟩
  have g2 : X.heap[w8.heap.size]? = some (.cells #[.pointer (some ⟨q, 0, none⟩), .pointer (some ⟨r', 0, none⟩)] 39 (0, 0)) := by rw [← hX]; exact heap_alloc_new w8 _
  have k2 : Below w8.heap.size w8 X := by rw [← hX]; exact (Below.refl _ _).alloc (Nat.le_refl _) _
  rw [hX]
  have hV7 := (Array.getElem?_eq_some_iff.1 g1).1
  have h78 := l2.size
  have h7r := l1.size
  have k7 := bl_next (bl_next k1 l2) k2
  exact two_of ((bl_next l2 k2).block _ hV7 |>.trans g1) g2 s1 s2 o1 r1 r2 (bl_next l1 k7) k7 k2 (by omega) (by omega)
theorem ord_b (s1 : StAt b1 wr p nv mv (newS m)) (s2 : StAt b2 wr q nw mw (newS m)) (o1 : ∀ k, Own p nv mv k → k < b2) (r1 : RsAt wr.heap.size S w7 r (newLL m) []) (l1 : Below wr.heap.size wr w7) (r2 : RsAt w7.heap.size S' w8 r' (newLL m) []) (l2 : Below w7.heap.size w7 w8) (hB : B ≤ b1 ∧ b2 ≤ wr.heap.size ∧ B ≤ b2) :
    ∃ O O', PaAt B w8.heap.size O ((w8.alloc (.cells #[.pointer (some ⟨p, 0, none⟩), .pointer (some ⟨r, 0, none⟩)] 39)).alloc (.cells #[.pointer (some ⟨q, 0, none⟩), .pointer (some ⟨r', 0, none⟩)] 39)) (newS m) ∧ PaAt B (w8.heap.size + 1) O' ((w8.alloc (.cells #[.pointer (some ⟨p, 0, none⟩), .pointer (some ⟨r, 0, none⟩)] 39)).alloc (.cells #[.pointer (some ⟨q, 0, none⟩), .pointer (some ⟨r', 0, none⟩)] 39)) (newS m) ∧ ∀ k, O k → ¬ O' k := by
  obtain ⟨X, hX⟩ : ∃ X, (w8.alloc (.cells #[.pointer (some ⟨p, 0, none⟩), .pointer (some ⟨r, 0, none⟩)] 39)).alloc (.cells #[.pointer (some ⟨q, 0, none⟩), .pointer (some ⟨r', 0, none⟩)] 39) = X := ⟨_, rfl⟩
  have g1 : X.heap[w8.heap.size]? = some (.cells #[.pointer (some ⟨p, 0, none⟩), .pointer (some ⟨r, 0, none⟩)] 39 (0, 0)) := by rw [← hX, heap_alloc_old (w8.alloc _) _ (by simp)]; exact heap_alloc_new w8 _
  have g2 : X.heap[w8.heap.size + 1]? = some (.cells #[.pointer (some ⟨q, 0, none⟩), .pointer (some ⟨r', 0, none⟩)] 39 (0, 0)) := by rw [← hX]; exact heap_alloc2_new w8 _ _
  have k2 : Below w8.heap.size w8 X := by rw [← hX]; exact ((Below.refl _ _).alloc (Nat.le_refl _) _).alloc (by simp) _
  rw [hX]
  have h78 := l2.size
  have h7r := l1.size
  have k7 := bl_next l2 k2
  exact two_of g1 g2 s1 s2 o1 r1 r2 (bl_next l1 k7) k7 k2 (by omega) (by omega)
theorem ord_c (s1 : StAt b1 wr p nv mv (newS m)) (s2 : StAt b2 wr q nw mw (newS m)) (o1 : ∀ k, Own p nv mv k → k < b2) (r1 : RsAt wr.heap.size S w7 r (newLL m) []) (l1 : Below wr.heap.size wr w7) (r2 : RsAt w7.heap.size S' w8 r' (newLL m) []) (l2 : Below w7.heap.size w7 w8) (hB : B ≤ b1 ∧ b2 ≤ wr.heap.size ∧ B ≤ b2) :
    ∃ O O', PaAt B (w8.heap.size + 1) O ((w8.alloc (.cells #[.pointer (some ⟨q, 0, none⟩), .pointer (some ⟨r', 0, none⟩)] 39)).alloc (.cells #[.pointer (some ⟨p, 0, none⟩), .pointer (some ⟨r, 0, none⟩)] 39)) (newS m) ∧ PaAt B w8.heap.size O' ((w8.alloc (.cells #[.pointer (some ⟨q, 0, none⟩), .pointer (some ⟨r', 0, none⟩)] 39)).alloc (.cells #[.pointer (some ⟨p, 0, none⟩), .pointer (some ⟨r, 0, none⟩)] 39)) (newS m) ∧ ∀ k, O k → ¬ O' k := by
  obtain ⟨X, hX⟩ : ∃ X, (w8.alloc (.cells #[.pointer (some ⟨q, 0, none⟩), .pointer (some ⟨r', 0, none⟩)] 39)).alloc (.cells #[.pointer (some ⟨p, 0, none⟩), .pointer (some ⟨r, 0, none⟩)] 39) = X := ⟨_, rfl⟩
  have g1 : X.heap[w8.heap.size]? = some (.cells #[.pointer (some ⟨q, 0, none⟩), .pointer (some ⟨r', 0, none⟩)] 39 (0, 0)) := by rw [← hX, heap_alloc_old (w8.alloc _) _ (by simp)]; exact heap_alloc_new w8 _
  have g2 : X.heap[w8.heap.size + 1]? = some (.cells #[.pointer (some ⟨p, 0, none⟩), .pointer (some ⟨r, 0, none⟩)] 39 (0, 0)) := by rw [← hX]; exact heap_alloc2_new w8 _ _
  have k2 : Below w8.heap.size w8 X := by rw [← hX]; exact ((Below.refl _ _).alloc (Nat.le_refl _) _).alloc (by simp) _
  rw [hX]
  have h78 := l2.size
  have h7r := l1.size
  have k7 := bl_next l2 k2
  exact two_of g2 g1 s1 s2 o1 r1 r2 (bl_next l1 k7) k7 k2 (by omega) (by omega)
end
end Go.Proofs.YtchpapppkmnfnaaGreatDoor
