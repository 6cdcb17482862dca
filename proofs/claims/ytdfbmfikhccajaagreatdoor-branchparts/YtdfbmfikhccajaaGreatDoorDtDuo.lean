/-
  Two stores side by side, the program's and the document's, and what calls leave of them.
-/
import Derived.Test.YtdfbmfikhccajaaGreatDoorDrReads
import Derived.Test.YtdfbmfikhccajaaGreatDoorJ47
import Derived.Test.YtdfbmfikhccajaaGreatDoorMdRegU
import Derived.Test.YtdfbmfikhccajaaGreatDoorDmMark
import Derived.Test.YtdfbmfikhccajaaGreatDoorMdSrc
namespace Go.Proofs.YtdfbmfikhccajaaGreatDoor
open Go.RowKit

structure Duo (B : Nat) (O : Nat → Prop) (w : World) (p r : Nat) (s : St) (LL : List (List Int)) (MM : List (List (List Int))) : Prop where
  ex : ∃ nv mv S Bs, StAt Bs w p nv mv s ∧ RsAt B S w r LL MM ∧ B ≤ Bs ∧ (∀ k, Own p nv mv k → O k) ∧ (∀ k, S k → O k) ∧ ∀ k, Own p nv mv k → ¬ S k
  lo : ∀ k, O k → B ≤ k
  lt : ∀ k, O k → k < w.heap.size
def DuOut (B : Nat) (O : Nat → Prop) (p r : Nat) (s : St) (LL : List (List Int)) (MM : List (List (List Int))) (v : Value) (w : World) (e : Ending) (w' : World) : Prop := e = .returned v ∧ ∃ O', Duo B O' w' p r s LL MM ∧ SStp B O w w' ∧ Grown O w w' O'
section
variable {B : Nat} {O : Nat → Prop} {w w' : World} {p r : Nat} {s s' : St} {LL LL' : List (List Int)} {MM MM' : List (List (List Int))}
theorem Duo.keep (h : Duo B O w p r s LL MM) (hz : w.heap.size ≤ w'.heap.size) (hk : ∀ k, O k → w'.heap[k]? = w.heap[k]?) : Duo B O w' p r s LL MM := by
  obtain ⟨nv, mv, S, Bs, h2, h3, h4, h5, h6, h7⟩ := h.ex
  exact ⟨⟨nv, mv, S, Bs, h2.keep (fun k _ ho => hk k (h5 k ho)), h3.keep hz (fun k hS => hk k (h6 k hS)), h4, h5, h6, h7⟩, h.lo, fun k hS => Nat.lt_of_lt_of_le (h.lt k hS) hz⟩
theorem Duo.below (h : Duo B O w p r s LL MM) (hb : Below w.heap.size w w') : Duo B O w' p r s LL MM := h.keep hb.size fun k hk => hb.block k (h.lt k hk)
theorem Duo.prog {nv mv mv' : Value} {S : Nat → Prop} {Bs : Nat} (h : Duo B O w p r s LL MM) (_h2 : StAt Bs w p nv mv s) (h3 : RsAt B S w r LL MM) (h4 : B ≤ Bs) (h5 : ∀ k, Own p nv mv k → O k) (h6 : ∀ k, S k → O k) (h7 : ∀ k, Own p nv mv k → ¬ S k)
    (a1 : StAt Bs w' p nv mv' s') (a2 : Stp Bs p nv mv w w') (a3 : ∀ k, mv'.ownBlock = some k → mv.ownBlock = some k ∨ w.heap.size ≤ k) : ∃ O', Duo B O' w' p r s' LL MM ∧ SStp B O w w' ∧ Grown O w w' O' := by
  have hown : ∀ k, Own p nv mv' k → Own p nv mv k ∨ (w.heap.size ≤ k ∧ k < w'.heap.size) := fun k hk => by
    rcases hk with e | e | e
    · exact .inl (.inl e)
    · exact .inl (.inr (.inl e))
    · rcases a3 k e with a | a
      · exact .inl (.inr (.inr a))
      · exact .inr ⟨a, own_lt a1 (.inr (.inr e))⟩
  refine ⟨fun k => O k ∨ Own p nv mv' k, ⟨⟨nv, mv', S, Bs, a1, h3.keep a2.off.size (fun k hk => a2.off.block k (h3.lt k hk) (fun e => h7 k e hk)), h4, fun k hk => .inr hk, fun k hk => .inl (h6 k hk), fun k hk hS => ?_⟩, ?_, ?_⟩, ⟨a2.below.mono h4, a2.off.less h5⟩, fun k hk => ?_⟩
  · rcases hown k hk with e | e
    · exact h7 k e hS
    · have := h3.lt k hS; omega
  · rintro k (e | e)
    · exact h.lo k e
    · exact Nat.le_trans h4 (own_lo a1 e)
  · rintro k (e | e)
    · exact Nat.lt_of_lt_of_le (h.lt k e) a2.off.size
    · exact own_lt a1 e
  · rcases hk with e | e
    · exact .inl e
    · rcases hown k e with a | a
      · exact .inl (h5 k a)
      · exact .inr a
theorem Duo.doc {nv mv : Value} {S S' : Nat → Prop} {Bs : Nat} (h : Duo B O w p r s LL MM) (h2 : StAt Bs w p nv mv s) (h4 : B ≤ Bs) (h5 : ∀ k, Own p nv mv k → O k) (h6 : ∀ k, S k → O k) (h7 : ∀ k, Own p nv mv k → ¬ S k)
    (a1 : RsAt B S' w' r LL' MM') (a2 : SStp B S w w') (a3 : Grown S w w' S') : ∃ O', Duo B O' w' p r s LL' MM' ∧ SStp B O w w' ∧ Grown O w w' O' := by
  refine ⟨fun k => O k ∨ S' k, ⟨⟨nv, mv, S', Bs, h2.keep (fun k hk ho => a2.off.block k hk (fun e => h7 k ho e)), a1, h4, fun k hk => .inl (h5 k hk), fun k hk => .inr hk, fun k hk hS => ?_⟩, ?_, ?_⟩, ⟨a2.below, a2.off.less h6⟩, fun k hk => ?_⟩
  · rcases a3 k hS with e | e
    · exact h7 k hk e
    · have := own_lt h2 hk; omega
  · rintro k (e | e)
    · exact h.lo k e
    · exact a1.lo k e
  · rintro k (e | e)
    · exact Nat.lt_of_lt_of_le (h.lt k e) a2.off.size
    · exact a1.lt k e
  · rcases hk with e | e
    · exact .inl e
    · rcases a3 k e with a | a
      · exact .inl (h6 k a)
      · exact .inr a
/-- The calls. -/
theorem Duo.cut1 (h : Duo B O w p r s LL MM) (k x v : Int) : Calls Tryz.prog 12 #[.pointer (some ⟨p, 0, none⟩), .agg #[.int .i64 k, .int .i64 x, .int .i64 v]] w (DuOut B O p r (s.cut k x v) LL MM (.tuple #[.bool (s.went k x v), .bool (s.may k x v)]) w) := by
  obtain ⟨nv, mv, S, Bs, h2, h3, h4, h5, h6, h7⟩ := h.ex
  exact (cut_any Bs p nv mv s k x v w h2).mono fun e w' hq => ⟨hq.1, h.prog h2 h3 h4 h5 h6 h7 hq.2.1 hq.2.2 fun k hk => .inl hk⟩
theorem Duo.cut2 (h : Duo B O w p r s LL MM) (k x v : Int) : Calls Tryz.prog 22 #[.pointer (some ⟨r, 0, none⟩), .agg #[.int .i64 k, .int .i64 x, .int .i64 v]] w (DuOut B O p r s (cutLL LL k x v) MM (.tuple #[.bool (wentLL LL k x v), .bool (mayLL LL k x v)]) w) := by
  obtain ⟨nv, mv, S, Bs, h2, h3, h4, h5, h6, h7⟩ := h.ex
  refine (rCut_any k x v w h3).mono fun e w' hq => ?_
  obtain ⟨q1, S', q2, q3, q4⟩ := hq
  exact ⟨q1, h.doc h2 h4 h5 h6 h7 q2 q3 q4⟩
end
end Go.Proofs.YtdfbmfikhccajaaGreatDoor
