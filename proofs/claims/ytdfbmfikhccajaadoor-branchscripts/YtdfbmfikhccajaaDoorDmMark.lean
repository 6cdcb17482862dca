/-
  Package dom: Mark.
-/
import Derived.Test.YtdfbmfikhccajaaDoorDmCut
import Derived.Test.YtdfbmfikhccajaaDoorMdRegU
import Derived.Test.YtdfbmfikhccajaaDoorMdSrc
namespace Go.Proofs.YtdfbmfikhccajaaDoor
open Go.RowKit

theorem und57 : Tryd.prog.underlying 51 = some (.slice 61) := by kernel_rfl
theorem info67b : (Tryd.prog.info? 61).map (fun i => (i.zero, i.size, i.bytes)) = some (some (.agg #[.int .i64 0, .int .u32 0, .int .u32 0]), 3, 16) := by kernel_rfl
theorem own_slice {w : World} {B : Nat} {e : TypeId} {size : Nat} {v : Value} {n : Nat} {xs : List Value} (h : w.ownsRow B e size v n xs) : ∃ a cap, v = .slice a n cap := by
  rcases h.2 with ⟨rfl, hn⟩ | ⟨g, cap, cur, rfl, _⟩
  · exact ⟨none, 0, by rw [hn]⟩
  · exact ⟨_, cap, rfl⟩
theorem dms_one (L : List Dm) : ∀ u ∈ dms L, u.oneCell' = true := by
  intro u hu
  unfold dms at hu
  rw [List.mem_flatMap] at hu
  obtain ⟨d, _, hu⟩ := hu
  simp only [Dm.cells, List.mem_cons, List.not_mem_nil, or_false] at hu
  rcases hu with rfl | rfl | rfl <;> rfl
/-- A row that one reads. -/
theorem row_src {w : World} {B : Nat} {e : TypeId} {v : Value} {L : List Dm} (h : w.ownsRow B e 3 v L.length (dms L)) : SrcAt w v L.length 3 (dms L) := by
  rcases h.2 with ⟨rfl, hn⟩ | ⟨g, cap, cur, rfl, _, e3, _, _, _, e7⟩
  · exact ⟨none, 0, by rw [hn], by rw [dms_len], dms_one L, (fun _ => hn), fun ad ha => by cases ha⟩
  · refine ⟨_, cap, rfl, by rw [dms_len], dms_one L, (fun hn => by cases hn), fun ad ha j u hj => ?_⟩
    injection ha with ha
    subst ha
    rw [addr_none, Nat.zero_add, cell_of e3]
    have hj2 : j < L.length * 3 := by
      have := (List.getElem?_eq_some_iff.1 hj).1
      rwa [dms_len] at this
    have : (cur.toList.take (L.length * 3))[j]? = some u := by rw [e7]; exact hj
    rw [List.getElem?_take, if_pos hj2] at this
    simpa using this
theorem row_kept {w w' : World} {B : Nat} {e : TypeId} {size : Nat} {v : Value} {n : Nat} {xs : List Value} (h : w.ownsRow B e size v n xs) (hk : ∀ g, v.ownBlock = some g → w'.heap[g]? = w.heap[g]?) : w'.ownsRow B e size v n xs := by
  obtain ⟨h1, h2⟩ := h
  refine ⟨h1, ?_⟩
  rcases h2 with h2 | ⟨g, cap, cur, e1, e2, e3, e4⟩
  · exact .inl h2
  · exact .inr ⟨g, cap, cur, e1, e2, (hk g (by rw [e1]; rfl)).trans e3, e4⟩
theorem row_lt {w : World} {B : Nat} {e : TypeId} {size : Nat} {v : Value} {n : Nat} {xs : List Value} (h : w.ownsRow B e size v n xs) {g : Nat} (hg : v.ownBlock = some g) : B ≤ g ∧ g < w.heap.size := h.lt g hg

def St.mark (s : St) : St := ⟨s.now, s.noted ++ s.now, s.marks + 1⟩
theorem dms_append (L M : List Dm) : dms (L ++ M) = dms L ++ dms M := by simp [dms]

/-- What Mark leaves. -/
def MarkOut (B p : Nat) (nv mv : Value) (s : St) (w : World) (e : Ending) (w' : World) : Prop := ∃ mv', e = .returned (.int .i64 (s.marks : Int)) ∧ StAt B w' p nv mv' s.mark ∧ Stp B p nv mv w w' ∧ ∀ k, mv'.ownBlock = some k → mv.ownBlock = some k ∨ w.heap.size ≤ k

theorem mark_at {B p : Nat} {nv mv mv' : Value} {s : St} {U w2 : World} (h : StAt B U p nv mv s) (hmk : s.marks + 1 ≤ 10000) (g1 : w2.ownsRow B 61 3 mv' (s.noted.length + s.now.length) (dms s.noted ++ dms s.now)) (g2 : U.grownBy w2 mv.ownBlock) (g3 : mv'.ownBlock = mv.ownBlock ∨ mv'.ownBlock = some U.heap.size) :
    StAt B ((w2.setCell ⟨p, 1, none⟩ mv').setCell ⟨p, 2, none⟩ (.int .i64 ((s.marks : Int) + 1))) p nv mv' s.mark ∧ Stp B p nv mv U ((w2.setCell ⟨p, 1, none⟩ mv').setCell ⟨p, 2, none⟩ (.int .i64 ((s.marks : Int) + 1))) := by
  have hp : mv'.ownBlock ≠ some p := fun e => by
    rcases g3 with g3 | g3
    · exact h.ne2 (g3.symm.trans e)
    · rw [g3] at e
      injection e with e
      have := h.lt
      omega
  have hnn : ∀ k, nv.ownBlock = some k → mv'.ownBlock ≠ some k := fun k hk e => by
    rcases g3 with g3 | g3
    · exact h.ne3 k hk (g3.symm.trans e)
    · rw [g3] at e
      injection e with e
      have := (row_lt h.n hk).2
      omega
  have gp : w2.heap[p]? = some (.cells #[nv, mv, .int .i64 (s.marks : Int)] 53 (0, 0)) := (g2.block p h.lt (fun e => h.ne2 e.symm)).trans h.o
  have hoth : ∀ k, k ≠ p → ((w2.setCell ⟨p, 1, none⟩ mv').setCell ⟨p, 2, none⟩ (.int .i64 ((s.marks : Int) + 1))).heap[k]? = w2.heap[k]? := fun k hk => by
    rw [heap_setCell_other _ _ _ _ hk, heap_setCell_other _ _ _ _ hk]
  have hE := heap_setCell_same _ p 2 _ 53 (.int .i64 ((s.marks : Int) + 1)) (heap_setCell_same w2 p 1 _ 53 mv' gp)
  have hb2 : Below B U w2 := (Below.refl _ _).grown g2 h.size (fun g hg => (row_lt h.m hg).1)
  refine ⟨?_, ((hb2.setCell h.p1 _).setCell h.p1 _), ?_⟩
  · exact {
      o := by simpa only [List.setIfInBounds_toArray, List.set_cons_zero, List.set_cons_succ, Int.natCast_add, Int.natCast_one, St.mark] using hE
      n := row_kept (row_kept h.n (fun g hg => g2.block g (row_lt h.n hg).2 (fun e => h.ne3 g hg e.symm))) (fun g hg => hoth g (fun e => h.ne1 (by rw [← e]; exact hg)))
      m := by
        show World.ownsRow _ _ _ _ _ (s.noted ++ s.now).length (dms (s.noted ++ s.now))
        rw [List.length_append, dms_append]
        exact row_kept g1 (fun g hg => hoth g (fun e => hp (by rw [← e]; exact hg)))
      b1 := h.b1
      p1 := h.p1
      ne1 := h.ne1
      ne2 := hp
      ne3 := hnn
      good := h.good
      goodm := fun d hd => (List.mem_append.1 hd).elim (h.goodm d) (h.good d)
      len := by show (s.noted ++ s.now).length = (s.marks + 1) * s.now.length; rw [List.length_append, h.len, Nat.add_mul, Nat.one_mul]
      n32 := h.n32
      mks := hmk }
  · refine ⟨by simpa using g2.size, fun k hk ho => ?_⟩
    have hkp : k ≠ p := fun e => ho (.inl e)
    rw [hoth k hkp]
    exact g2.block k hk (fun e => ho (.inr (.inr e.symm)))

end Go.Proofs.YtdfbmfikhccajaaDoor
