/-
  Package dom: Cut.
-/
import Derived.Test.YtdfbmfikhccajaaDoorJ37
import Derived.BigQuiet
import Derived.Deep.CutRange
namespace Go.Proofs.YtdfbmfikhccajaaDoor
open Go.RowKit

/-- What a cut leaves of a domain. -/
def Dm.cut (d : Dm) (k v : Int) : Dm := ⟨d.f, lWd (dPlc d.f v) k d.a 0, lWd (dPlc d.f v) k d.b 1⟩
theorem Dm.Ok.cut {d : Dm} (h : d.Ok) (k v : Int) : (d.cut k v).Ok := ⟨h.f1, h.f2, isW_lWd h.a, isW_lWd h.b⟩
def Dm.eqB (d e : Dm) : Bool := d.a == e.a && d.b == e.b
/-- What a cut answers of a domain, and leaves. -/
def Dm.went (d : Dm) (k v : Int) : Bool := !(d.cut k v).eqB d && !(d.cut k v).eqB ⟨0, 0, 0⟩
def Dm.may (d : Dm) (k v : Int) : Bool := (d.cut k v).eqB d || !(d.cut k v).eqB ⟨0, 0, 0⟩
/-- What a cut leaves of a store; what it answers. -/
def St.cut (s : St) (k x v : Int) : St := match s.now[x.toNat]? with
  | none => s
  | some d => if isB s.now.length x && d.went k v then { s with now := s.now.set x.toNat (d.cut k v) } else s
def St.went (s : St) (k x v : Int) : Bool := match s.now[x.toNat]? with
  | none => false
  | some d => isB s.now.length x && d.went k v
def St.may (s : St) (k x v : Int) : Bool := match s.now[x.toNat]? with
  | none => true
  | some d => !isB s.now.length x || d.may k v

theorem dms_set (L : List Dm) (q : Nat) (x y : Int) (hq : q < L.length) : ((dms L).set (q * 3 + 1) (.int .u32 x)).set (q * 3 + 2) (.int .u32 y) = dms (L.set q ⟨L[q].f, x, y⟩) := by
  induction L generalizing q with
  | nil => exact absurd hq (by simp)
  | cons d L ih =>
    have e : ∀ (d : Dm) (L : List Dm), dms (d :: L) = .int .i64 d.f :: .int .u32 d.a :: .int .u32 d.b :: dms L := fun d L => by simp [dms, Dm.cells]
    cases q with
    | zero => rw [e]; simp [e]
    | succ q =>
      have h := ih q (by simpa using hq)
      rw [List.set_cons_succ, e, e]
      have e1 : (q + 1) * 3 + 1 = (q * 3 + 1) + 1 + 1 + 1 := by omega
      have e2 : (q + 1) * 3 + 2 = (q * 3 + 2) + 1 + 1 + 1 := by omega
      rw [e1, e2]
      simp only [List.set_cons_succ, List.getElem_cons_succ]
      rw [h]
/-- Two words of a domain are written. -/
theorem StAt.put {B : Nat} {w : World} {p g cap : Nat} {mv : Value} {s : St} {q : Nat} (h : StAt B w p (.slice (some ⟨g, 0, none⟩) s.now.length cap) mv s) (hq : q < s.now.length) (x y : Int) (hok : Dm.Ok ⟨s.now[q].f, x, y⟩) :
    StAt B ((w.setCell ⟨g, q * 3 + 1, none⟩ (.int .u32 x)).setCell ⟨g, q * 3 + 2, none⟩ (.int .u32 y)) p (.slice (some ⟨g, 0, none⟩) s.now.length cap) mv { s with now := s.now.set q ⟨s.now[q].f, x, y⟩ } := by
  have h1 := ((h.n.stored (q * 3 + 1) (.int .u32 x)).1.stored (q * 3 + 2) (.int .u32 y)).1
  rw [dms_set _ _ _ _ hq] at h1
  have hp : p ≠ g := fun e => h.ne1 (by rw [e]; rfl)
  have hm : ∀ k, mv.ownBlock = some k → k ≠ g := fun k hk e => h.ne3 g rfl (by rw [← e]; exact hk)
  have hkp : ∀ k, k ≠ g → ((w.setCell ⟨g, q * 3 + 1, none⟩ (.int .u32 x)).setCell ⟨g, q * 3 + 2, none⟩ (.int .u32 y)).heap[k]? = w.heap[k]? := fun k hk => by
    rw [heap_setCell_other _ _ _ _ hk, heap_setCell_other _ _ _ _ hk]
  have row : ∀ {v : Value} {n : Nat} {xs : List Value}, w.ownsRow B 61 3 v n xs → (∀ k, v.ownBlock = some k → k ≠ g) → ((w.setCell ⟨g, q * 3 + 1, none⟩ (.int .u32 x)).setCell ⟨g, q * 3 + 2, none⟩ (.int .u32 y)).ownsRow B 61 3 v n xs := by
    intro v n xs ⟨h1, h2⟩ hv
    refine ⟨h1, ?_⟩
    rcases h2 with h2 | ⟨g', cap', cur, e1, e2, e3, e4⟩
    · exact .inl h2
    · exact .inr ⟨g', cap', cur, e1, e2, (hkp g' (hv g' (by rw [e1]; rfl))).trans e3, e4⟩
  exact {
    o := (hkp p hp).trans h.o
    n := by rw [List.length_set]; exact h1
    m := row h.m hm
    b1 := h.b1
    p1 := h.p1
    ne1 := h.ne1
    ne2 := h.ne2
    ne3 := h.ne3
    good := fun d hd => by
      rcases List.mem_or_eq_of_mem_set hd with hd | rfl
      · exact h.good d hd
      · exact hok
    goodm := h.goodm
    len := by show _ = _ * (s.now.set q _).length; rw [List.length_set]; exact h.len
    n32 := by show (s.now.set q _).length ≤ 32; rw [List.length_set]; exact h.n32
    mks := h.mks }

/-- What Cut leaves. -/
def CutOut (B p : Nat) (nv mv : Value) (s : St) (k x v : Int) (w : World) (e : Ending) (w' : World) : Prop := e = .returned (.tuple #[.bool (s.went k x v), .bool (s.may k x v)]) ∧ StAt B w' p nv mv (s.cut k x v) ∧ Stp B p nv mv w w'

theorem cut_no {s : St} {k x v : Int} (h : isB s.now.length x = false) : s.cut k x v = s ∧ s.went k x v = false ∧ s.may k x v = true := by
  unfold St.cut St.went St.may
  rw [h]
  cases s.now[x.toNat]? <;> exact ⟨rfl, rfl, rfl⟩
theorem cut_yes {s : St} {k v : Int} {x : Nat} (hx : x < s.now.length) : s.cut k x v = (if s.now[x].went k v then { s with now := s.now.set x (s.now[x].cut k v) } else s) ∧ s.went k x v = s.now[x].went k v ∧ s.may k x v = s.now[x].may k v := by
  have h : isB s.now.length (x : Int) = true := by simp [isB]; omega
  have e : s.now[((x : Int)).toNat]? = some s.now[x] := by simp [hx]
  unfold St.cut St.went St.may
  rw [h, e]
  simp

end Go.Proofs.YtdfbmfikhccajaaDoor
