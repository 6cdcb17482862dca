/-
  Put together: MdRoomM, MdRoomN, MdHoldM.
-/
import Derived.Test.YtmhfabnpfkkbcaaGreatMdHoldV
namespace Go.Proofs.YtmhfabnpfkkbcaaGreat
open Go.RowKit

theorem box_step {t : TypeId} {base R N : Nat} {S S1 S2 : Lab} {F2 : Nat → List Value} {w W w2 : World} {cs : Array Value} {z : Obj} (hA1 : Agree S S1 w W) (hA2 : Agree S1 S2 W w2) (hR2 : RoomAt ety base R S2 F2 w2) (hh2 : ∀ k, k < W.heap.size → 150 ≤ S1 k → w2.heap[k]? = W.heap[k]?)
    (hN : W.heap[N]? = some (.cells cs t (0, 0))) (hZ : W.heap[N + 1]? = some z) (hL : 150 ≤ S1 N ∧ 150 ≤ S1 (N + 1)) (i : Nat) (v : Value) {V : World} (hV : w2.setCell ⟨N, i, none⟩ v = V) :
    w2.heap[N]? = some (.cells cs t (0, 0)) ∧ RoomAt ety base R S2 F2 V ∧ Agree S S2 w V ∧ Agree S2 S2 w2 V ∧ Agree S1 S2 W V ∧ V.heap[N]? = some (.cells (cs.setIfInBounds i v) t (0, 0)) ∧ V.heap[N + 1]? = some z ∧ (150 ≤ S2 N ∧ 150 ≤ S2 (N + 1)) := by
  subst hV
  have hNl : N < W.heap.size := (Array.getElem?_eq_some_iff.1 hN).1
  have hZl : N + 1 < W.heap.size := (Array.getElem?_eq_some_iff.1 hZ).1
  have hL2 : 150 ≤ S2 N ∧ 150 ≤ S2 (N + 1) := ⟨by rw [hA2.lab N hNl]; exact hL.1, by rw [hA2.lab _ hZl]; exact hL.2⟩
  have h1 : w2.heap[N]? = some (.cells cs t (0, 0)) := (hh2 N hNl hL.1).trans hN
  have h2 : w2.heap[N + 1]? = some z := (hh2 _ hZl hL.2).trans hZ
  refine ⟨h1, hR2.set hL2.1 i v, (hA1.trans hA2).set hL2.1 i v, (Agree.refl _ _).set hL2.1 i v, hA2.set hL2.1 i v, ?_, ?_, hL2⟩
  · simp [World.setCell, Array.getElem?_modify, h1]
  · exact (Below.heap_setCell w2 ⟨N, i, none⟩ v (N + 1) (by simp)).trans h2

/-- Variables that were laid with room. -/
structure DataV (S : Lab) (w : World) (b : Nat) (l : List Md.Vr) (room : Nat) : Prop where
  lab : S b = 0
  lt : b < w.heap.size
  cells : ∀ j u, (laidVars l room)[j]? = some u → w.cell? ⟨b, j, none⟩ = some u
theorem DataV.agree {S S' : Lab} {w w' : World} {b : Nat} {l : List Md.Vr} {room : Nat} (h : DataV S w b l room) (ha : Agree S S' w w') : DataV S' w' b l room :=
  ⟨(ha.lab b h.lt).trans h.lab, Nat.lt_of_lt_of_le h.lt ha.size, fun j u hj => (ha.cell (a := ⟨b, j, none⟩) h.lt h.lab).trans (h.cells j u hj)⟩
theorem DataV.vars {S : Lab} {w : World} {b : Nat} {l : List Md.Vr} {room : Nat} (h : DataV S w b l room) (hl : l.length ≤ 100000) (hn : ∀ x ∈ l, x.name.size ≤ maxLen) : VarsAt w (.slice (some ⟨b, 0, none⟩) l.length (l.length + room)) l := by
  refine ⟨some ⟨b, 0, none⟩, l.length + room, rfl, by unfold maxLen; omega, hn, fun _ => ⟨b, 0, rfl, h.lt, fun j hj => ?_⟩⟩
  have hg := varCells_get l j hj
  have hlen := varCells_length l
  refine ⟨?_, ?_, ?_⟩
  · rw [Nat.zero_add]; exact h.cells _ _ (by unfold laidVars; rw [List.getElem?_append_left (by omega)]; exact hg.1)
  · rw [Nat.zero_add]; exact h.cells _ _ (by unfold laidVars; rw [List.getElem?_append_left (by omega)]; exact hg.2.1)
  · rw [Nat.zero_add]; exact h.cells _ _ (by unfold laidVars; rw [List.getElem?_append_left (by omega)]; exact hg.2.2)
theorem DataV.ent {S : Lab} {w : World} {b : Nat} {l : List Md.Vr} {room : Nat} (h : DataV S w b l room) (hl : l.length ≤ 100000) (hr : room ≤ 40) (cap : Nat) : EntV w (.slice (some ⟨b, 0, none⟩) (l.length + room) cap) (.int .i64 (l.length : Int)) := by
  refine ⟨b, l.length, room, cap, rfl, rfl, hl, hr, fun j hj => ?_⟩
  have hlen := varCells_length l
  have hg := varCells_get ((List.range room).map fun j => (⟨⟨#[]⟩, lotI j, 0⟩ : Md.Vr)) j (by simpa using hj)
  simp only [List.getElem_map, List.getElem_range] at hg
  refine ⟨h.cells _ _ ?_, h.cells _ _ ?_, h.cells _ _ ?_⟩
  · unfold laidVars
    rw [List.getElem?_append_right (by omega), ← hg.1]; congr 1; omega
  · unfold laidVars
    rw [List.getElem?_append_right (by omega), ← hg.2.1]; congr 1; omega
  · unfold laidVars
    rw [List.getElem?_append_right (by omega), ← hg.2.2]; congr 1; omega

theorem Con1.cells_len (d : Con1) : d.cells.length = 10 := rfl
theorem flat10_len {α : Type} (f : α → List Value) (hf : ∀ a, (f a).length = 10) (l : List α) : (l.flatMap f).length = l.length * 10 := by
  induction l with
  | nil => rfl
  | cons a l ih => rw [List.flatMap_cons, List.length_append, hf, ih, List.length_cons]; omega
theorem flat10_get {α : Type} (f : α → List Value) (hf : ∀ a, (f a).length = 10) (l : List α) (j i : Nat) (hj : j < l.length) (hi : i < 10) : (l.flatMap f)[j * 10 + i]? = (f l[j])[i]? := by
  induction l generalizing j with
  | nil => simp at hj
  | cons a l ih =>
    rw [List.flatMap_cons]
    cases j with
    | zero => rw [List.getElem?_append_left (by rw [hf]; omega)]; simp
    | succ j =>
      rw [List.getElem?_append_right (by rw [hf]; omega), hf]
      have := ih j (by simpa using hj)
      rw [List.getElem_cons_succ, ← this]; congr 1; omega
/-- Constraints that were laid with room. -/
structure DataK (S : Lab) (w : World) (b : Nat) (l : List Md.Cn) (D : List Con1) (room : Nat) : Prop where
  lab : S b = 0
  lt : b < w.heap.size
  rows : D.map Con1.c = l
  ok : ∀ d ∈ D, d.Ok S w
  cells : ∀ j u, (consCells D ++ kMarks room)[j]? = some u → w.cell? ⟨b, j, none⟩ = some u
theorem DataK.agree {S S' : Lab} {w w' : World} {b : Nat} {l : List Md.Cn} {D : List Con1} {room : Nat} (h : DataK S w b l D room) (ha : Agree S S' w w') : DataK S' w' b l D room :=
  ⟨(ha.lab b h.lt).trans h.lab, Nat.lt_of_lt_of_le h.lt ha.size, h.rows, fun d hd => (h.ok d hd).agree ha, fun j u hj => (ha.cell (a := ⟨b, j, none⟩) h.lt h.lab).trans (h.cells j u hj)⟩
theorem Con1.Ok.cn {S : Lab} {w : World} {d : Con1} (h : d.Ok S w) (hs : d.c.terms.length ≤ 100000 ∧ d.c.xs.length ≤ 100000 ∧ d.c.table.length ≤ 100000 ∧ d.c.rows.length ≤ 100000 ∧ ∀ r ∈ d.c.rows, r.length ≤ 100000) :
    CnAt w d.c (.slice (some ⟨d.bT, 0, none⟩) d.c.terms.length (d.c.terms.length + 4)) (.slice (some ⟨d.bX, 0, none⟩) d.c.xs.length (d.c.xs.length + 4)) (.slice (some ⟨d.bB, 0, none⟩) d.c.table.length (d.c.table.length + 4)) (.slice (some ⟨d.bL, 0, none⟩) d.c.rows.length (d.c.rows.length + 4)) :=
  ⟨h.t.terms hs.1, h.x.ints hs.2.1, fun a n cp h => by injection h with h1 h2 h3; omega, h.b.ints hs.2.2.1, h.l.rowsAt hs.2.2.2.1 hs.2.2.2.2⟩
theorem DataK.cons {S : Lab} {w : World} {b : Nat} {l : List Md.Cn} {D : List Con1} {room : Nat} (h : DataK S w b l D room) (hl : l.length ≤ 100000) (hs : ∀ c ∈ l, c.terms.length ≤ 100000 ∧ c.xs.length ≤ 100000 ∧ c.table.length ≤ 100000 ∧ c.rows.length ≤ 100000 ∧ ∀ r ∈ c.rows, r.length ≤ 100000) : ConsAt w (.slice (some ⟨b, 0, none⟩) l.length (l.length + room)) l := by
  refine ⟨some ⟨b, 0, none⟩, l.length + room, rfl, by unfold maxLen; omega, fun _ => ⟨b, 0, rfl, h.lt, fun j hj => ?_⟩⟩
  have hDl : D.length = l.length := by have := congrArg List.length h.rows; simpa using this
  have hjD : j < D.length := by omega
  have e : l[j] = D[j].c := by
    have h1 : (D.map Con1.c)[j]? = l[j]? := by rw [h.rows]
    rw [List.getElem?_map, List.getElem?_eq_getElem hjD, List.getElem?_eq_getElem hj] at h1
    simpa using h1.symm
  have hcell : ∀ i, i < 10 → ∀ u, (D[j].cells)[i]? = some u → w.cell? ⟨b, j * 10 + i, none⟩ = some u := fun i hi u hu => h.cells _ _ (by
    have hlen := flat10_len Con1.cells Con1.cells_len D
    unfold consCells
    rw [List.getElem?_append_left (by omega), flat10_get Con1.cells Con1.cells_len D j i hjD hi]; exact hu)
  rw [e, Nat.zero_add]
  refine ⟨_, _, _, _, (h.ok _ (List.getElem_mem hjD)).cn (by rw [← e]; exact hs _ (List.getElem_mem hj)), ?_⟩
  exact ⟨hcell 0 (by decide) _ rfl, hcell 1 (by decide) _ rfl, hcell 2 (by decide) _ rfl, hcell 3 (by decide) _ rfl, hcell 4 (by decide) _ rfl, hcell 5 (by decide) _ rfl, hcell 6 (by decide) _ rfl, hcell 7 (by decide) _ rfl, hcell 8 (by decide) _ rfl, hcell 9 (by decide) _ rfl⟩
theorem kMark_len (j : Nat) : (kMark j).length = 10 := rfl
theorem DataK.ent {S : Lab} {w : World} {b : Nat} {l : List Md.Cn} {D : List Con1} {room : Nat} (h : DataK S w b l D room) (hl : l.length ≤ 100000) (hr : room ≤ 40) (cap : Nat) : EntK w (.slice (some ⟨b, 0, none⟩) (l.length + room) cap) (.int .i64 (l.length : Int)) := by
  refine ⟨b, l.length, room, cap, rfl, rfl, hl, hr, fun j hj => ?_⟩
  have hDl : D.length = l.length := by have := congrArg List.length h.rows; simpa using this
  have hlen := flat10_len Con1.cells Con1.cells_len D
  have hcell : ∀ i, i < 10 → ∀ u, (kMark j)[i]? = some u → w.cell? ⟨b, (l.length + j) * 10 + i, none⟩ = some u := fun i hi u hu => h.cells _ _ (by
    have hg := flat10_get kMark kMark_len (List.range room) j i (by simpa using hj) hi
    rw [List.getElem_range] at hg
    unfold consCells kMarks
    rw [List.getElem?_append_right (by omega), ← hu, ← hg]; congr 1; omega)
  exact ⟨hcell 0 (by decide) _ rfl, hcell 1 (by decide) _ rfl, hcell 2 (by decide) _ rfl, hcell 3 (by decide) _ rfl, hcell 4 (by decide) _ rfl, hcell 5 (by decide) _ rfl, hcell 6 (by decide) _ rfl, hcell 7 (by decide) _ rfl, hcell 8 (by decide) _ rfl, hcell 9 (by decide) _ rfl⟩

theorem ents_I {S : Lab} {w : World} : ∀ {D : List Con1}, (∀ d ∈ D, d.Ok S w) → (∀ d ∈ D, d.c.terms.length ≤ 100000 ∧ d.c.xs.length ≤ 100000 ∧ d.c.table.length ≤ 100000 ∧ d.c.rows.length ≤ 100000 ∧ ∀ r ∈ d.c.rows, r.length ≤ 100000) → All2 (EntI w) (D.flatMap Con1.entI) (D.flatMap Con1.atI)
  | [], _, _ => trivial
  | d :: D, h, hs => by
    have hd := h d (by simp)
    have hsd := hs d (by simp)
    rw [List.flatMap_cons, List.flatMap_cons]
    refine All2.append ?_ (ents_I (fun x hx => h x (by simp [hx])) (fun x hx => hs x (by simp [hx])))
    exact All2.append ⟨hd.x.ent hsd.2.1 (by decide) _, hd.b.ent hsd.2.2.1 (by decide) _, trivial⟩ (rows_ent hd.l.ok (fun r hr => hsd.2.2.2.2 _ (by rw [← hd.l.rows]; exact List.mem_map_of_mem hr)))
theorem ents_T {S : Lab} {w : World} : ∀ {D : List Con1}, (∀ d ∈ D, d.Ok S w) → (∀ d ∈ D, d.c.terms.length ≤ 100000) → All2 (EntT w) (D.map Con1.entT) (D.map Con1.atT)
  | [], _, _ => trivial
  | d :: D, h, hs => ⟨(h d (by simp)).t.ent (hs d (by simp)) (by decide) _, ents_T (fun x hx => h x (by simp [hx])) (fun x hx => hs x (by simp [hx]))⟩
theorem ents_L {S : Lab} {w : World} : ∀ {D : List Con1}, (∀ d ∈ D, d.Ok S w) → (∀ d ∈ D, d.c.rows.length ≤ 100000) → All2 (EntL w) (D.map Con1.entL) (D.map Con1.atL)
  | [], _, _ => trivial
  | d :: D, h, hs => ⟨(h d (by simp)).l.ent (hs d (by simp)) (by decide) _, ents_L (fun x hx => h x (by simp [hx])) (fun x hx => hs x (by simp [hx]))⟩

set_option maxHeartbeats 400000 in
theorem roomVars_any (base R : Nat) (S : Lab) (F : Nat → List Value) (v : Value) (l : List Md.Vr) (w : World) (hR : RoomAt ety base R S F w) (hv : VarsAt w v l) (hl : l.length ≤ 100000) (hF0 : (F 6).length ≤ 1000000) (hF1 : (F 7).length ≤ 1000000) :
    Calls Tryz.prog 30 #[.pointer (some ⟨R, 0, none⟩), v] w (LaidV base R S F w l 40) := by
  have HL : Hid (Calls Tryz.prog 79 #[.pointer (some ⟨R, 0, none⟩), v, .int .i64 40] w (LaidV base R S F w l 40)) := layVars_any base R S F v l 40 w hR hv hl (by decide) (by decide) hF0 hF1
  obtain ⟨a, cap, rfl, _⟩ := hv.form
  clear hR hv
  go_enter Tryz.func30, Tryz.ntmps30
  go_wp2_with (go_at_call 79; refine calls_at HL.out (by with_reducible rfl) (by with_reducible rfl) ?_; rintro e w1 ⟨⟨b, cp, S1, F1, he, h⟩⟩; subst he)
  go_ret
  exact ⟨⟨b, cp, S1, F1, rfl, h⟩⟩
set_option maxHeartbeats 400000 in
theorem roomCons_any (base R : Nat) (S : Lab) (F : Nat → List Value) (v : Value) (l : List Md.Cn) (w w0 : World) (hR : RoomAt ety base R S F w) (h0 : ConsAt w0 v l) (hbw : ∀ wr S', Agree S S' w wr → Below w0.heap.size w0 wr) (hc : costK l ≤ 20000) (hF : ∀ j, (F j).length ≤ 100000) :
    Calls Tryz.prog 31 #[.pointer (some ⟨R, 0, none⟩), v] w (LaidK base R S F w l 40) := by
  have HL : Hid (Calls Tryz.prog 80 #[.pointer (some ⟨R, 0, none⟩), v, .int .i64 40] w (LaidK base R S F w l 40)) := layCons_any base R S F v l 40 w w0 hR h0 hbw hc (by decide) (by decide) hF
  obtain ⟨a, cap, rfl, _⟩ := h0.form
  clear hR h0 hbw hF
  go_enter Tryz.func31, Tryz.ntmps31
  go_wp2_with (go_at_call 80; refine calls_at HL.out (by with_reducible rfl) (by with_reducible rfl) ?_; rintro e w1 ⟨⟨b, cp, S1, F1, D, he, h⟩⟩; subst he)
  go_ret
  exact ⟨⟨b, cp, S1, F1, D, rfl, h⟩⟩
end Go.Proofs.YtmhfabnpfkkbcaaGreat

namespace Go.Proofs.YtmhfabnpfkkbcaaGreat
open Go.RowKit

/-- What Model leaves. -/
structure LaidM (base R : Nat) (S : Lab) (F : Nat → List Value) (w : World) (m : Md.Mo) (e : Ending) (w' : World) : Prop where
  out : ∃ (bV bK bG cV cK cG : Nat) (S' : Lab) (F' : Nat → List Value) (D : List Con1), e = .returned (moVal m (.slice (some ⟨bV, 0, none⟩) m.vars.length (m.vars.length + 40)) (.slice (some ⟨bK, 0, none⟩) m.cons.length (m.cons.length + 40)) (.slice (some ⟨bG, 0, none⟩) m.goal.length (m.goal.length + 40))) ∧ RoomAt ety base R S' F' w' ∧ Agree S S' w w' ∧ DataV S' w' bV m.vars 40 ∧ DataK S' w' bK m.cons D 40 ∧ DataT S' w' bG m.goal 40 ∧
    (F' 0 = F 0 ++ D.flatMap Con1.entI ∧ F' 1 = F 1 ++ D.flatMap Con1.atI ∧ F' 4 = F 4 ++ D.map Con1.entT ++ [.slice (some ⟨bG, 0, none⟩) (m.goal.length + 40) cG] ∧ F' 5 = F 5 ++ D.map Con1.atT ++ [.int .i64 (m.goal.length : Int)] ∧
     F' 6 = F 6 ++ [.slice (some ⟨bV, 0, none⟩) (m.vars.length + 40) cV] ∧ F' 7 = F 7 ++ [.int .i64 (m.vars.length : Int)] ∧ F' 16 = F 16 ++ D.map Con1.entL ∧ F' 17 = F 17 ++ D.map Con1.atL ∧ F' 18 = F 18 ++ [.slice (some ⟨bK, 0, none⟩) (m.cons.length + 40) cK] ∧ F' 19 = F 19 ++ [.int .i64 (m.cons.length : Int)]) ∧
    ∀ j, j ≠ 0 → j ≠ 1 → j ≠ 4 → j ≠ 5 → j ≠ 6 → j ≠ 7 → j ≠ 16 → j ≠ 17 → j ≠ 18 → j ≠ 19 → F' j = F j

set_option maxRecDepth 10000 in
set_option maxHeartbeats 4000000 in
theorem roomModel_any (base R : Nat) (S : Lab) (F : Nat → List Value) (m : Md.Mo) (vv vc vg : Value) (w w0 : World) (hR : RoomAt ety base R S F w) (h0 : MoAt w0 m vv vc vg) (hbw : ∀ wr S', Agree S S' w wr → Below w0.heap.size w0 wr) (hc : costM m ≤ 20000) (hF : ∀ j, (F j).length ≤ 10000) :
    Calls Tryz.prog 6 #[.pointer (some ⟨R, 0, none⟩), moVal m vv vc vg] w (LaidM base R S F w m) := by
  have HM : Hid (MoAt w0 m vv vc vg) := h0
  have HBW : Hid (∀ wr S', Agree S S' w wr → Below w0.heap.size w0 wr) := hbw
  obtain ⟨va, vp, rfl, hvm⟩ := h0.v.form
  obtain ⟨ca, cp, rfl, hcm⟩ := h0.c.form
  obtain ⟨ga, gp, rfl, hgm⟩ := h0.g.form
  have HF : Hid (∀ j, (F j).length ≤ 10000) := hF
  have HCo : Hid (m.vars.length ≤ 100000 ∧ costK m.cons ≤ 20000 ∧ m.goal.length ≤ 100000) := by
    have h1 : ∀ l : List Md.Vr, l.length ≤ costV l := by
      intro l
      induction l with
      | nil => simp
      | cons c l ih => simp only [costV, List.length_cons]; omega
    have := h1 m.vars
    unfold costM at hc
    exact ⟨by omega, by omega, by omega⟩
  obtain ⟨W, hW⟩ : ∃ W, (w.alloc (.cells #[.slice va m.vars.length vp, .slice ca m.cons.length cp, .bool m.has, .slice ga m.goal.length gp] 26)).alloc (.cells #[.slice none 0 0, .slice none 0 0, .bool false, .slice none 0 0] 26) = W := ⟨_, rfl⟩
  have hbW : Below w.heap.size w W := by rw [← hW]; exact ((Below.refl _ _).alloc (Nat.le_refl _) _).alloc (by simp) _
  have hsz : W.heap.size = w.heap.size + 1 + 1 := by rw [← hW]; simp
  have hN : W.heap[w.heap.size]? = some (.cells #[.slice va m.vars.length vp, .slice ca m.cons.length cp, .bool m.has, .slice ga m.goal.length gp] 26) := by
    rw [← hW, Below.heap_alloc _ _ _ (by simp)]; exact heap_alloc_new w _
  have hZ : W.heap[w.heap.size + 1]? = some (.cells #[.slice none 0 0, .slice none 0 0, .bool false, .slice none 0 0] 26) := by
    rw [← hW]
    have := heap_alloc_new (w.alloc (.cells #[.slice va m.vars.length vp, .slice ca m.cons.length cp, .bool m.has, .slice ga m.goal.length gp] 26)) (.cells #[.slice none 0 0, .slice none 0 0, .bool false, .slice none 0 0] 26)
    simpa using this
  have HR1 : Hid (RoomAt ety base R (lab2 S w.heap.size) F W) := (hR.kept hbW).lab2 (by omega) hR.bas (hR.top _ (Nat.le_refl _)) (hR.top _ (by omega))
  have HA1 : Hid (Agree S (lab2 S w.heap.size) w W) := agree_lab2 hbW
  have HLb : Hid (150 ≤ lab2 S w.heap.size w.heap.size ∧ 150 ≤ lab2 S w.heap.size (w.heap.size + 1)) := by
    show _ ∧ _
    unfold lab2; simp
  have HZ : Hid (W.heap[w.heap.size + 1]? = some (.cells #[.slice none 0 0, .slice none 0 0, .bool false, .slice none 0 0] 26)) := hZ
  have HN : Hid (W.heap[w.heap.size]? = some (.cells #[.slice va m.vars.length vp, .slice ca m.cons.length cp, .bool m.has, .slice ga m.goal.length gp] 26)) := hN
  have hNI : w.heap.size + 1 < W.heap.size := by omega
  obtain ⟨⟨p0, p1, p2, p3⟩, hfz⟩ := box4 hN
  generalize lab2 S w.heap.size = S1 at *
  clear hR h0 hbw hF hc hbW hsz hN hZ
  unfold moVal
  go_enter Tryz.func6, Tryz.ntmps6
  go_wp2_with fail
  refine calls_at (roomVars_any base R S1 F _ m.vars _ HR1.out (HM.out.v.below (HBW.out _ _ HA1.out)) HCo.out.1 (by have := HF.out 6; omega) (by have := HF.out 7; omega)) (by with_reducible rfl) (by with_reducible rfl) ?_
  rintro e w2 ⟨⟨bV, cV, S2, F2, he, hbT, hbT1, hST, hR2, f6, f7, fo2, hA2, hcT, hh2⟩⟩
  subst he
  obtain ⟨V2, hV2⟩ : ∃ V, w2.setCell ⟨w.heap.size, 0, none⟩ (.slice (some ⟨bV, 0, none⟩) m.vars.length (m.vars.length + 40)) = V := ⟨_, rfl⟩
  obtain ⟨hNp, hRn, hAn, hAx, hAy, hNn, hZn, hLn⟩ := box_step HA1.out hA2 hR2 hh2 HN.out HZ.out HLb.out 0 _ hV2
  have HR2 : Hid (RoomAt ety base R S2 F2 V2) := hRn
  have HA2 : Hid (Agree S S2 w V2) := hAn
  have HN2 : Hid (V2.heap[w.heap.size]? = some (.cells #[.slice (some ⟨bV, 0, none⟩) m.vars.length (m.vars.length + 40), .slice ca m.cons.length cp, .bool m.has, .slice ga m.goal.length gp] 26)) := hNn
  have HZ2 : Hid (V2.heap[w.heap.size + 1]? = some (.cells #[.slice none 0 0, .slice none 0 0, .bool false, .slice none 0 0] 26)) := hZn
  have HL2 : Hid (150 ≤ S2 w.heap.size ∧ 150 ≤ S2 (w.heap.size + 1)) := hLn
  have HDV : Hid (DataV S2 V2 bV m.vars 40) := DataV.agree ⟨hST, hbT1, hcT⟩ hAx
  have HF2 : Hid (F2 6 = F 6 ++ [.slice (some ⟨bV, 0, none⟩) (m.vars.length + 40) cV] ∧ F2 7 = F 7 ++ [.int .i64 (m.vars.length : Int)] ∧ ∀ j, j ≠ 6 → j ≠ 7 → F2 j = F j) := ⟨f6, f7, fo2⟩
  have HFs : Hid (∀ j, (F2 j).length ≤ 100000) := fun j => by
    have := HF.out j
    by_cases h6 : j = 6
    · rw [h6, f6]; simp; have := HF.out 6; omega
    · by_cases h7 : j = 7
      · rw [h7, f7]; simp; have := HF.out 7; omega
      · rw [fo2 j h6 h7]; omega
  clear p0 p1 p2 p3 hfz hRn hAn hAx hAy hNn hZn hLn hbT hbT1 hST hR2 f6 f7 fo2 hA2 hcT hh2 hNI
  obtain ⟨⟨q0, q1, q2, q3⟩, hfq⟩ := box4 hNp
  obtain ⟨⟨p0, p1, p2, p3⟩, hfz⟩ := box4 HN2.out
  have hNI : w.heap.size + 1 < V2.heap.size := (Array.getElem?_eq_some_iff.1 HZ2.out).1
  go_wp2_with fail
  refine calls_at (roomCons_any base R S2 F2 _ m.cons _ w0 HR2.out HM.out.c (fun wr S' hA => HBW.out _ _ (HA2.out.trans hA)) HCo.out.2.1 HFs.out) (by with_reducible rfl) (by with_reducible rfl) ?_
  rintro e w3 ⟨⟨bK, cK, S3, F3, D, he, hR3, hA3, hbK, hSK, hDc, hDok, hcK, hfK, foK, hh3⟩⟩
  subst he
  obtain ⟨V3, hV3⟩ : ∃ V, w3.setCell ⟨w.heap.size, 1, none⟩ (.slice (some ⟨bK, 0, none⟩) m.cons.length (m.cons.length + 40)) = V := ⟨_, rfl⟩
  obtain ⟨hNp3, hRn, hAn, hAx, hAy, hNn, hZn, hLn⟩ := box_step HA2.out hA3 hR3 hh3 HN2.out HZ2.out HL2.out 1 _ hV3
  have HR3 : Hid (RoomAt ety base R S3 F3 V3) := hRn
  have HA3 : Hid (Agree S S3 w V3) := hAn
  have HN3 : Hid (V3.heap[w.heap.size]? = some (.cells #[.slice (some ⟨bV, 0, none⟩) m.vars.length (m.vars.length + 40), .slice (some ⟨bK, 0, none⟩) m.cons.length (m.cons.length + 40), .bool m.has, .slice ga m.goal.length gp] 26)) := hNn
  have HZ3 : Hid (V3.heap[w.heap.size + 1]? = some (.cells #[.slice none 0 0, .slice none 0 0, .bool false, .slice none 0 0] 26)) := hZn
  have HL3 : Hid (150 ≤ S3 w.heap.size ∧ 150 ≤ S3 (w.heap.size + 1)) := hLn
  have HDK : Hid (DataK S3 V3 bK m.cons D 40) := DataK.agree ⟨hSK, hbK, hDc, hDok, hcK⟩ hAx
  have HDV3 : Hid (DataV S3 V3 bV m.vars 40) := HDV.out.agree hAy
  have HF3 : Hid ((F3 0 = F2 0 ++ D.flatMap Con1.entI ∧ F3 1 = F2 1 ++ D.flatMap Con1.atI ∧ F3 4 = F2 4 ++ D.map Con1.entT ∧ F3 5 = F2 5 ++ D.map Con1.atT ∧ F3 16 = F2 16 ++ D.map Con1.entL ∧ F3 17 = F2 17 ++ D.map Con1.atL ∧ F3 18 = F2 18 ++ [.slice (some ⟨bK, 0, none⟩) (m.cons.length + 40) cK] ∧ F3 19 = F2 19 ++ [.int .i64 (m.cons.length : Int)]) ∧ ∀ j, j ≠ 0 → j ≠ 1 → j ≠ 4 → j ≠ 5 → j ≠ 16 → j ≠ 17 → j ≠ 18 → j ≠ 19 → F3 j = F2 j) := ⟨hfK, foK⟩
  have HDl : Hid (D.length ≤ 20000) := by
    have h1 := ents_le D (fun d hd => by have := congrArg List.length (hDok d hd).l.rows; simpa using this)
    rw [hDc] at h1
    have := HCo.out.2.1
    exact Nat.le_trans h1.2.2 this
  clear p0 p1 p2 p3 q0 q1 q2 q3 hfz hfq hRn hAn hAx hAy hNn hZn hLn hR3 hA3 hbK hSK hDc hDok hcK hfK foK hh3 hNI HR2 HN2 HZ2 HL2 HDV
  obtain ⟨⟨q0, q1, q2, q3⟩, hfq⟩ := box4 hNp3
  obtain ⟨⟨p0, p1, p2, p3⟩, hfz⟩ := box4 HN3.out
  have hNI : w.heap.size + 1 < V3.heap.size := (Array.getElem?_eq_some_iff.1 HZ3.out).1
  go_wp2_with fail
  refine calls_at (roomTerms_any base R S3 F3 _ m.goal _ HR3.out (HM.out.g.below (HBW.out _ _ HA3.out)) HCo.out.2.2 (by rw [HF3.out.1.2.2.1]; simp; have := HFs.out 4; have := HDl.out; omega) (by rw [HF3.out.1.2.2.2.1]; simp; have := HFs.out 5; have := HDl.out; omega)) (by with_reducible rfl) (by with_reducible rfl) ?_
  rintro e w4 ⟨⟨bG, cG, S4, F4, he, hbT, hbT1, hST, hR4, f4, f5, fo4, hA4, hcT, hh4⟩⟩
  subst he
  obtain ⟨V4, hV4⟩ : ∃ V, w4.setCell ⟨w.heap.size, 3, none⟩ (.slice (some ⟨bG, 0, none⟩) m.goal.length (m.goal.length + 40)) = V := ⟨_, rfl⟩
  obtain ⟨hNp4, hRn, hAn, hAx, hAy, hNn, hZn, hLn⟩ := box_step HA3.out hA4 hR4 hh4 HN3.out HZ3.out HL3.out 3 _ hV4
  have HR4 : Hid (RoomAt ety base R S4 F4 V4) := hRn
  have HA4 : Hid (Agree S S4 w V4) := hAn
  have HN4 : Hid (V4.heap[w.heap.size]? = some (.cells #[.slice (some ⟨bV, 0, none⟩) m.vars.length (m.vars.length + 40), .slice (some ⟨bK, 0, none⟩) m.cons.length (m.cons.length + 40), .bool m.has, .slice (some ⟨bG, 0, none⟩) m.goal.length (m.goal.length + 40)] 26)) := hNn
  have HZ4 : Hid (V4.heap[w.heap.size + 1]? = some (.cells #[.slice none 0 0, .slice none 0 0, .bool false, .slice none 0 0] 26)) := hZn
  have HL4 : Hid (150 ≤ S4 w.heap.size ∧ 150 ≤ S4 (w.heap.size + 1)) := hLn
  have HDG : Hid (DataT S4 V4 bG m.goal 40) := DataT.agree ⟨hST, hbT1, hcT⟩ hAx
  have HDK4 : Hid (DataK S4 V4 bK m.cons D 40) := HDK.out.agree hAy
  have HDV4 : Hid (DataV S4 V4 bV m.vars 40) := HDV3.out.agree hAy
  have HF4 : Hid (F4 4 = F3 4 ++ [.slice (some ⟨bG, 0, none⟩) (m.goal.length + 40) cG] ∧ F4 5 = F3 5 ++ [.int .i64 (m.goal.length : Int)] ∧ ∀ j, j ≠ 4 → j ≠ 5 → F4 j = F3 j) := ⟨f4, f5, fo4⟩
  clear p0 p1 p2 p3 q0 q1 q2 q3 hfz hfq hRn hAn hAx hAy hNn hZn hLn hbT hbT1 hST hR4 f4 f5 fo4 hA4 hcT hh4 hNI HR3 HN3 HZ3 HL3 HDK HDV3
  obtain ⟨⟨q0, q1, q2, q3⟩, hfq⟩ := box4 hNp4
  obtain ⟨⟨p0, p1, p2, p3⟩, hfz⟩ := box4 HN4.out
  obtain ⟨⟨z0, z1, z2, z3⟩, hfzz⟩ := box4 HZ4.out
  have hNI : w.heap.size + 1 < V4.heap.size := (Array.getElem?_eq_some_iff.1 HZ4.out).1
  go_wp2_with fail
  refine bodyPost_ret (v := .agg #[.slice (some ⟨bV, 0, none⟩) m.vars.length (m.vars.length + 40), .slice (some ⟨bK, 0, none⟩) m.cons.length (m.cons.length + 40), .bool m.has, .slice (some ⟨bG, 0, none⟩) m.goal.length (m.goal.length + 40)]) (by simp [results, Tryz.results6, go_sem, World.cell?, World.setCell, Array.getElem?_modify, HZ4.out]) rfl ⟨⟨bV, bK, bG, cV, cK, cG, S4, F4, D, rfl, (((HR4.out.set HL4.out.2 0 _).set HL4.out.2 1 _).set HL4.out.2 2 _).set HL4.out.2 3 _, (((HA4.out.set HL4.out.2 0 _).set HL4.out.2 1 _).set HL4.out.2 2 _).set HL4.out.2 3 _, ?_, ?_, ?_, ⟨?_, ?_, ?_, ?_, ?_, ?_, ?_, ?_, ?_, ?_⟩, ?_⟩⟩
  · exact HDV4.out.agree (((((Agree.refl S4 V4).set HL4.out.2 0 _).set HL4.out.2 1 _).set HL4.out.2 2 _).set HL4.out.2 3 _)
  · exact HDK4.out.agree (((((Agree.refl S4 V4).set HL4.out.2 0 _).set HL4.out.2 1 _).set HL4.out.2 2 _).set HL4.out.2 3 _)
  · exact HDG.out.agree (((((Agree.refl S4 V4).set HL4.out.2 0 _).set HL4.out.2 1 _).set HL4.out.2 2 _).set HL4.out.2 3 _)
  · rw [HF4.out.2.2 0 (by decide) (by decide), HF3.out.1.1, HF2.out.2.2 0 (by decide) (by decide)]
  · rw [HF4.out.2.2 1 (by decide) (by decide), HF3.out.1.2.1, HF2.out.2.2 1 (by decide) (by decide)]
  · rw [HF4.out.1, HF3.out.1.2.2.1, HF2.out.2.2 4 (by decide) (by decide)]
  · rw [HF4.out.2.1, HF3.out.1.2.2.2.1, HF2.out.2.2 5 (by decide) (by decide)]
  · rw [HF4.out.2.2 6 (by decide) (by decide), HF3.out.2 6 (by decide) (by decide) (by decide) (by decide) (by decide) (by decide) (by decide) (by decide), HF2.out.1]
  · rw [HF4.out.2.2 7 (by decide) (by decide), HF3.out.2 7 (by decide) (by decide) (by decide) (by decide) (by decide) (by decide) (by decide) (by decide), HF2.out.2.1]
  · rw [HF4.out.2.2 16 (by decide) (by decide), HF3.out.1.2.2.2.2.1, HF2.out.2.2 16 (by decide) (by decide)]
  · rw [HF4.out.2.2 17 (by decide) (by decide), HF3.out.1.2.2.2.2.2.1, HF2.out.2.2 17 (by decide) (by decide)]
  · rw [HF4.out.2.2 18 (by decide) (by decide), HF3.out.1.2.2.2.2.2.2.1, HF2.out.2.2 18 (by decide) (by decide)]
  · rw [HF4.out.2.2 19 (by decide) (by decide), HF3.out.1.2.2.2.2.2.2.2, HF2.out.2.2 19 (by decide) (by decide)]
  · intro j a0 a1 a4 a5 a6 a7 a16 a17 a18 a19
    rw [HF4.out.2.2 j a4 a5, HF3.out.2 j a0 a1 a4 a5 a16 a17 a18 a19, HF2.out.2.2 j a6 a7]
end Go.Proofs.YtmhfabnpfkkbcaaGreat

namespace Go.Proofs.YtmhfabnpfkkbcaaGreat
open Go.RowKit

theorem EntV.below {w w' : World} (hb : Below w.heap.size w w') (x a : Value) (h : EntV w x a) : EntV w' x a := by
  obtain ⟨b, n, room, cap, h1, h2, h3, h4, h5⟩ := h
  exact ⟨b, n, room, cap, h1, h2, h3, h4, fun j hj => ⟨cell_below hb (h5 j hj).1, cell_below hb (h5 j hj).2.1, cell_below hb (h5 j hj).2.2⟩⟩
theorem EntK.below {w w' : World} (hb : Below w.heap.size w w') (x a : Value) (h : EntK w x a) : EntK w' x a := by
  obtain ⟨b, n, room, cap, h1, h2, h3, h4, h5⟩ := h
  refine ⟨b, n, room, cap, h1, h2, h3, h4, fun j hj => ?_⟩
  obtain ⟨k0, k1, k2, k3, k4, k5, k6, k7, k8, k9⟩ := h5 j hj
  exact ⟨cell_below hb k0, cell_below hb k1, cell_below hb k2, cell_below hb k3, cell_below hb k4, cell_below hb k5, cell_below hb k6, cell_below hb k7, cell_below hb k8, cell_below hb k9⟩
/-- All that Hold looks at. -/
structure HoldOkM (base R : Nat) (S : Lab) (F : Nat → List Value) (w : World) : Prop where
  room : RoomAt ety base R S F w
  gi : All2 (EntI w) (F 0) (F 1)
  gt : All2 (EntT w) (F 4) (F 5)
  gv : All2 (EntV w) (F 6) (F 7)
  gl : All2 (EntL w) (F 16) (F 17)
  gk : All2 (EntK w) (F 18) (F 19)
  li : (F 0).length ≤ 1000000
  lt : (F 4).length ≤ 1000000
  lv : (F 6).length ≤ 1000000
  ll : (F 16).length ≤ 1000000
  lk : (F 18).length ≤ 1000000
  nil : ∀ j, j ≠ 0 → j ≠ 1 → j ≠ 4 → j ≠ 5 → j ≠ 6 → j ≠ 7 → j ≠ 16 → j ≠ 17 → j ≠ 18 → j ≠ 19 → F j = []
theorem HoldOkM.below {base R : Nat} {S : Lab} {F : Nat → List Value} {w w' : World} (h : HoldOkM base R S F w) (hb : Below w.heap.size w w') : HoldOkM base R S F w' :=
  ⟨h.room.kept hb, h.gi.imp (EntI.below hb), h.gt.imp (EntT.below hb), h.gv.imp (EntV.below hb), h.gl.imp (EntL.below hb), h.gk.imp (EntK.below hb), h.li, h.lt, h.lv, h.ll, h.lk, h.nil⟩
theorem HoldOkM.next {base R : Nat} {S : Lab} {F : Nat → List Value} {w w1 w2 : World} (h : HoldOkM base R S F w1 ∧ Below w.heap.size w w1) (hb : Below w1.heap.size w1 w2) : HoldOkM base R S F w2 ∧ Below w.heap.size w w2 :=
  ⟨h.1.below hb, h.2.trans (hb.mono h.2.size)⟩

set_option maxRecDepth 10000 in
set_option maxHeartbeats 1000000 in
theorem holdM_any (base R : Nat) (S : Lab) (F : Nat → List Value) (w : World) (h : HoldOkM base R S F w) : Calls Tryz.prog 22 #[.pointer (some ⟨R, 0, none⟩)] w fun e w' => e = .returned (.bool true) ∧ Below w.heap.size w w' := by
  have K0 : Hid (HoldOkM base R S F w ∧ Below w.heap.size w w) := ⟨h, Below.refl _ _⟩
  clear h
  go_enter Tryz.func22, Tryz.ntmps22
  go_wp2_with (first
    | (go_at_call 57; refine calls_at (holdInts_any base R S F _ K0.out.1.room K0.out.1.gi K0.out.1.li) (by with_reducible rfl) (by with_reducible rfl) ?_; rintro e w1 ⟨rfl, hb⟩; have K1 : Hid (HoldOkM base R S F w1 ∧ Below w.heap.size w w1) := HoldOkM.next K0.out hb; clear hb)
    | (go_at_call 58; refine calls_at (hold58 base R S F _ K1.out.1.room (K1.out.1.nil 2 (by decide) (by decide) (by decide) (by decide) (by decide) (by decide) (by decide) (by decide) (by decide) (by decide))) (by with_reducible rfl) (by with_reducible rfl) ?_; rintro e w2 ⟨rfl, hb⟩; have K2 : Hid (HoldOkM base R S F w2 ∧ Below w.heap.size w w2) := HoldOkM.next K1.out hb; clear hb)
    | (go_at_call 59; refine calls_at (holdTerms_any base R S F _ K2.out.1.room K2.out.1.gt K2.out.1.lt) (by with_reducible rfl) (by with_reducible rfl) ?_; rintro e w3 ⟨rfl, hb⟩; have K3 : Hid (HoldOkM base R S F w3 ∧ Below w.heap.size w w3) := HoldOkM.next K2.out hb; clear hb)
    | (go_at_call 60; refine calls_at (holdVars_any base R S F _ K3.out.1.room K3.out.1.gv K3.out.1.lv) (by with_reducible rfl) (by with_reducible rfl) ?_; rintro e w4 ⟨rfl, hb⟩; have K4 : Hid (HoldOkM base R S F w4 ∧ Below w.heap.size w w4) := HoldOkM.next K3.out hb; clear hb)
    | (go_at_call 61; refine calls_at (hold61 base R S F _ K4.out.1.room (K4.out.1.nil 8 (by decide) (by decide) (by decide) (by decide) (by decide) (by decide) (by decide) (by decide) (by decide) (by decide))) (by with_reducible rfl) (by with_reducible rfl) ?_; rintro e w5 ⟨rfl, hb⟩; have K5 : Hid (HoldOkM base R S F w5 ∧ Below w.heap.size w w5) := HoldOkM.next K4.out hb; clear hb)
    | (go_at_call 62; refine calls_at (hold62 base R S F _ K5.out.1.room (K5.out.1.nil 10 (by decide) (by decide) (by decide) (by decide) (by decide) (by decide) (by decide) (by decide) (by decide) (by decide))) (by with_reducible rfl) (by with_reducible rfl) ?_; rintro e w6 ⟨rfl, hb⟩; have K6 : Hid (HoldOkM base R S F w6 ∧ Below w.heap.size w w6) := HoldOkM.next K5.out hb; clear hb)
    | (go_at_call 63; refine calls_at (hold63 base R S F _ K6.out.1.room (K6.out.1.nil 12 (by decide) (by decide) (by decide) (by decide) (by decide) (by decide) (by decide) (by decide) (by decide) (by decide))) (by with_reducible rfl) (by with_reducible rfl) ?_; rintro e w7 ⟨rfl, hb⟩; have K7 : Hid (HoldOkM base R S F w7 ∧ Below w.heap.size w w7) := HoldOkM.next K6.out hb; clear hb)
    | (go_at_call 64; refine calls_at (hold64 base R S F _ K7.out.1.room (K7.out.1.nil 14 (by decide) (by decide) (by decide) (by decide) (by decide) (by decide) (by decide) (by decide) (by decide) (by decide))) (by with_reducible rfl) (by with_reducible rfl) ?_; rintro e w8 ⟨rfl, hb⟩; have K8 : Hid (HoldOkM base R S F w8 ∧ Below w.heap.size w w8) := HoldOkM.next K7.out hb; clear hb)
    | (go_at_call 65; refine calls_at (holdLists_any base R S F _ K8.out.1.room K8.out.1.gl K8.out.1.ll) (by with_reducible rfl) (by with_reducible rfl) ?_; rintro e w9 ⟨rfl, hb⟩; have K9 : Hid (HoldOkM base R S F w9 ∧ Below w.heap.size w w9) := HoldOkM.next K8.out hb; clear hb)
    | (go_at_call 66; refine calls_at (holdCons_any base R S F _ K9.out.1.room K9.out.1.gk K9.out.1.lk) (by with_reducible rfl) (by with_reducible rfl) ?_; rintro e w10 ⟨rfl, hb⟩; have K10 : Hid (HoldOkM base R S F w10 ∧ Below w.heap.size w w10) := HoldOkM.next K9.out hb; clear hb)
    | (go_at_call 67; refine calls_at (hold67 base R S F _ K10.out.1.room (K10.out.1.nil 20 (by decide) (by decide) (by decide) (by decide) (by decide) (by decide) (by decide) (by decide) (by decide) (by decide))) (by with_reducible rfl) (by with_reducible rfl) ?_; rintro e w11 ⟨rfl, hb⟩; have K11 : Hid (HoldOkM base R S F w11 ∧ Below w.heap.size w w11) := HoldOkM.next K10.out hb; clear hb)
    | (go_at_call 68; refine calls_at (hold68 base R S F _ K11.out.1.room (K11.out.1.nil 22 (by decide) (by decide) (by decide) (by decide) (by decide) (by decide) (by decide) (by decide) (by decide) (by decide))) (by with_reducible rfl) (by with_reducible rfl) ?_; rintro e w12 ⟨rfl, hb⟩; have K12 : Hid (HoldOkM base R S F w12 ∧ Below w.heap.size w w12) := HoldOkM.next K11.out hb; clear hb)
    | (go_at_call 69; refine calls_at (hold69 base R S F _ K12.out.1.room (K12.out.1.nil 24 (by decide) (by decide) (by decide) (by decide) (by decide) (by decide) (by decide) (by decide) (by decide) (by decide))) (by with_reducible rfl) (by with_reducible rfl) ?_; rintro e w13 ⟨rfl, hb⟩; have K13 : Hid (HoldOkM base R S F w13 ∧ Below w.heap.size w w13) := HoldOkM.next K12.out hb; clear hb)
    | (go_at_call 70; refine calls_at (hold70 base R S F _ K13.out.1.room (K13.out.1.nil 26 (by decide) (by decide) (by decide) (by decide) (by decide) (by decide) (by decide) (by decide) (by decide) (by decide))) (by with_reducible rfl) (by with_reducible rfl) ?_; rintro e w14 ⟨rfl, hb⟩; have K14 : Hid (HoldOkM base R S F w14 ∧ Below w.heap.size w w14) := HoldOkM.next K13.out hb; clear hb))
  go_ret
  exact ⟨rfl, K14.out.2⟩


/-- What Model and Ints leave, one behind the other. -/
structure LaidP (base R : Nat) (m : Md.Mo) (vs : List Int) (bV bK bG bX : Nat) (w : World) : Prop where
  hold : ∃ S F, HoldOkM base R S F w
  mo : MoAt w m (.slice (some ⟨bV, 0, none⟩) m.vars.length (m.vars.length + 40)) (.slice (some ⟨bK, 0, none⟩) m.cons.length (m.cons.length + 40)) (.slice (some ⟨bG, 0, none⟩) m.goal.length (m.goal.length + 40))
  vals : IntsAt w (.slice (some ⟨bX, 0, none⟩) vs.length (vs.length + 40)) vs
theorem LaidP.below {base R : Nat} {m : Md.Mo} {vs : List Int} {bV bK bG bX : Nat} {w w' : World} (h : LaidP base R m vs bV bK bG bX w) (hb : Below w.heap.size w w') : LaidP base R m vs bV bK bG bX w' := by
  obtain ⟨S, F, hh⟩ := h.hold
  exact ⟨⟨S, F, hh.below hb⟩, h.mo.below hb, h.vals.below hb⟩
theorem costV_len : ∀ l : List Md.Vr, l.length ≤ costV l
  | [] => Nat.zero_le _
  | _ :: l => by have := costV_len l; simp only [costV, List.length_cons]; omega
theorem costK_len : ∀ l : List Md.Cn, l.length ≤ costK l
  | [] => Nat.zero_le _
  | _ :: l => by have := costK_len l; simp only [costK, costC, List.length_cons]; omega

theorem laidP_of {base R : Nat} {S5 S6 : Lab} {F5 F6 : Nat → List Value} {w5 w6 : World} {m : Md.Mo} {vs : List Int} {bV bK bG bX cV cK cG cX : Nat} {D : List Con1}
    (hcost : costM m + vs.length ≤ 20000) (hnm : ∀ x ∈ m.vars, x.name.size ≤ maxLen)
    (hR6 : RoomAt ety base R S6 F6 w6) (hA6 : Agree S5 S6 w5 w6) (dV : DataV S5 w5 bV m.vars 40) (dK : DataK S5 w5 bK m.cons D 40) (dG : DataT S5 w5 bG m.goal 40)
    (f0 : F5 0 = D.flatMap Con1.entI) (f1 : F5 1 = D.flatMap Con1.atI) (f4 : F5 4 = D.map Con1.entT ++ [.slice (some ⟨bG, 0, none⟩) (m.goal.length + 40) cG]) (f5 : F5 5 = D.map Con1.atT ++ [.int .i64 (m.goal.length : Int)])
    (f6 : F5 6 = [.slice (some ⟨bV, 0, none⟩) (m.vars.length + 40) cV]) (f7 : F5 7 = [.int .i64 (m.vars.length : Int)]) (f16 : F5 16 = D.map Con1.entL) (f17 : F5 17 = D.map Con1.atL) (f18 : F5 18 = [.slice (some ⟨bK, 0, none⟩) (m.cons.length + 40) cK]) (f19 : F5 19 = [.int .i64 (m.cons.length : Int)])
    (fn : ∀ j, j ≠ 0 → j ≠ 1 → j ≠ 4 → j ≠ 5 → j ≠ 6 → j ≠ 7 → j ≠ 16 → j ≠ 17 → j ≠ 18 → j ≠ 19 → F5 j = [])
    (g0 : F6 0 = F5 0 ++ [.slice (some ⟨bX, 0, none⟩) (vs.length + 40) cX]) (g1 : F6 1 = F5 1 ++ [.int .i64 (vs.length : Int)]) (gn : ∀ j, j ≠ 0 → j ≠ 1 → F6 j = F5 j)
    (hb6 : bX < w6.heap.size) (hl6 : S6 bX = 0) (hc6 : ∀ j u, (laidInts vs 40)[j]? = some u → w6.cell? ⟨bX, j, none⟩ = some u) : LaidP base R m vs bV bK bG bX w6 := by
  have hcv := costV_len m.vars
  have hck := costK_len m.cons
  have hcm : costV m.vars + costK m.cons + m.goal.length + vs.length ≤ 20000 := by unfold costM at hcost; omega
  have hs : ∀ c ∈ m.cons, c.terms.length ≤ 100000 ∧ c.xs.length ≤ 100000 ∧ c.table.length ≤ 100000 ∧ c.rows.length ≤ 100000 ∧ ∀ r ∈ c.rows, r.length ≤ 100000 := fun c hc => (costC_bounds (n := 0) (by have := costK_mem hc; omega)).1
  have dX : DataI S6 w6 bX vs 40 := ⟨hl6, hb6, hc6⟩
  have eV := dV.agree hA6
  have eK := dK.agree hA6
  have eG := dG.agree hA6
  have hsD : ∀ d ∈ D, d.c.terms.length ≤ 100000 ∧ d.c.xs.length ≤ 100000 ∧ d.c.table.length ≤ 100000 ∧ d.c.rows.length ≤ 100000 ∧ ∀ r ∈ d.c.rows, r.length ≤ 100000 := fun d hd => hs _ (by rw [← eK.rows]; exact List.mem_map_of_mem hd)
  have hle := ents_le D (fun d hd => by have := congrArg List.length (eK.ok d hd).l.rows; simpa using this)
  rw [eK.rows] at hle
  refine ⟨⟨S6, F6, ⟨hR6, ?_, ?_, ?_, ?_, ?_, ?_, ?_, ?_, ?_, ?_, ?_⟩⟩, ⟨eV.vars (by omega) hnm, fun a n cp h => by injection h with h1 h2 h3; omega, eK.cons (by omega) hs, eG.terms (by omega)⟩, dX.ints (by omega)⟩
  · rw [g0, g1, f0, f1]
    exact All2.append (ents_I eK.ok hsD) ⟨dX.ent (by omega) (by decide) _, trivial⟩
  · rw [gn 4 (by decide) (by decide), gn 5 (by decide) (by decide), f4, f5]
    exact All2.append (ents_T eK.ok (fun d hd => (hsD d hd).1)) ⟨eG.ent (by omega) (by decide) _, trivial⟩
  · rw [gn 6 (by decide) (by decide), gn 7 (by decide) (by decide), f6, f7]
    exact ⟨eV.ent (by omega) (by decide) _, trivial⟩
  · rw [gn 16 (by decide) (by decide), gn 17 (by decide) (by decide), f16, f17]
    exact ents_L eK.ok (fun d hd => (hsD d hd).2.2.2.1)
  · rw [gn 18 (by decide) (by decide), gn 19 (by decide) (by decide), f18, f19]
    exact ⟨eK.ent (by omega) (by decide) _, trivial⟩
  · rw [g0, f0]; simp only [List.length_append, List.length_cons, List.length_nil]; omega
  · rw [gn 4 (by decide) (by decide), f4]; simp only [List.length_append, List.length_cons, List.length_nil, List.length_map]; omega
  · rw [gn 6 (by decide) (by decide), f6]; simp
  · rw [gn 16 (by decide) (by decide), f16]; simp only [List.length_map]; omega
  · rw [gn 18 (by decide) (by decide), f18]; simp
  · intro j a0 a1 a4 a5 a6 a7 a16 a17 a18 a19
    rw [gn j a0 a1]; exact fn j a0 a1 a4 a5 a6 a7 a16 a17 a18 a19
end Go.Proofs.YtmhfabnpfkkbcaaGreat
