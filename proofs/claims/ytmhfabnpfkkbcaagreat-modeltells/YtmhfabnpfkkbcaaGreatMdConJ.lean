/-
  Put together: MdCon0, MdCon.
-/
import Derived.Test.YtmhfabnpfkkbcaaGreatMdLayJ
namespace Go.Proofs.YtmhfabnpfkkbcaaGreat
open Go.RowKit

theorem RoomAt.set {ety : Nat → TypeId} {base R : Nat} {S : Lab} {F : Nat → List Value} {w : World} (h : RoomAt ety base R S F w) {N : Nat} (hN : 150 ≤ S N) (i : Nat) (v : Value) : RoomAt ety base R S F (w.setCell ⟨N, i, none⟩ v) := by
  have hsz : (w.setCell ⟨N, i, none⟩ v).heap.size = w.heap.size := by simp [World.setCell]
  have hb : ∀ k, k ≠ N → (w.setCell ⟨N, i, none⟩ v).heap[k]? = w.heap[k]? := fun k hk => Below.heap_setCell w ⟨N, i, none⟩ v k hk
  have hRN : R ≠ N := fun e => by rw [← e, h.lab] at hN; omega
  refine ⟨h.lab, fun k hk => h.top k (by rwa [hsz] at hk), h.low, by rw [hsz]; exact h.bas, ?_, fun f hf => ?_⟩
  · obtain ⟨cs, t, h1, h2⟩ := h.blk
    exact ⟨cs, t, (hb R hRN).trans h1, h2⟩
  · obtain ⟨u, h1, h2, h3⟩ := h.field f hf
    exact ⟨u, (World.cell?_of_block (a := ⟨R, f, none⟩) (hb R hRN)).trans h1, ownsRow_same h2 (fun g hg' => hb g (fun e => by have := h3 g hg'; rw [e] at this; omega)), h3⟩
theorem Agree.set {S S' : Lab} {w w1 : World} (h : Agree S S' w w1) {N : Nat} (hN : 150 ≤ S' N) (i : Nat) (v : Value) : Agree S S' w (w1.setCell ⟨N, i, none⟩ v) := by
  refine ⟨h.os, h.tape, h.output, by simpa [World.setCell] using h.size, h.lab, fun k hk h0 => ?_⟩
  have hkN : k ≠ N := fun e => by have := h.lab k hk; rw [e] at this h0; omega
  exact (Below.heap_setCell w1 ⟨N, i, none⟩ v k hkN).trans (h.block k hk h0)
/-- Two blocks of the call's own get a label. -/
def lab2 (S : Lab) (N : Nat) : Lab := fun k => if k = N ∨ k = N + 1 then 150 else S k
theorem RoomAt.lab2 {ety : Nat → TypeId} {base R : Nat} {S : Lab} {F : Nat → List Value} {w : World} (h : RoomAt ety base R S F w) {N : Nat} (hN : N + 1 < w.heap.size) (hb : base ≤ N) (h0 : S N = 0) (h1 : S (N + 1) = 0) : RoomAt ety base R (lab2 S N) F w := by
  have hne : ∀ k, S k ≠ 0 → Go.Proofs.YtmhfabnpfkkbcaaGreat.lab2 S N k = S k := fun k hk => if_neg (fun e => by rcases e with rfl | rfl <;> contradiction)
  refine ⟨(hne R (by rw [h.lab]; decide)).trans h.lab, fun k hk => ?_, fun k hk => ?_, h.bas, h.blk, fun f hf => ?_⟩
  · unfold Go.Proofs.YtmhfabnpfkkbcaaGreat.lab2
    rw [if_neg (by omega)]; exact h.top k hk
  · unfold Go.Proofs.YtmhfabnpfkkbcaaGreat.lab2
    rw [if_neg (by omega)]; exact h.low k hk
  · obtain ⟨v, h1', h2, h3⟩ := h.field f hf
    exact ⟨v, h1', h2, fun g hg => (hne g (by rw [h3 g hg]; omega)).trans (h3 g hg)⟩
theorem agree_lab2 {S : Lab} {w w1 : World} (hb : Below w.heap.size w w1) : Agree S (lab2 S w.heap.size) w w1 :=
  ⟨hb.os, hb.tape, hb.output, hb.size, fun k hk => by unfold lab2; rw [if_neg (by omega)], fun k hk _ => hb.block k hk⟩

theorem box10 {w : World} {N : Nat} {a0 a1 a2 a3 a4 a5 a6 a7 a8 a9 : Value} {t : TypeId} (h : w.heap[N]? = some (.cells #[a0, a1, a2, a3, a4, a5, a6, a7, a8, a9] t (0, 0))) :
    (w.cell? ⟨N, 0, none⟩ = some a0 ∧ w.cell? ⟨N, 1, none⟩ = some a1 ∧ w.cell? ⟨N, 2, none⟩ = some a2 ∧ w.cell? ⟨N, 3, none⟩ = some a3 ∧ w.cell? ⟨N, 4, none⟩ = some a4 ∧ w.cell? ⟨N, 5, none⟩ = some a5 ∧ w.cell? ⟨N, 6, none⟩ = some a6 ∧ w.cell? ⟨N, 7, none⟩ = some a7 ∧ w.cell? ⟨N, 8, none⟩ = some a8 ∧ w.cell? ⟨N, 9, none⟩ = some a9) ∧ ∀ j, w.frozen? ⟨N, j, none⟩ = false := by
  refine ⟨⟨?_, ?_, ?_, ?_, ?_, ?_, ?_, ?_, ?_, ?_⟩, fun j => ?_⟩ <;> simp [World.cell?, World.frozen?, h]

/-- A list of ints that was laid with room. -/
structure DataI (S : Lab) (w : World) (b : Nat) (l : List Int) (room : Nat) : Prop where
  lab : S b = 0
  lt : b < w.heap.size
  cells : ∀ j u, (laidInts l room)[j]? = some u → w.cell? ⟨b, j, none⟩ = some u
theorem DataI.agree {S S' : Lab} {w w' : World} {b : Nat} {l : List Int} {room : Nat} (h : DataI S w b l room) (ha : Agree S S' w w') : DataI S' w' b l room :=
  ⟨(ha.lab b h.lt).trans h.lab, Nat.lt_of_lt_of_le h.lt ha.size, fun j u hj => (ha.cell (a := ⟨b, j, none⟩) h.lt h.lab).trans (h.cells j u hj)⟩
structure DataT (S : Lab) (w : World) (b : Nat) (l : List (Int × Int)) (room : Nat) : Prop where
  lab : S b = 0
  lt : b < w.heap.size
  cells : ∀ j u, (laidTerms l room)[j]? = some u → w.cell? ⟨b, j, none⟩ = some u
theorem DataT.agree {S S' : Lab} {w w' : World} {b : Nat} {l : List (Int × Int)} {room : Nat} (h : DataT S w b l room) (ha : Agree S S' w w') : DataT S' w' b l room :=
  ⟨(ha.lab b h.lt).trans h.lab, Nat.lt_of_lt_of_le h.lt ha.size, fun j u hj => (ha.cell (a := ⟨b, j, none⟩) h.lt h.lab).trans (h.cells j u hj)⟩
structure DataL (S : Lab) (w : World) (b : Nat) (l : List (List Int)) (D : List Row1) (M : List Nat) (room : Nat) : Prop where
  lab : S b = 0
  lt : b < w.heap.size
  rows : D.map Row1.l = l
  ok : ∀ r ∈ D, DataI S w r.b r.l 4
  len : M.length = room
  marks : ∀ i (h : i < M.length), S M[i] = 0 ∧ M[i] < w.heap.size ∧ w.cell? ⟨M[i], 0, none⟩ = some (.int .i64 (lotI i))
  cells : ∀ j u, (D.map Row1.val ++ M.map markVal)[j]? = some u → w.cell? ⟨b, j, none⟩ = some u
theorem DataL.agree {S S' : Lab} {w w' : World} {b : Nat} {l : List (List Int)} {D : List Row1} {M : List Nat} {room : Nat} (h : DataL S w b l D M room) (ha : Agree S S' w w') : DataL S' w' b l D M room :=
  ⟨(ha.lab b h.lt).trans h.lab, Nat.lt_of_lt_of_le h.lt ha.size, h.rows, fun r hr => (h.ok r hr).agree ha, h.len, fun i hi => ⟨(ha.lab _ (h.marks i hi).2.1).trans (h.marks i hi).1, Nat.lt_of_lt_of_le (h.marks i hi).2.1 ha.size, (ha.cell (a := ⟨M[i], 0, none⟩) (h.marks i hi).2.1 (h.marks i hi).1).trans (h.marks i hi).2.2⟩,
    fun j u hj => (ha.cell (a := ⟨b, j, none⟩) h.lt h.lab).trans (h.cells j u hj)⟩

theorem DataI.ints {S : Lab} {w : World} {b : Nat} {l : List Int} {room : Nat} (h : DataI S w b l room) (hl : l.length ≤ 100000) : IntsAt w (.slice (some ⟨b, 0, none⟩) l.length (l.length + room)) l := by
  refine ⟨_, _, rfl, by unfold maxLen; omega, fun _ => ⟨b, 0, rfl, h.lt, fun j hj => ?_⟩⟩
  rw [Nat.zero_add]
  refine h.cells j _ ?_
  unfold laidInts
  rw [List.getElem?_append_left (by simpa using hj), List.getElem?_map, List.getElem?_eq_getElem hj]; rfl
theorem DataT.terms {S : Lab} {w : World} {b : Nat} {l : List (Int × Int)} {room : Nat} (h : DataT S w b l room) (hl : l.length ≤ 100000) : TermsAt w (.slice (some ⟨b, 0, none⟩) l.length (l.length + room)) l := by
  refine ⟨_, _, rfl, by unfold maxLen; omega, fun _ => ⟨b, 0, rfl, h.lt, fun j hj => ?_⟩⟩
  have hg := termCells_get l j hj
  have hlen := termCells_length l
  rw [Nat.zero_add]
  refine ⟨h.cells _ _ ?_, h.cells _ _ ?_⟩
  · unfold laidTerms
    rw [List.getElem?_append_left (by omega)]; exact hg.1
  · unfold laidTerms
    rw [List.getElem?_append_left (by omega)]; exact hg.2
theorem DataL.rowsAt {S : Lab} {w : World} {b : Nat} {l : List (List Int)} {D : List Row1} {M : List Nat} {room : Nat} (h : DataL S w b l D M room) (hl : l.length ≤ 100000) (hlr : ∀ r ∈ l, r.length ≤ 100000) : RowsAt w (.slice (some ⟨b, 0, none⟩) l.length (l.length + room)) l := by
  have hD : D.length = l.length := by have := congrArg List.length h.rows; simpa using this
  refine ⟨_, _, rfl, by unfold maxLen; omega, fun _ => ⟨b, 0, rfl, h.lt, fun j hj => ?_⟩⟩
  have hjD : j < D.length := by omega
  refine ⟨(D[j]).val, ?_, ?_⟩
  · rw [Nat.zero_add]
    refine h.cells j _ ?_
    rw [List.getElem?_append_left (by simpa using hjD), List.getElem?_map, List.getElem?_eq_getElem hjD]; rfl
  · have e : (D[j]).l = l[j] := by
      have h1 : (D.map Row1.l)[j]'(by simpa using hjD) = l[j] := by simp only [h.rows]
      simpa using h1
    have := (h.ok _ (List.getElem_mem hjD)).ints (by rw [e]; exact hlr _ (List.getElem_mem hj))
    rw [e] at this
    unfold Row1.val
    rw [e]; exact this

set_option maxHeartbeats 400000 in
theorem roomInts_any (base R : Nat) (S : Lab) (F : Nat → List Value) (v : Value) (l : List Int) (w : World) (hR : RoomAt ety base R S F w) (hv : IntsAt w v l) (hl : l.length ≤ 100000) (hF0 : (F 0).length ≤ 1000000) (hF1 : (F 1).length ≤ 1000000) :
    Calls Tryz.prog 7 #[.pointer (some ⟨R, 0, none⟩), v] w (LaidI base R S F w l 40) := by
  have HL : Hid (Calls Tryz.prog 33 #[.pointer (some ⟨R, 0, none⟩), v, .int .i64 40] w (LaidI base R S F w l 40)) := layInts_any base R S F v l 40 w hR hv hl (by decide) (by decide) hF0 hF1
  obtain ⟨a, cap, rfl, _⟩ := hv.form
  clear hR hv
  go_enter Tryz.func7, Tryz.ntmps7
  go_wp2_with (go_at_call 33; refine calls_at HL.out (by with_reducible rfl) (by with_reducible rfl) ?_; rintro e w1 ⟨⟨b, cp, S1, F1, he, h⟩⟩; subst he)
  go_ret
  exact ⟨⟨b, cp, S1, F1, rfl, h⟩⟩
set_option maxHeartbeats 400000 in
theorem roomTerms_any (base R : Nat) (S : Lab) (F : Nat → List Value) (v : Value) (l : List (Int × Int)) (w : World) (hR : RoomAt ety base R S F w) (hv : TermsAt w v l) (hl : l.length ≤ 100000) (hF0 : (F 4).length ≤ 1000000) (hF1 : (F 5).length ≤ 1000000) :
    Calls Tryz.prog 32 #[.pointer (some ⟨R, 0, none⟩), v] w (LaidT base R S F w l 40) := by
  have HL : Hid (Calls Tryz.prog 81 #[.pointer (some ⟨R, 0, none⟩), v, .int .i64 40] w (LaidT base R S F w l 40)) := layTerms_any base R S F v l 40 w hR hv hl (by decide) (by decide) hF0 hF1
  obtain ⟨a, cap, rfl, _⟩ := hv.form
  clear hR hv
  go_enter Tryz.func32, Tryz.ntmps32
  go_wp2_with (go_at_call 81; refine calls_at HL.out (by with_reducible rfl) (by with_reducible rfl) ?_; rintro e w1 ⟨⟨b, cp, S1, F1, he, h⟩⟩; subst he)
  go_ret
  exact ⟨⟨b, cp, S1, F1, rfl, h⟩⟩
set_option maxHeartbeats 400000 in
theorem roomLists_any (base R : Nat) (S : Lab) (F : Nat → List Value) (v : Value) (l : List (List Int)) (w : World) (hR : RoomAt ety base R S F w) (hv : ∀ wr S', Agree S S' w wr → RowsAt wr v l) (hl : l.length ≤ 100000) (hlr : ∀ r ∈ l, r.length ≤ 100000)
    (hF0 : (F 0).length + l.length ≤ 900000) (hF1 : (F 1).length + l.length ≤ 900000) (hF16 : (F 16).length ≤ 900000) (hF17 : (F 17).length ≤ 900000) :
    Calls Tryz.prog 71 #[.pointer (some ⟨R, 0, none⟩), v] w (LaidL base R S F w l 40) := by
  have HL : Hid (Calls Tryz.prog 108 #[.pointer (some ⟨R, 0, none⟩), v, .int .i64 40] w (LaidL base R S F w l 40)) := layLists_any base R S F v l 40 w hR hv hl hlr (by decide) (by decide) hF0 hF1 hF16 hF17
  obtain ⟨a, cap, rfl, _⟩ := (hv w S (Agree.refl _ _)).form
  clear hR hv
  go_enter Tryz.func71, Tryz.ntmps71
  go_wp2_with (go_at_call 108; refine calls_at HL.out (by with_reducible rfl) (by with_reducible rfl) ?_; rintro e w1 ⟨⟨b, cp, S1, F1, D, M, he, h⟩⟩; subst he)
  go_ret
  exact ⟨⟨b, cp, S1, F1, D, M, rfl, h⟩⟩
end Go.Proofs.YtmhfabnpfkkbcaaGreat

namespace Go.Proofs.YtmhfabnpfkkbcaaGreat
open Go.RowKit

/-- What Con leaves. -/
structure LaidC (base R : Nat) (S : Lab) (F : Nat → List Value) (w : World) (c : Md.Cn) (e : Ending) (w' : World) : Prop where
  out : ∃ (bT bX bB bL cT cX cB cL : Nat) (S' : Lab) (F' : Nat → List Value) (D : List Row1) (M : List Nat),
    e = .returned (cnVal c (.slice (some ⟨bT, 0, none⟩) c.terms.length (c.terms.length + 40)) (.slice (some ⟨bX, 0, none⟩) c.xs.length (c.xs.length + 40)) (.slice (some ⟨bB, 0, none⟩) c.table.length (c.table.length + 40)) (.slice (some ⟨bL, 0, none⟩) c.rows.length (c.rows.length + 40))) ∧
    RoomAt ety base R S' F' w' ∧ Agree S S' w w' ∧ DataT S' w' bT c.terms 40 ∧ DataI S' w' bX c.xs 40 ∧ DataI S' w' bB c.table 40 ∧ DataL S' w' bL c.rows D M 40 ∧
    F' 0 = F 0 ++ [.slice (some ⟨bX, 0, none⟩) (c.xs.length + 40) cX, .slice (some ⟨bB, 0, none⟩) (c.table.length + 40) cB] ++ D.map Row1.ent ∧ F' 1 = F 1 ++ [.int .i64 (c.xs.length : Int), .int .i64 (c.table.length : Int)] ++ D.map Row1.at_ ∧
    F' 4 = F 4 ++ [.slice (some ⟨bT, 0, none⟩) (c.terms.length + 40) cT] ∧ F' 5 = F 5 ++ [.int .i64 (c.terms.length : Int)] ∧ F' 16 = F 16 ++ [.slice (some ⟨bL, 0, none⟩) (c.rows.length + 40) cL] ∧ F' 17 = F 17 ++ [.int .i64 (c.rows.length : Int)] ∧
    ∀ j, j ≠ 0 → j ≠ 1 → j ≠ 4 → j ≠ 5 → j ≠ 16 → j ≠ 17 → F' j = F j

theorem con_step {base R N : Nat} {S S1 S2 : Lab} {F2 : Nat → List Value} {w W w2 : World} {cs : Array Value} {z : Obj} (hA1 : Agree S S1 w W) (hA2 : Agree S1 S2 W w2) (hR2 : RoomAt ety base R S2 F2 w2) (hh2 : ∀ k, k < W.heap.size → 150 ≤ S1 k → w2.heap[k]? = W.heap[k]?)
    (hN : W.heap[N]? = some (.cells cs 62 (0, 0))) (hZ : W.heap[N + 1]? = some z) (hL : 150 ≤ S1 N ∧ 150 ≤ S1 (N + 1)) (i : Nat) (v : Value) {V : World} (hV : w2.setCell ⟨N, i, none⟩ v = V) :
    w2.heap[N]? = some (.cells cs 62 (0, 0)) ∧ RoomAt ety base R S2 F2 V ∧ Agree S S2 w V ∧ Agree S2 S2 w2 V ∧ Agree S1 S2 W V ∧ V.heap[N]? = some (.cells (cs.setIfInBounds i v) 62 (0, 0)) ∧ V.heap[N + 1]? = some z ∧ (150 ≤ S2 N ∧ 150 ≤ S2 (N + 1)) := by
  subst hV
  have hNl : N < W.heap.size := (Array.getElem?_eq_some_iff.1 hN).1
  have hZl : N + 1 < W.heap.size := (Array.getElem?_eq_some_iff.1 hZ).1
  have hL2 : 150 ≤ S2 N ∧ 150 ≤ S2 (N + 1) := ⟨by rw [hA2.lab N hNl]; exact hL.1, by rw [hA2.lab _ hZl]; exact hL.2⟩
  have h1 : w2.heap[N]? = some (.cells cs 62 (0, 0)) := (hh2 N hNl hL.1).trans hN
  have h2 : w2.heap[N + 1]? = some z := (hh2 _ hZl hL.2).trans hZ
  refine ⟨h1, hR2.set hL2.1 i v, (hA1.trans hA2).set hL2.1 i v, (Agree.refl _ _).set hL2.1 i v, hA2.set hL2.1 i v, ?_, ?_, hL2⟩
  · simp [World.setCell, Array.getElem?_modify, h1]
  · exact (Below.heap_setCell w2 ⟨N, i, none⟩ v (N + 1) (by simp)).trans h2

set_option maxRecDepth 10000 in
set_option maxHeartbeats 4000000 in
theorem roomCon_any (base R : Nat) (S : Lab) (F : Nat → List Value) (c : Md.Cn) (vt vx vb vr : Value) (w : World) (hR : RoomAt ety base R S F w) (hC : ∀ wr S', Agree S S' w wr → CnAt wr c vt vx vb vr) (hs : c.terms.length ≤ 100000 ∧ c.xs.length ≤ 100000 ∧ c.table.length ≤ 100000 ∧ c.rows.length ≤ 100000 ∧ ∀ r ∈ c.rows, r.length ≤ 100000)
    (hF : (F 0).length ≤ 700000 ∧ (F 1).length ≤ 700000 ∧ (F 4).length ≤ 700000 ∧ (F 5).length ≤ 700000 ∧ (F 16).length ≤ 700000 ∧ (F 17).length ≤ 700000) :
    Calls Tryz.prog 23 #[.pointer (some ⟨R, 0, none⟩), cnVal c vt vx vb vr] w (LaidC base R S F w c) := by
  have HC : Hid (∀ wr S', Agree S S' w wr → CnAt wr c vt vx vb vr) := hC
  have h0 := hC w S (Agree.refl _ _)
  obtain ⟨ta, tc, rfl, _⟩ := id h0.t
  obtain ⟨xa, xc, rfl, _⟩ := id h0.x
  obtain ⟨ba, bc, rfl, _⟩ := id h0.b
  obtain ⟨ra, rc, rfl, _⟩ := id h0.r
  have HS : Hid (c.terms.length ≤ 100000 ∧ c.xs.length ≤ 100000 ∧ c.table.length ≤ 100000 ∧ c.rows.length ≤ 100000 ∧ ∀ r ∈ c.rows, r.length ≤ 100000) := hs
  have HF : Hid ((F 0).length ≤ 700000 ∧ (F 1).length ≤ 700000 ∧ (F 4).length ≤ 700000 ∧ (F 5).length ≤ 700000 ∧ (F 16).length ≤ 700000 ∧ (F 17).length ≤ 700000) := hF
  obtain ⟨W, hW⟩ : ∃ W, (w.alloc (.cells #[.int .i64 c.kind, .int .i64 c.op, .slice ta c.terms.length tc, .int .i64 c.k, .int .i64 c.v, .int .i64 c.x, .int .i64 c.y, .slice xa c.xs.length xc, .slice ba c.table.length bc, .slice ra c.rows.length rc] 62)).alloc (.cells #[.int .i64 0, .int .i64 0, .slice none 0 0, .int .i64 0, .int .i64 0, .int .i64 0, .int .i64 0, .slice none 0 0, .slice none 0 0, .slice none 0 0] 62) = W := ⟨_, rfl⟩
  have hbW : Below w.heap.size w W := by rw [← hW]; exact ((Below.refl _ _).alloc (Nat.le_refl _) _).alloc (by simp) _
  have hsz : W.heap.size = w.heap.size + 1 + 1 := by rw [← hW]; simp
  have hN : W.heap[w.heap.size]? = some (.cells #[.int .i64 c.kind, .int .i64 c.op, .slice ta c.terms.length tc, .int .i64 c.k, .int .i64 c.v, .int .i64 c.x, .int .i64 c.y, .slice xa c.xs.length xc, .slice ba c.table.length bc, .slice ra c.rows.length rc] 62) := by
    rw [← hW, Below.heap_alloc _ _ _ (by simp)]; exact heap_alloc_new w _
  have hZ : W.heap[w.heap.size + 1]? = some (.cells #[.int .i64 0, .int .i64 0, .slice none 0 0, .int .i64 0, .int .i64 0, .int .i64 0, .int .i64 0, .slice none 0 0, .slice none 0 0, .slice none 0 0] 62) := by
    rw [← hW]
    have := heap_alloc_new (w.alloc (.cells #[.int .i64 c.kind, .int .i64 c.op, .slice ta c.terms.length tc, .int .i64 c.k, .int .i64 c.v, .int .i64 c.x, .int .i64 c.y, .slice xa c.xs.length xc, .slice ba c.table.length bc, .slice ra c.rows.length rc] 62)) (.cells #[.int .i64 0, .int .i64 0, .slice none 0 0, .int .i64 0, .int .i64 0, .int .i64 0, .int .i64 0, .slice none 0 0, .slice none 0 0, .slice none 0 0] 62)
    simpa using this
  have HR1 : Hid (RoomAt ety base R (lab2 S w.heap.size) F W) := (hR.kept hbW).lab2 (by omega) hR.bas (hR.top _ (Nat.le_refl _)) (hR.top _ (by omega))
  have HA1 : Hid (Agree S (lab2 S w.heap.size) w W) := agree_lab2 hbW
  have HLb : Hid (150 ≤ lab2 S w.heap.size w.heap.size ∧ 150 ≤ lab2 S w.heap.size (w.heap.size + 1)) := by
    show _ ∧ _
    unfold lab2; simp
  have HZ : Hid (W.heap[w.heap.size + 1]? = some (.cells #[.int .i64 0, .int .i64 0, .slice none 0 0, .int .i64 0, .int .i64 0, .int .i64 0, .int .i64 0, .slice none 0 0, .slice none 0 0, .slice none 0 0] 62)) := hZ
  have HN : Hid (W.heap[w.heap.size]? = some (.cells #[.int .i64 c.kind, .int .i64 c.op, .slice ta c.terms.length tc, .int .i64 c.k, .int .i64 c.v, .int .i64 c.x, .int .i64 c.y, .slice xa c.xs.length xc, .slice ba c.table.length bc, .slice ra c.rows.length rc] 62)) := hN
  have hNI : w.heap.size + 1 < W.heap.size := by omega
  obtain ⟨⟨p0, p1, p2, p3, p4, p5, p6, p7, p8, p9⟩, hfz⟩ := box10 hN
  generalize lab2 S w.heap.size = S1 at *
  clear hR hC h0 hs hF hbW hsz hN hZ
  unfold cnVal
  go_enter Tryz.func23, Tryz.ntmps23
  go_wp2_with (first
    | (go_at_call 32; refine calls_at (roomTerms_any base R S1 F _ c.terms _ HR1.out (HC.out _ _ HA1.out).t HS.out.1 (by have := HF.out; omega) (by have := HF.out; omega)) (by with_reducible rfl) (by with_reducible rfl) ?_; rintro e w2 ⟨⟨bT, cT, S2, F2, he, hbT, hbT1, hST, hR2, f4, f5, fo2, hA2, hcT, hh2⟩⟩; subst he;
       obtain ⟨V2, hV2⟩ : ∃ V, w2.setCell ⟨w.heap.size, 2, none⟩ (.slice (some ⟨bT, 0, none⟩) c.terms.length (c.terms.length + 40)) = V := ⟨_, rfl⟩;
       obtain ⟨hNp, hRn, hAn, hAx, hAy, hNn, hZn, hLn⟩ := con_step HA1.out hA2 hR2 hh2 HN.out HZ.out HLb.out 2 _ hV2;
       have HR2 : Hid (RoomAt ety base R S2 F2 V2) := hRn;
       have HA2 : Hid (Agree S S2 w V2) := hAn;
       have HN2 : Hid (V2.heap[w.heap.size]? = some (.cells #[.int .i64 c.kind, .int .i64 c.op, .slice (some ⟨bT, 0, none⟩) c.terms.length (c.terms.length + 40), .int .i64 c.k, .int .i64 c.v, .int .i64 c.x, .int .i64 c.y, .slice xa c.xs.length xc, .slice ba c.table.length bc, .slice ra c.rows.length rc] 62)) := hNn;
       have HZ2 : Hid (V2.heap[w.heap.size + 1]? = some (.cells #[.int .i64 0, .int .i64 0, .slice none 0 0, .int .i64 0, .int .i64 0, .int .i64 0, .int .i64 0, .slice none 0 0, .slice none 0 0, .slice none 0 0] 62)) := hZn;
       have HL2 : Hid (150 ≤ S2 w.heap.size ∧ 150 ≤ S2 (w.heap.size + 1)) := hLn;
       have HDT : Hid (DataT S2 V2 bT c.terms 40) := DataT.agree ⟨hST, hbT1, hcT⟩ hAx;
       have HF2 : Hid (F2 4 = F 4 ++ [.slice (some ⟨bT, 0, none⟩) (c.terms.length + 40) cT] ∧ F2 5 = F 5 ++ [.int .i64 (c.terms.length : Int)] ∧ ∀ j, j ≠ 4 → j ≠ 5 → F2 j = F j) := ⟨f4, f5, fo2⟩;
       clear p0 p1 p2 p3 p4 p5 p6 p7 p8 p9 hfz hRn hAn hAx hAy hNn hZn hLn hbT hbT1 hST hR2 f4 f5 fo2 hA2 hcT hh2 hNI;
       obtain ⟨⟨q0, q1, q2, q3, q4, q5, q6, q7, q8, q9⟩, hfq⟩ := box10 hNp;
       obtain ⟨⟨p0, p1, p2, p3, p4, p5, p6, p7, p8, p9⟩, hfz⟩ := box10 HN2.out;
       have hNI : w.heap.size + 1 < V2.heap.size := (Array.getElem?_eq_some_iff.1 HZ2.out).1)
    | (go_at_call 7; refine calls_at (roomInts_any base R S2 F2 _ c.xs _ HR2.out (HC.out _ _ HA2.out).x HS.out.2.1 (by rw [HF2.out.2.2 0 (by decide) (by decide)]; have := HF.out; omega) (by rw [HF2.out.2.2 1 (by decide) (by decide)]; have := HF.out; omega)) (by with_reducible rfl) (by with_reducible rfl) ?_; rintro e w3 ⟨⟨bX, cX, S3, F3, he, hbT, hbT1, hST, hR2, f4, f5, fo2, hA2, hcT, hh2⟩⟩; subst he;
       obtain ⟨V3, hV3⟩ : ∃ V, w3.setCell ⟨w.heap.size, 7, none⟩ (.slice (some ⟨bX, 0, none⟩) c.xs.length (c.xs.length + 40)) = V := ⟨_, rfl⟩;
       obtain ⟨hNp, hRn, hAn, hAx, hAy, hNn, hZn, hLn⟩ := con_step HA2.out hA2 hR2 hh2 HN2.out HZ2.out HL2.out 7 _ hV3;
       have HR3 : Hid (RoomAt ety base R S3 F3 V3) := hRn;
       have HA3 : Hid (Agree S S3 w V3) := hAn;
       have HN3 : Hid (V3.heap[w.heap.size]? = some (.cells #[.int .i64 c.kind, .int .i64 c.op, .slice (some ⟨bT, 0, none⟩) c.terms.length (c.terms.length + 40), .int .i64 c.k, .int .i64 c.v, .int .i64 c.x, .int .i64 c.y, .slice (some ⟨bX, 0, none⟩) c.xs.length (c.xs.length + 40), .slice ba c.table.length bc, .slice ra c.rows.length rc] 62)) := hNn;
       have HZ3 : Hid (V3.heap[w.heap.size + 1]? = some (.cells #[.int .i64 0, .int .i64 0, .slice none 0 0, .int .i64 0, .int .i64 0, .int .i64 0, .int .i64 0, .slice none 0 0, .slice none 0 0, .slice none 0 0] 62)) := hZn;
       have HL3 : Hid (150 ≤ S3 w.heap.size ∧ 150 ≤ S3 (w.heap.size + 1)) := hLn;
       have HDX : Hid (DataI S3 V3 bX c.xs 40) := DataI.agree ⟨hST, hbT1, hcT⟩ hAx;
       have HDT3 : Hid (DataT S3 V3 bT c.terms 40) := HDT.out.agree hAy;
       have HF3 : Hid (F3 0 = F2 0 ++ [.slice (some ⟨bX, 0, none⟩) (c.xs.length + 40) cX] ∧ F3 1 = F2 1 ++ [.int .i64 (c.xs.length : Int)] ∧ ∀ j, j ≠ 0 → j ≠ 1 → F3 j = F2 j) := ⟨f4, f5, fo2⟩;
       clear p0 p1 p2 p3 p4 p5 p6 p7 p8 p9 q0 q1 q2 q3 q4 q5 q6 q7 q8 q9 hfz hfq hRn hAn hAx hAy hNn hZn hLn hbT hbT1 hST hR2 f4 f5 fo2 hA2 hcT hh2 hNI HR2 HN2 HZ2 HL2;
       obtain ⟨⟨q0, q1, q2, q3, q4, q5, q6, q7, q8, q9⟩, hfq⟩ := box10 hNp;
       obtain ⟨⟨p0, p1, p2, p3, p4, p5, p6, p7, p8, p9⟩, hfz⟩ := box10 HN3.out;
       have hNI : w.heap.size + 1 < V3.heap.size := (Array.getElem?_eq_some_iff.1 HZ3.out).1)
    | (go_at_call 7; refine calls_at (roomInts_any base R S3 F3 _ c.table _ HR3.out (HC.out _ _ HA3.out).b HS.out.2.2.1 (by rw [HF3.out.1, HF2.out.2.2 0 (by decide) (by decide)]; have := HF.out; simp; omega) (by rw [HF3.out.2.1, HF2.out.2.2 1 (by decide) (by decide)]; have := HF.out; simp; omega)) (by with_reducible rfl) (by with_reducible rfl) ?_; rintro e w4 ⟨⟨bB, cB, S4, F4, he, hbT, hbT1, hST, hR2, f4, f5, fo2, hA2, hcT, hh2⟩⟩; subst he;
       obtain ⟨V4, hV4⟩ : ∃ V, w4.setCell ⟨w.heap.size, 8, none⟩ (.slice (some ⟨bB, 0, none⟩) c.table.length (c.table.length + 40)) = V := ⟨_, rfl⟩;
       obtain ⟨hNp, hRn, hAn, hAx, hAy, hNn, hZn, hLn⟩ := con_step HA3.out hA2 hR2 hh2 HN3.out HZ3.out HL3.out 8 _ hV4;
       have HR4 : Hid (RoomAt ety base R S4 F4 V4) := hRn;
       have HA4 : Hid (Agree S S4 w V4) := hAn;
       have HN4 : Hid (V4.heap[w.heap.size]? = some (.cells #[.int .i64 c.kind, .int .i64 c.op, .slice (some ⟨bT, 0, none⟩) c.terms.length (c.terms.length + 40), .int .i64 c.k, .int .i64 c.v, .int .i64 c.x, .int .i64 c.y, .slice (some ⟨bX, 0, none⟩) c.xs.length (c.xs.length + 40), .slice (some ⟨bB, 0, none⟩) c.table.length (c.table.length + 40), .slice ra c.rows.length rc] 62)) := hNn;
       have HZ4 : Hid (V4.heap[w.heap.size + 1]? = some (.cells #[.int .i64 0, .int .i64 0, .slice none 0 0, .int .i64 0, .int .i64 0, .int .i64 0, .int .i64 0, .slice none 0 0, .slice none 0 0, .slice none 0 0] 62)) := hZn;
       have HL4 : Hid (150 ≤ S4 w.heap.size ∧ 150 ≤ S4 (w.heap.size + 1)) := hLn;
       have HDB : Hid (DataI S4 V4 bB c.table 40) := DataI.agree ⟨hST, hbT1, hcT⟩ hAx;
       have HDX4 : Hid (DataI S4 V4 bX c.xs 40) := HDX.out.agree hAy;
       have HDT4 : Hid (DataT S4 V4 bT c.terms 40) := HDT3.out.agree hAy;
       have HF4 : Hid (F4 0 = F3 0 ++ [.slice (some ⟨bB, 0, none⟩) (c.table.length + 40) cB] ∧ F4 1 = F3 1 ++ [.int .i64 (c.table.length : Int)] ∧ ∀ j, j ≠ 0 → j ≠ 1 → F4 j = F3 j) := ⟨f4, f5, fo2⟩;
       clear p0 p1 p2 p3 p4 p5 p6 p7 p8 p9 q0 q1 q2 q3 q4 q5 q6 q7 q8 q9 hfz hfq hRn hAn hAx hAy hNn hZn hLn hbT hbT1 hST hR2 f4 f5 fo2 hA2 hcT hh2 hNI HR3 HN3 HZ3 HL3 HDX HDT3;
       obtain ⟨⟨q0, q1, q2, q3, q4, q5, q6, q7, q8, q9⟩, hfq⟩ := box10 hNp;
       obtain ⟨⟨p0, p1, p2, p3, p4, p5, p6, p7, p8, p9⟩, hfz⟩ := box10 HN4.out;
       have hNI : w.heap.size + 1 < V4.heap.size := (Array.getElem?_eq_some_iff.1 HZ4.out).1)
    | (go_at_call 71; refine calls_at (roomLists_any base R S4 F4 _ c.rows _ HR4.out (fun wr S' h => (HC.out _ _ (HA4.out.trans h)).r) HS.out.2.2.2.1 HS.out.2.2.2.2 (by rw [HF4.out.1, HF3.out.1, HF2.out.2.2 0 (by decide) (by decide)]; have := HF.out; have := HS.out.2.2.2.1; simp; omega) (by rw [HF4.out.2.1, HF3.out.2.1, HF2.out.2.2 1 (by decide) (by decide)]; have := HF.out; have := HS.out.2.2.2.1; simp; omega)
         (by rw [HF4.out.2.2 16 (by decide) (by decide), HF3.out.2.2 16 (by decide) (by decide), HF2.out.2.2 16 (by decide) (by decide)]; have := HF.out; omega) (by rw [HF4.out.2.2 17 (by decide) (by decide), HF3.out.2.2 17 (by decide) (by decide), HF2.out.2.2 17 (by decide) (by decide)]; have := HF.out; omega)) (by with_reducible rfl) (by with_reducible rfl) ?_; rintro e w5 ⟨⟨bL, cL, S5, F5, D, M, he, hR2, hA2, hbT, hbT1, hST, hrows, hok, hML, hMk, hcL, f0, f1, f16, f17, fo2, hh2⟩⟩; subst he;
       obtain ⟨V5, hV5⟩ : ∃ V, w5.setCell ⟨w.heap.size, 9, none⟩ (.slice (some ⟨bL, 0, none⟩) c.rows.length (c.rows.length + 40)) = V := ⟨_, rfl⟩;
       obtain ⟨hNp, hRn, hAn, hAx, hAy, hNn, hZn, hLn⟩ := con_step HA4.out hA2 hR2 hh2 HN4.out HZ4.out HL4.out 9 _ hV5;
       have HR5 : Hid (RoomAt ety base R S5 F5 V5) := hRn;
       have HA5 : Hid (Agree S S5 w V5) := hAn;
       have HN5 : Hid (V5.heap[w.heap.size]? = some (.cells #[.int .i64 c.kind, .int .i64 c.op, .slice (some ⟨bT, 0, none⟩) c.terms.length (c.terms.length + 40), .int .i64 c.k, .int .i64 c.v, .int .i64 c.x, .int .i64 c.y, .slice (some ⟨bX, 0, none⟩) c.xs.length (c.xs.length + 40), .slice (some ⟨bB, 0, none⟩) c.table.length (c.table.length + 40), .slice (some ⟨bL, 0, none⟩) c.rows.length (c.rows.length + 40)] 62)) := hNn;
       have HZ5 : Hid (V5.heap[w.heap.size + 1]? = some (.cells #[.int .i64 0, .int .i64 0, .slice none 0 0, .int .i64 0, .int .i64 0, .int .i64 0, .int .i64 0, .slice none 0 0, .slice none 0 0, .slice none 0 0] 62)) := hZn;
       have HL5 : Hid (150 ≤ S5 w.heap.size ∧ 150 ≤ S5 (w.heap.size + 1)) := hLn;
       have HDL : Hid (DataL S5 V5 bL c.rows D M 40) := DataL.agree ⟨hST, hbT1, hrows, fun r hr => ⟨(hok r hr).lab, (hok r hr).lt, (hok r hr).cells⟩, hML, fun i hi => ⟨(hMk i hi).lab, (hMk i hi).lt, (hMk i hi).cell⟩, hcL⟩ hAx;
       have HDB5 : Hid (DataI S5 V5 bB c.table 40) := HDB.out.agree hAy;
       have HDX5 : Hid (DataI S5 V5 bX c.xs 40) := HDX4.out.agree hAy;
       have HDT5 : Hid (DataT S5 V5 bT c.terms 40) := HDT4.out.agree hAy;
       have HF5 : Hid (F5 0 = F4 0 ++ D.map Row1.ent ∧ F5 1 = F4 1 ++ D.map Row1.at_ ∧ F5 16 = F4 16 ++ [.slice (some ⟨bL, 0, none⟩) (c.rows.length + 40) cL] ∧ F5 17 = F4 17 ++ [.int .i64 (c.rows.length : Int)] ∧ ∀ j, j ≠ 0 → j ≠ 1 → j ≠ 16 → j ≠ 17 → F5 j = F4 j) := ⟨f0, f1, f16, f17, fo2⟩;
       clear p0 p1 p2 p3 p4 p5 p6 p7 p8 p9 q0 q1 q2 q3 q4 q5 q6 q7 q8 q9 hfz hfq hRn hAn hAx hAy hNn hZn hLn hbT hbT1 hST hR2 f0 f1 f16 f17 fo2 hA2 hrows hok hML hMk hcL hh2 hNI HR4 HN4 HZ4 HL4 HDX4 HDT4 HDB;
       obtain ⟨⟨q0, q1, q2, q3, q4, q5, q6, q7, q8, q9⟩, hfq⟩ := box10 hNp;
       obtain ⟨⟨p0, p1, p2, p3, p4, p5, p6, p7, p8, p9⟩, hfz⟩ := box10 HN5.out;
       obtain ⟨⟨z0, z1, z2, z3, z4, z5, z6, z7, z8, z9⟩, hfzz⟩ := box10 HZ5.out;
       have hNI : w.heap.size + 1 < V5.heap.size := (Array.getElem?_eq_some_iff.1 HZ5.out).1))
  refine bodyPost_ret (v := .agg #[.int .i64 c.kind, .int .i64 c.op, .slice (some ⟨bT, 0, none⟩) c.terms.length (c.terms.length + 40), .int .i64 c.k, .int .i64 c.v, .int .i64 c.x, .int .i64 c.y, .slice (some ⟨bX, 0, none⟩) c.xs.length (c.xs.length + 40), .slice (some ⟨bB, 0, none⟩) c.table.length (c.table.length + 40), .slice (some ⟨bL, 0, none⟩) c.rows.length (c.rows.length + 40)]) (by simp [results, Tryz.results23, go_sem, World.cell?, World.setCell, Array.getElem?_modify, HZ5.out]) rfl ⟨⟨bT, bX, bB, bL, cT, cX, cB, cL, S5, F5, D, M, rfl, ((((((((((HR5.out).set HL5.out.2 0 _).set HL5.out.2 1 _).set HL5.out.2 2 _).set HL5.out.2 3 _).set HL5.out.2 4 _).set HL5.out.2 5 _).set HL5.out.2 6 _).set HL5.out.2 7 _).set HL5.out.2 8 _).set HL5.out.2 9 _, ((((((((((HA5.out).set HL5.out.2 0 _).set HL5.out.2 1 _).set HL5.out.2 2 _).set HL5.out.2 3 _).set HL5.out.2 4 _).set HL5.out.2 5 _).set HL5.out.2 6 _).set HL5.out.2 7 _).set HL5.out.2 8 _).set HL5.out.2 9 _, ?_, ?_, ?_, ?_, ?_, ?_, ?_, ?_, ?_, ?_, ?_⟩⟩
  · exact HDT5.out.agree (((((((((((Agree.refl S5 V5).set HL5.out.2 0 _).set HL5.out.2 1 _).set HL5.out.2 2 _).set HL5.out.2 3 _).set HL5.out.2 4 _).set HL5.out.2 5 _).set HL5.out.2 6 _).set HL5.out.2 7 _).set HL5.out.2 8 _).set HL5.out.2 9 _)
  · exact HDX5.out.agree (((((((((((Agree.refl S5 V5).set HL5.out.2 0 _).set HL5.out.2 1 _).set HL5.out.2 2 _).set HL5.out.2 3 _).set HL5.out.2 4 _).set HL5.out.2 5 _).set HL5.out.2 6 _).set HL5.out.2 7 _).set HL5.out.2 8 _).set HL5.out.2 9 _)
  · exact HDB5.out.agree (((((((((((Agree.refl S5 V5).set HL5.out.2 0 _).set HL5.out.2 1 _).set HL5.out.2 2 _).set HL5.out.2 3 _).set HL5.out.2 4 _).set HL5.out.2 5 _).set HL5.out.2 6 _).set HL5.out.2 7 _).set HL5.out.2 8 _).set HL5.out.2 9 _)
  · exact HDL.out.agree (((((((((((Agree.refl S5 V5).set HL5.out.2 0 _).set HL5.out.2 1 _).set HL5.out.2 2 _).set HL5.out.2 3 _).set HL5.out.2 4 _).set HL5.out.2 5 _).set HL5.out.2 6 _).set HL5.out.2 7 _).set HL5.out.2 8 _).set HL5.out.2 9 _)
  · rw [HF5.out.1, HF4.out.1, HF3.out.1, HF2.out.2.2 0 (by decide) (by decide)]; simp
  · rw [HF5.out.2.1, HF4.out.2.1, HF3.out.2.1, HF2.out.2.2 1 (by decide) (by decide)]; simp
  · rw [HF5.out.2.2.2.2 4 (by decide) (by decide) (by decide) (by decide), HF4.out.2.2 4 (by decide) (by decide), HF3.out.2.2 4 (by decide) (by decide), HF2.out.1]
  · rw [HF5.out.2.2.2.2 5 (by decide) (by decide) (by decide) (by decide), HF4.out.2.2 5 (by decide) (by decide), HF3.out.2.2 5 (by decide) (by decide), HF2.out.2.1]
  · rw [HF5.out.2.2.1, HF4.out.2.2 16 (by decide) (by decide), HF3.out.2.2 16 (by decide) (by decide), HF2.out.2.2 16 (by decide) (by decide)]
  · rw [HF5.out.2.2.2.1, HF4.out.2.2 17 (by decide) (by decide), HF3.out.2.2 17 (by decide) (by decide), HF2.out.2.2 17 (by decide) (by decide)]
  · intro j h0 h1 h4 h5 h16 h17
    rw [HF5.out.2.2.2.2 j h0 h1 h16 h17, HF4.out.2.2 j h0 h1, HF3.out.2.2 j h0 h1, HF2.out.2.2 j h4 h5]
end Go.Proofs.YtmhfabnpfkkbcaaGreat
