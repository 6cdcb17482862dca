/-
  Put together: MdCon0, MdCon.
-/
import Derived.Test.YtjanpglnahagdaaGreatDoorJ05
namespace Go.Proofs.YtjanpglnahagdaaGreatDoor
open Go.RowKit

theorem RoomAt.set {ety : Nat → TypeId} {base R : Nat} {S : Lab} {F : Nat → List Value} {w : World} (h : RoomAt ety base R S F w) {N : Nat} (hN : 150 ≤ S N) (i : Nat) (v : Value) : RoomAt ety base R S F (w.setCell ⟨N, i, none⟩ v) := by
  have hsz : (w.setCell ⟨N, i, none⟩ v).heap.size = w.heap.size := by simp [World.setCell]
  have hb : ∀ k, k ≠ N → (w.setCell ⟨N, i, none⟩ v).heap[k]? = w.heap[k]? := fun k hk => Below.heap_setCell w ⟨N, i, none⟩ v k hk
  have hRN : R ≠ N := fun e => by rw [← e, h.lab] at hN; omega
  refine ⟨h.lab, fun k hk => h.top k (by rwa [hsz] at hk), h.low, by rw [hsz]; exact h.bas, ?_, fun f hf => ?_⟩
  · obtain ⟨cs, t, h1, h2⟩ := h.blk
    exact ⟨cs, t, (hb R hRN).trans h1, h2⟩
  · obtain ⟨u, h1, h2, h3⟩ := h.field f hf
    exact ⟨u, (World.cell?_of_block (a := ⟨R, f, none⟩) (hb R hRN)).trans h1, ownsRow_same h2 (fun g hg' => hb g (fun e => by have := h3 g hg'; rw [e] at this; omega)), h3⟩
theorem Agree.set {S S' : Lab} {w w1 : World} (h : Agree S S' w w1) {N : Nat} (hN : 150 ≤ S' N) (i : Nat) (v : Value) : Agree S S' w (w1.setCell ⟨N, i, none⟩ v) := by
  refine ⟨h.os, h.tape, h.output, by simpa [World.setCell] using h.size, h.lab, fun k hk h0 => ?_⟩
  have hkN : k ≠ N := fun e => by have := h.lab k hk; rw [e] at this h0; omega
  exact (Below.heap_setCell w1 ⟨N, i, none⟩ v k hkN).trans (h.block k hk h0)
/-- Two blocks of the call's own get a label. -/
def lab2 (S : Lab) (N : Nat) : Lab := fun k => if k = N ∨ k = N + 1 then 150 else S k
theorem RoomAt.lab2 {ety : Nat → TypeId} {base R : Nat} {S : Lab} {F : Nat → List Value} {w : World} (h : RoomAt ety base R S F w) {N : Nat} (hN : N + 1 < w.heap.size) (hb : base ≤ N) (h0 : S N = 0) (h1 : S (N + 1) = 0) : RoomAt ety base R (lab2 S N) F w := by
  have hne : ∀ k, S k ≠ 0 → Go.Proofs.YtjanpglnahagdaaGreatDoor.lab2 S N k = S k := fun k hk => if_neg (fun e => by rcases e with rfl | rfl <;> contradiction)
  refine ⟨(hne R (by rw [h.lab]; decide)).trans h.lab, fun k hk => ?_, fun k hk => ?_, h.bas, h.blk, fun f hf => ?_⟩
  · unfold Go.Proofs.YtjanpglnahagdaaGreatDoor.lab2
    rw [if_neg (by omega)]; exact h.top k hk
  · unfold Go.Proofs.YtjanpglnahagdaaGreatDoor.lab2
    rw [if_neg (by omega)]; exact h.low k hk
  · obtain ⟨v, h1', h2, h3⟩ := h.field f hf
    exact ⟨v, h1', h2, fun g hg => (hne g (by rw [h3 g hg]; omega)).trans (h3 g hg)⟩
theorem agree_lab2 {S : Lab} {w w1 : World} (hb : Below w.heap.size w w1) : Agree S (lab2 S w.heap.size) w w1 :=
  ⟨hb.os, hb.tape, hb.output, hb.size, fun k hk => by unfold lab2; rw [if_neg (by omega)], fun k hk _ => hb.block k hk⟩

theorem box10 {w : World} {N : Nat} {a0 a1 a2 a3 a4 a5 a6 a7 a8 a9 : Value} {t : TypeId} (h : w.heap[N]? = some (.cells #[a0, a1, a2, a3, a4, a5, a6, a7, a8, a9] t (0, 0))) :
    (w.cell? ⟨N, 0, none⟩ = some a0 ∧ w.cell? ⟨N, 1, none⟩ = some a1 ∧ w.cell? ⟨N, 2, none⟩ = some a2 ∧ w.cell? ⟨N, 3, none⟩ = some a3 ∧ w.cell? ⟨N, 4, none⟩ = some a4 ∧ w.cell? ⟨N, 5, none⟩ = some a5 ∧ w.cell? ⟨N, 6, none⟩ = some a6 ∧ w.cell? ⟨N, 7, none⟩ = some a7 ∧ w.cell? ⟨N, 8, none⟩ = some a8 ∧ w.cell? ⟨N, 9, none⟩ = some a9) ∧ ∀ j, w.frozen? ⟨N, j, none⟩ = false := by
  refine ⟨⟨?_, ?_, ?_, ?_, ?_, ?_, ?_, ?_, ?_, ?_⟩, fun j => ?_⟩ <;> simp [World.cell?, World.frozen?, h]

/-- A list of ints that was laid with room. -/
structure DataI (S : Lab) (w : World) (b : Nat) (l : List Int) (room : Nat) : Prop where
  lab : S b = 0
  lt : b < w.heap.size
  cells : ∀ j u, (laidInts l room)[j]? = some u → w.cell? ⟨b, j, none⟩ = some u
theorem DataI.agree {S S' : Lab} {w w' : World} {b : Nat} {l : List Int} {room : Nat} (h : DataI S w b l room) (ha : Agree S S' w w') : DataI S' w' b l room :=
  ⟨(ha.lab b h.lt).trans h.lab, Nat.lt_of_lt_of_le h.lt ha.size, fun j u hj => (ha.cell (a := ⟨b, j, none⟩) h.lt h.lab).trans (h.cells j u hj)⟩
structure DataT (S : Lab) (w : World) (b : Nat) (l : List (Int × Int)) (room : Nat) : Prop where
  lab : S b = 0
  lt : b < w.heap.size
  cells : ∀ j u, (laidTerms l room)[j]? = some u → w.cell? ⟨b, j, none⟩ = some u
theorem DataT.agree {S S' : Lab} {w w' : World} {b : Nat} {l : List (Int × Int)} {room : Nat} (h : DataT S w b l room) (ha : Agree S S' w w') : DataT S' w' b l room :=
  ⟨(ha.lab b h.lt).trans h.lab, Nat.lt_of_lt_of_le h.lt ha.size, fun j u hj => (ha.cell (a := ⟨b, j, none⟩) h.lt h.lab).trans (h.cells j u hj)⟩
structure DataL (S : Lab) (w : World) (b : Nat) (l : List (List Int)) (D : List Row1) (M : List Nat) (room : Nat) : Prop where
  lab : S b = 0
  lt : b < w.heap.size
  rows : D.map Row1.l = l
  ok : ∀ r ∈ D, DataI S w r.b r.l 4
  len : M.length = room
  marks : ∀ i (h : i < M.length), S M[i] = 0 ∧ M[i] < w.heap.size ∧ w.cell? ⟨M[i], 0, none⟩ = some (.int .i64 (lotI i))
  cells : ∀ j u, (D.map Row1.val ++ M.map markVal)[j]? = some u → w.cell? ⟨b, j, none⟩ = some u
theorem DataL.agree {S S' : Lab} {w w' : World} {b : Nat} {l : List (List Int)} {D : List Row1} {M : List Nat} {room : Nat} (h : DataL S w b l D M room) (ha : Agree S S' w w') : DataL S' w' b l D M room :=
  ⟨(ha.lab b h.lt).trans h.lab, Nat.lt_of_lt_of_le h.lt ha.size, h.rows, fun r hr => (h.ok r hr).agree ha, h.len, fun i hi => ⟨(ha.lab _ (h.marks i hi).2.1).trans (h.marks i hi).1, Nat.lt_of_lt_of_le (h.marks i hi).2.1 ha.size, (ha.cell (a := ⟨M[i], 0, none⟩) (h.marks i hi).2.1 (h.marks i hi).1).trans (h.marks i hi).2.2⟩,
    fun j u hj => (ha.cell (a := ⟨b, j, none⟩) h.lt h.lab).trans (h.cells j u hj)⟩

theorem DataI.ints {S : Lab} {w : World} {b : Nat} {l : List Int} {room : Nat} (h : DataI S w b l room) (hl : l.length ≤ 100000) : IntsAt w (.slice (some ⟨b, 0, none⟩) l.length (l.length + room)) l := by
  refine ⟨_, _, rfl, by unfold maxLen; omega, fun _ => ⟨b, 0, rfl, h.lt, fun j hj => ?_⟩⟩
  rw [Nat.zero_add]
  refine h.cells j _ ?_
  unfold laidInts
  rw [List.getElem?_append_left (by simpa using hj), List.getElem?_map, List.getElem?_eq_getElem hj]; rfl
theorem DataT.terms {S : Lab} {w : World} {b : Nat} {l : List (Int × Int)} {room : Nat} (h : DataT S w b l room) (hl : l.length ≤ 100000) : TermsAt w (.slice (some ⟨b, 0, none⟩) l.length (l.length + room)) l := by
  refine ⟨_, _, rfl, by unfold maxLen; omega, fun _ => ⟨b, 0, rfl, h.lt, fun j hj => ?_⟩⟩
  have hg := termCells_get l j hj
  have hlen := termCells_length l
  rw [Nat.zero_add]
  refine ⟨h.cells _ _ ?_, h.cells _ _ ?_⟩
  · unfold laidTerms
    rw [List.getElem?_append_left (by omega)]; exact hg.1
  · unfold laidTerms
    rw [List.getElem?_append_left (by omega)]; exact hg.2
theorem DataL.rowsAt {S : Lab} {w : World} {b : Nat} {l : List (List Int)} {D : List Row1} {M : List Nat} {room : Nat} (h : DataL S w b l D M room) (hl : l.length ≤ 100000) (hlr : ∀ r ∈ l, r.length ≤ 100000) : RowsAt w (.slice (some ⟨b, 0, none⟩) l.length (l.length + room)) l := by
  have hD : D.length = l.length := by have := congrArg List.length h.rows; simpa using this
  refine ⟨_, _, rfl, by unfold maxLen; omega, fun _ => ⟨b, 0, rfl, h.lt, fun j hj => ?_⟩⟩
  have hjD : j < D.length := by omega
  refine ⟨(D[j]).val, ?_, ?_⟩
  · rw [Nat.zero_add]
    refine h.cells j _ ?_
    rw [List.getElem?_append_left (by simpa using hjD), List.getElem?_map, List.getElem?_eq_getElem hjD]; rfl
  · have e : (D[j]).l = l[j] := by
      have h1 : (D.map Row1.l)[j]'(by simpa using hjD) = l[j] := by simp only [h.rows]
      simpa using h1
    have := (h.ok _ (List.getElem_mem hjD)).ints (by rw [e]; exact hlr _ (List.getElem_mem hj))
    rw [e] at this
    unfold Row1.val
    rw [e]; exact this

set_option maxHeartbeats 400000 in
theorem roomTerms_any (base R : Nat) (S : Lab) (F : Nat → List Value) (v : Value) (l : List (Int × Int)) (w : World) (hR : RoomAt ety base R S F w) (hv : TermsAt w v l) (hl : l.length ≤ 100000) (hF0 : (F 4).length ≤ 1000000) (hF1 : (F 5).length ≤ 1000000) :
    Calls Tryz.prog 17 #[.pointer (some ⟨R, 0, none⟩), v] w (LaidT base R S F w l 40) := by
  have HL : Hid (Calls Tryz.prog 45 #[.pointer (some ⟨R, 0, none⟩), v, .int .i64 40] w (LaidT base R S F w l 40)) := layTerms_any base R S F v l 40 w hR hv hl (by decide) (by decide) hF0 hF1
  obtain ⟨a, cap, rfl, _⟩ := hv.form
  clear hR hv
  go_enter Tryz.func17, Tryz.ntmps17
  go_wp2_with (go_at_call 45; refine calls_at HL.out (by with_reducible rfl) (by with_reducible rfl) ?_; rintro e w1 ⟨⟨b, cp, S1, F1, he, h⟩⟩; subst he)
  go_ret
  exact ⟨⟨b, cp, S1, F1, rfl, h⟩⟩
end Go.Proofs.YtjanpglnahagdaaGreatDoor

namespace Go.Proofs.YtjanpglnahagdaaGreatDoor
open Go.RowKit

/-- What Con leaves. -/
structure LaidC (base R : Nat) (S : Lab) (F : Nat → List Value) (w : World) (c : Md.Cn) (e : Ending) (w' : World) : Prop where
  out : ∃ (bT bX bB bL cT cX cB cL : Nat) (S' : Lab) (F' : Nat → List Value) (D : List Row1) (M : List Nat),
    e = .returned (cnVal c (.slice (some ⟨bT, 0, none⟩) c.terms.length (c.terms.length + 40)) (.slice (some ⟨bX, 0, none⟩) c.xs.length (c.xs.length + 40)) (.slice (some ⟨bB, 0, none⟩) c.table.length (c.table.length + 40)) (.slice (some ⟨bL, 0, none⟩) c.rows.length (c.rows.length + 40))) ∧
    RoomAt ety base R S' F' w' ∧ Agree S S' w w' ∧ DataT S' w' bT c.terms 40 ∧ DataI S' w' bX c.xs 40 ∧ DataI S' w' bB c.table 40 ∧ DataL S' w' bL c.rows D M 40 ∧
    F' 0 = F 0 ++ [.slice (some ⟨bX, 0, none⟩) (c.xs.length + 40) cX, .slice (some ⟨bB, 0, none⟩) (c.table.length + 40) cB] ++ D.map Row1.ent ∧ F' 1 = F 1 ++ [.int .i64 (c.xs.length : Int), .int .i64 (c.table.length : Int)] ++ D.map Row1.at_ ∧
    F' 4 = F 4 ++ [.slice (some ⟨bT, 0, none⟩) (c.terms.length + 40) cT] ∧ F' 5 = F 5 ++ [.int .i64 (c.terms.length : Int)] ∧ F' 16 = F 16 ++ [.slice (some ⟨bL, 0, none⟩) (c.rows.length + 40) cL] ∧ F' 17 = F 17 ++ [.int .i64 (c.rows.length : Int)] ∧
    ∀ j, j ≠ 0 → j ≠ 1 → j ≠ 4 → j ≠ 5 → j ≠ 16 → j ≠ 17 → F' j = F j

theorem con_step {base R N : Nat} {S S1 S2 : Lab} {F2 : Nat → List Value} {w W w2 : World} {cs : Array Value} {z : Obj} (hA1 : Agree S S1 w W) (hA2 : Agree S1 S2 W w2) (hR2 : RoomAt ety base R S2 F2 w2) (hh2 : ∀ k, k < W.heap.size → 150 ≤ S1 k → w2.heap[k]? = W.heap[k]?)
    (hN : W.heap[N]? = some (.cells cs 64 (0, 0))) (hZ : W.heap[N + 1]? = some z) (hL : 150 ≤ S1 N ∧ 150 ≤ S1 (N + 1)) (i : Nat) (v : Value) {V : World} (hV : w2.setCell ⟨N, i, none⟩ v = V) :
    w2.heap[N]? = some (.cells cs 64 (0, 0)) ∧ RoomAt ety base R S2 F2 V ∧ Agree S S2 w V ∧ Agree S2 S2 w2 V ∧ Agree S1 S2 W V ∧ V.heap[N]? = some (.cells (cs.setIfInBounds i v) 64 (0, 0)) ∧ V.heap[N + 1]? = some z ∧ (150 ≤ S2 N ∧ 150 ≤ S2 (N + 1)) := by
  subst hV
  have hNl : N < W.heap.size := (Array.getElem?_eq_some_iff.1 hN).1
  have hZl : N + 1 < W.heap.size := (Array.getElem?_eq_some_iff.1 hZ).1
  have hL2 : 150 ≤ S2 N ∧ 150 ≤ S2 (N + 1) := ⟨by rw [hA2.lab N hNl]; exact hL.1, by rw [hA2.lab _ hZl]; exact hL.2⟩
  have h1 : w2.heap[N]? = some (.cells cs 64 (0, 0)) := (hh2 N hNl hL.1).trans hN
  have h2 : w2.heap[N + 1]? = some z := (hh2 _ hZl hL.2).trans hZ
  refine ⟨h1, hR2.set hL2.1 i v, (hA1.trans hA2).set hL2.1 i v, (Agree.refl _ _).set hL2.1 i v, hA2.set hL2.1 i v, ?_, ?_, hL2⟩
  · simp [World.setCell, Array.getElem?_modify, h1]
  · exact (Below.heap_setCell w2 ⟨N, i, none⟩ v (N + 1) (by simp)).trans h2

end Go.Proofs.YtjanpglnahagdaaGreatDoor
