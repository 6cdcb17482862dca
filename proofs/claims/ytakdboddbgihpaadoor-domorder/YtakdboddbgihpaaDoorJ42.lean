/-
  Put together: DmOpen, DmDoes.
-/
import Derived.Test.YtakdboddbgihpaaDoorDmNew
namespace Go.Proofs.YtakdboddbgihpaaDoor
open Go.RowKit

/-- The variables that have more than one value. -/
def openL (L : List Dm) (k : Nat) : List Int := ((List.range k).filter fun j => match L[j]? with | some d => decide (1 < bSize d.a d.b) | none => false).map fun j : Nat => (j : Int)
theorem openL_succ (L : List Dm) (k : Nat) (hk : k < L.length) : openL L (k + 1) = openL L k ++ (if 1 < bSize L[k].a L[k].b then [(k : Int)] else []) := by
  unfold openL
  rw [List.range_succ, List.filter_append, List.map_append]
  refine congrArg (HAppend.hAppend _) ?_
  have e : L[k]? = some L[k] := List.getElem?_eq_getElem hk
  generalize L[k] = d at e
  by_cases h : 1 < bSize d.a d.b
  · rw [if_pos h, List.filter_cons_of_pos (by rw [e]; simpa using h)]; rfl
  · rw [if_neg h, List.filter_cons_of_neg (by rw [e]; simpa using h)]; rfl
theorem openL_len (L : List Dm) (k : Nat) : (openL L k).length ≤ k := by
  have := List.length_filter_le (fun j => match L[j]? with | some d => decide (1 < bSize d.a d.b) | none => false) (List.range k)
  simpa [openL] using this

set_option maxRecDepth 10000 in
set_option maxHeartbeats 1000000 in
theorem open_any (B p : Nat) (nv mv : Value) (s : St) (w : World) (h : StAt B w p nv mv s) : Calls Tryd.prog 23 #[.pointer (some ⟨p, 0, none⟩)] w (VsOut (openL s.now s.now.length) w) := by
  have c0 : w.cell? ⟨p, 0, none⟩ = some nv := cell_of h.o 0
  have hn := h.n32
  have HSz : Hid (∀ x, x < s.now.length → ∀ w', Below w.heap.size w w' → ∀ (hx : x < s.now.length), Calls Tryd.prog 17 #[.pointer (some ⟨p, 0, none⟩), .int .i64 (x : Int)] w' fun e w2 => e = .returned (.int .i64 (bSize s.now[x].a s.now[x].b)) ∧ Below w'.heap.size w' w2) := fun x _ w' hb hx => size_in B p nv mv s x hx w' (h.below hb)
  obtain ⟨a, cap, rfl, _⟩ := dm_form h.n
  clear h
  have HLen := openL_len s.now
  go_enter Tryd.func23, Tryd.ntmps23
  go_wp2_with fail
  go_loopw [3, 10] (fun oq iv wr => ∃ (k : Nat) (ov : Value), oq = ov ∧ iv = .int .i64 (k : Int) ∧ k ≤ s.now.length ∧ Hid (wr.ownsRow w.heap.size 3 1 ov (openL s.now k).length ((openL s.now k).map (.int .i64))) ∧ Hid (Below w.heap.size w wr)) (fun _ iv _ => s.now.length - (intOf iv).toNat)
  case atStart => exact ⟨0, _, rfl, rfl, Nat.zero_le _, World.ownsRow_nil _ _ _ _, Below.refl _ _⟩
  case round =>
    obtain ⟨k, _, rfl, rfl, hk, HOr, HBr⟩ := hrel
    by_cases hkn : k < s.now.length
    · have hkI : (k : Int) < (s.now.length : Int) := by omega
      have HS1 := HSz.out k hkn wr HBr.out hkn
      have HV := openL_succ s.now k hkn
      obtain ⟨z, hz⟩ : ∃ z, bSize s.now[k].a s.now[k].b = z := ⟨_, rfl⟩
      rw [hz] at HS1 HV
      have HS2 : Hid (Calls Tryd.prog 17 #[.pointer (some ⟨p, 0, none⟩), .int .i64 (k : Int)] wr fun e w2 => e = .returned (.int .i64 z) ∧ Below wr.heap.size wr w2) := HS1
      clear HS1 hz
      go_wp2_with fail
      refine calls_at HS2.out (by with_reducible rfl) (by with_reducible rfl) ?_
      rintro e w5 ⟨rfl, hb5⟩
      have HB5 : Hid (Below w.heap.size w w5) := bl_next HBr.out hb5
      have HO5 : Hid (w5.ownsRow w.heap.size 3 1 u3 (openL s.now k).length ((openL s.now k).map (.int .i64))) := own_below HOr.out hb5
      clear hb5
      by_cases hd : 1 < z
      · have HV1 : Hid (openL s.now (k + 1) = openL s.now k ++ [(k : Int)]) := by show _ = _; rw [HV, if_pos hd]
        clear HV
        have hlk := HLen k
        go_wp2_with (first
          | (at_builtin; refine append_one w5 (.int .i64 (k : Int)) rfl _ _ 53 3 (.int .i64 0) 8 rfl und53 info3 rfl w.heap.size _ _ _ (by rfl) HO5.out rfl _ rfl (by rfl) (by unfold maxLen; omega) (by omega) HB5.out.size ?_; intro v6 w6 ho6 hg6 hn6))
        have HO6 : Hid (w6.ownsRow w.heap.size 3 1 v6 (openL s.now (k + 1)).length ((openL s.now (k + 1)).map (.int .i64))) := by
          show World.ownsRow _ _ _ _ _ _ _
          rw [HV1.out, List.map_append, List.length_append]
          exact ho6
        have HB6 : Hid (Below w.heap.size w w6) := (HB5.out.alloc HB5.out.size _).grown hg6 (Nat.le_trans HB5.out.size (by simp)) (fun g hg => (HO5.out.lt g hg).1)
        clear ho6 hg6 hn6
        go_wp2_with fail
        go_roundw
        case rel => exact ⟨k + 1, v6, rfl, by go_num, hkn, HO6, HB6⟩
        case measure => simp [intOf]; omega
      · have HV1 : Hid (openL s.now (k + 1) = openL s.now k) := by show _ = _; rw [HV, if_neg hd, List.append_nil]
        clear HV
        go_wp2_with fail
        go_roundw
        case rel => exact ⟨k + 1, u3, rfl, by go_num, hkn, by rw [HV1.out]; exact HO5, HB5⟩
        case measure => simp [intOf]; omega
    · have hke : k = s.now.length := by omega
      subst hke
      go_wp2_with fail
      go_ret
      exact ⟨_, rfl, HOr.out, HBr.out⟩

set_option maxRecDepth 10000 in
set_option maxHeartbeats 1000000 in
theorem ints_same (B B' : Nat) (v v' : Value) (L : List Int) (w : World) (h : w.ownsRow B 3 1 v L.length (L.map (.int .i64))) (h' : w.ownsRow B' 3 1 v' L.length (L.map (.int .i64))) (hl : L.length ≤ 1000) : Calls Tryd.prog 19 #[v, v'] w fun e w' => e = .returned (.bool true) ∧ Below w.heap.size w w' := by
  obtain ⟨a, cap, rfl, hc⟩ := row_form h
  obtain ⟨a', cap', rfl, hc'⟩ := row_form h'
  have HC : Hid (∀ w', Below w.heap.size w w' → ∀ j (hj : j < L.length), ∃ g, a = some ⟨g, 0, none⟩ ∧ w'.cell? ⟨g, j, none⟩ = some (.int .i64 L[j])) := fun w' hb j hj => by
    obtain ⟨g, e1, _, e2, e3⟩ := hc j hj
    exact ⟨g, e1, (hb.cell (p := ⟨g, j, none⟩) e2).trans e3⟩
  have HC' : Hid (∀ w', Below w.heap.size w w' → ∀ j (hj : j < L.length), ∃ g, a' = some ⟨g, 0, none⟩ ∧ w'.cell? ⟨g, j, none⟩ = some (.int .i64 L[j])) := fun w' hb j hj => by
    obtain ⟨g, e1, _, e2, e3⟩ := hc' j hj
    exact ⟨g, e1, (hb.cell (p := ⟨g, j, none⟩) e2).trans e3⟩
  clear h h' hc hc'
  go_enter Tryd.func19, Tryd.ntmps19
  go_wp2_with fail
  go_loopw [5] (fun iv wr => ∃ k : Nat, iv = .int .i64 (k : Int) ∧ k ≤ L.length ∧ Hid (Below w.heap.size w wr)) (fun iv _ => L.length - (intOf iv).toNat)
  case atStart => exact ⟨0, rfl, Nat.zero_le _, Below.refl _ _⟩
  case round =>
    obtain ⟨k, rfl, hk, HBr⟩ := hrel
    by_cases hkn : k < L.length
    · have hkI : (k : Int) < (L.length : Int) := by omega
      obtain ⟨g, rfl, x0⟩ := HC.out wr HBr.out k hkn
      obtain ⟨g', rfl, y0⟩ := HC'.out wr HBr.out k hkn
      go_wp2_with fail
      go_region
      have HBd : Hid (Below w.heap.size w wr.drew) := HBr.out.drew
      go_wp2_with fail
      go_roundw
      case rel => exact ⟨k + 1, by go_num, hkn, HBd⟩
      case measure => simp [intOf]; omega
    · have hke : k = L.length := by omega
      subst hke
      go_wp2_with fail
      go_ret
      exact ⟨rfl, HBr.out⟩
end Go.Proofs.YtakdboddbgihpaaDoor

namespace Go.Proofs.YtakdboddbgihpaaDoor
open Go.RowKit

/-- A call of a script. -/
structure Cl where
  kind : Int
  ck : Int
  cx : Int
  cv : Int
  n : Int
def clVal (o : Cl) : Value := .agg #[.int .i64 o.kind, .int .i64 o.ck, .int .i64 o.cx, .int .i64 o.cv, .int .i64 o.n]
/-- What a call leaves of a store. -/
def St.does (s : St) (o : Cl) (least : Int) : St := if o.kind = 1 then s.cut o.ck o.cx o.cv else if o.kind = 2 then s.mark else if o.kind = 3 then (if least ≤ o.n then s.back o.n else s) else s
/-- What a call leaves. -/
def DoOut (B p : Nat) (nv mv : Value) (t : St) (w : World) (e : Ending) (w' : World) : Prop := ∃ mv', e = .returned (.tuple #[]) ∧ StAt B w' p nv mv' t ∧ Stp B p nv mv w w' ∧ ∀ k, mv'.ownBlock = some k → mv.ownBlock = some k ∨ w.heap.size ≤ k
theorem Stp.trans {B p : Nat} {nv mv mv2 : Value} {a b c : World} (h : Stp B p nv mv a b) (k : Stp B p nv mv2 b c) (hm : ∀ g, mv2.ownBlock = some g → mv.ownBlock = some g ∨ a.heap.size ≤ g) : Stp B p nv mv a c :=
  ⟨h.below.trans k.below, Nat.le_trans h.off.size k.off.size, fun g hg ho => (k.off.block g (Nat.lt_of_lt_of_le hg h.off.size) (fun e => by
    rcases e with e | e | e
    · exact ho (.inl e)
    · exact ho (.inr (.inl e))
    · rcases hm g e with e | e
      · exact ho (.inr (.inr e))
      · omega)).trans (h.off.block g hg ho)⟩

set_option maxRecDepth 10000 in
set_option maxHeartbeats 1000000 in
theorem does_any (B p : Nat) (nv mv : Value) (s : St) (o : Cl) (least : Int) (w : World) (h : StAt B w p nv mv s) (hm : s.marks + 1 ≤ 10000) : Calls Tryd.prog 13 #[.pointer (some ⟨p, 0, none⟩), clVal o, .int .i64 least] w (DoOut B p nv mv (s.does o least) w) := by
  obtain ⟨kd, ck, cx, cv, n⟩ := o
  unfold clVal
  simp only
  have hB := h.size
  obtain ⟨W, hW⟩ : ∃ W, w.alloc (.cells #[.int .i64 kd, .int .i64 ck, .int .i64 cx, .int .i64 cv, .int .i64 n] 45) = W := ⟨_, rfl⟩
  have hb0 : Below w.heap.size w W := by rw [← hW]; exact (Below.refl _ _).alloc (Nat.le_refl _) _
  have g0 : W.heap[w.heap.size]? = some (.cells #[.int .i64 kd, .int .i64 ck, .int .i64 cx, .int .i64 cv, .int .i64 n] 45 (0, 0)) := by rw [← hW]; exact heap_alloc_new w _
  have c0 : W.cell? ⟨w.heap.size, 0, none⟩ = some (.int .i64 kd) := cell_of g0 0
  have c1 : W.cell? ⟨w.heap.size, 1, none⟩ = some (.int .i64 ck) := cell_of g0 1
  have c2 : W.cell? ⟨w.heap.size, 2, none⟩ = some (.int .i64 cx) := cell_of g0 2
  have c3 : W.cell? ⟨w.heap.size, 3, none⟩ = some (.int .i64 cv) := cell_of g0 3
  have c4 : W.cell? ⟨w.heap.size, 4, none⟩ = some (.int .i64 n) := cell_of g0 4
  have HB : Hid (Below w.heap.size w W) := hb0
  have HA : Hid (StAt B W p nv mv s) := h.below hb0
  have HS0 : Hid (Stp B p nv mv w W) := Stp.of_below hb0 hB
  have HCt : Hid (Calls Tryd.prog 18 #[.pointer (some ⟨p, 0, none⟩), .agg #[.int .i64 ck, .int .i64 cx, .int .i64 cv]] W (CutOut B p nv mv s ck cx cv W)) := cut_any B p nv mv s ck cx cv W (h.below hb0)
  have HMk : Hid (Calls Tryd.prog 15 #[.pointer (some ⟨p, 0, none⟩)] W (MarkOut B p nv mv s W)) := mark_any B p nv mv s W (h.below hb0) hm
  have HBk : Hid (Calls Tryd.prog 16 #[.pointer (some ⟨p, 0, none⟩), .int .i64 n] W (BackOut B p nv mv s n W)) := back_any B p nv mv s n W (h.below hb0)
  clear hb0 g0 h
  by_cases h1 : kd = 1
  · subst h1
    have HD : Hid (s.does ⟨1, ck, cx, cv, n⟩ least = s.cut ck cx cv) := by show _ = _; unfold St.does; rw [if_pos rfl]
    go_enter Tryd.func13, Tryd.ntmps13
    go_wp2_with fail
    refine calls_at HCt.out (by with_reducible rfl) (by with_reducible rfl) ?_
    rintro e w1 ⟨rfl, ha1, hs1⟩
    have HF : Hid (StAt B w1 p nv mv (s.cut ck cx cv) ∧ Stp B p nv mv W w1) := ⟨ha1, hs1⟩
    clear ha1 hs1
    go_wp2_with fail
    refine bodyPost_ret (v := .tuple #[]) (by simp [results, Tryd.results13, go_sem]) rfl ?_
    exact ⟨mv, rfl, by rw [HD.out]; exact HF.out.1, HS0.out.trans HF.out.2 (fun g e => .inl e), fun k e => .inl e⟩
  by_cases h2 : kd = 2
  · subst h2
    have HD : Hid (s.does ⟨2, ck, cx, cv, n⟩ least = s.mark) := by show _ = _; unfold St.does; rw [if_neg (by simp), if_pos rfl]
    go_enter Tryd.func13, Tryd.ntmps13
    go_wp2_with fail
    refine calls_at HMk.out (by with_reducible rfl) (by with_reducible rfl) ?_
    rintro e w1 ⟨mv', rfl, ha1, hs1, hn1⟩
    have HF : Hid (StAt B w1 p nv mv' s.mark ∧ Stp B p nv mv W w1 ∧ ∀ k, mv'.ownBlock = some k → mv.ownBlock = some k ∨ W.heap.size ≤ k) := ⟨ha1, hs1, hn1⟩
    clear ha1 hs1 hn1
    go_wp2_with fail
    refine bodyPost_ret (v := .tuple #[]) (by simp [results, Tryd.results13, go_sem]) rfl ?_
    exact ⟨mv', rfl, by rw [HD.out]; exact HF.out.1, HS0.out.trans HF.out.2.1 (fun g e => .inl e), fun k e => (HF.out.2.2 k e).imp id (fun h => Nat.le_trans HB.out.size h)⟩
  by_cases h3 : kd = 3
  · subst h3
    by_cases h4 : least ≤ n
    · have HD : Hid (s.does ⟨3, ck, cx, cv, n⟩ least = s.back n) := by show _ = _; unfold St.does; rw [if_neg (by simp), if_neg (by simp), if_pos rfl, if_pos h4]
      go_enter Tryd.func13, Tryd.ntmps13
      go_wp2_with fail
      refine calls_at HBk.out (by with_reducible rfl) (by with_reducible rfl) ?_
      rintro e w1 ⟨mv', rfl, ha1, hs1, hn1⟩
      have HF : Hid (StAt B w1 p nv mv' (s.back n) ∧ Stp B p nv mv W w1 ∧ ∀ k, mv'.ownBlock = some k → mv.ownBlock = some k) := ⟨ha1, hs1, hn1⟩
      clear ha1 hs1 hn1
      go_wp2_with fail
      refine bodyPost_ret (v := .tuple #[]) (by simp [results, Tryd.results13, go_sem]) rfl ?_
      exact ⟨mv', rfl, by rw [HD.out]; exact HF.out.1, HS0.out.trans HF.out.2.1 (fun g e => .inl e), fun k e => .inl (HF.out.2.2 k e)⟩
    · have HD : Hid (s.does ⟨3, ck, cx, cv, n⟩ least = s) := by show _ = _; unfold St.does; rw [if_neg (by simp), if_neg (by simp), if_pos rfl, if_neg h4]
      go_enter Tryd.func13, Tryd.ntmps13
      go_wp2_with fail
      refine bodyPost_ret (v := .tuple #[]) (by simp [results, Tryd.results13, go_sem]) rfl ?_
      exact ⟨mv, rfl, by rw [HD.out]; exact HA.out, HS0.out, fun k e => .inl e⟩
  · have HD : Hid (s.does ⟨kd, ck, cx, cv, n⟩ least = s) := by show _ = _; unfold St.does; rw [if_neg h1, if_neg h2, if_neg h3]
    have e1 : (kd == 1) = false := by simp [h1]
    have e2 : (kd == 2) = false := by simp [h2]
    have e3 : (kd == 3) = false := by simp [h3]
    clear h1 h2 h3
    go_enter Tryd.func13, Tryd.ntmps13
    go_wp2_with fail
    refine bodyPost_ret (v := .tuple #[]) (by simp [results, Tryd.results13, go_sem]) rfl ?_
    exact ⟨mv, rfl, by rw [HD.out]; exact HA.out, HS0.out, fun k e => .inl e⟩
end Go.Proofs.YtakdboddbgihpaaDoor
