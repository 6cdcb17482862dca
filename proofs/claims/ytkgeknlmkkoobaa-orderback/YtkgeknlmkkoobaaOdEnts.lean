/-
  Put together: OdCopies, OdEntries.
-/
import Derived.Test.YtkgeknlmkkoobaaOdPoints
import Derived.Deep.MidRow
import Derived.Lib.SliceRun
namespace Go.Proofs.Ytkgeknlmkkoobaa
open Go.RowKit

theorem und27' : Try.prog.underlying 27 = some (.slice 3) := by kernel_rfl
theorem info3' : (Try.prog.info? 3).map (fun i => (i.zero, i.size, i.bytes)) = some (some (.int .i64 0), 1, 8) := by kernel_rfl
/-- make, of any elements. -/
theorem make_any {P : Program} (t e : TypeId) (z : Value) (size bytes : Nat) (ht : P.underlying t = some (.slice e)) (hinfo : (P.info? e).map (fun i => (i.zero, i.size, i.bytes)) = some (some z, size, bytes)) (n : Nat) (hb : bytes * n ≤ 281474976710656) (hn : n ≤ 9223372036854775807) (w : World) :
    (Instr.makeSlice t (.int .i64 (n : Int)) (.int .i64 (n : Int))).run P w = .ok (.slice (some ⟨w.heap.size, 0, none⟩) n n) (w.alloc (.cells (madeCells z.cells (n * size)) e)) := by
  obtain ⟨i, hi, hz, hs, hbb⟩ := info_of hinfo
  have hb' : (i.bytes : Int) * (n : Int) ≤ 281474976710656 := by
    have h : ((i.bytes * n : Nat) : Int) ≤ 281474976710656 := by rw [hbb]; omega
    rwa [Int.natCast_mul] at h
  have hr := run_make (P := P) w t e i z ht hi hz .i64 .i64 n n (by omega) (Int.le_refl _) hb' (by omega)
  simp only [Int.toNat_natCast, hs] at hr
  exact hr
theorem rowIs_made' (w : World) (zs : Array Value) (N : Nat) (t : TypeId) : (w.alloc (.cells (madeCells zs N) t)).rowIs w.heap.size t N (fun i => zs[i % zs.size]!) :=
  ⟨_, heap_alloc_new w _, size_madeCells _ _, fun i hi => by simp [madeCells, hi]⟩

/-- What Clone leaves. -/
def CloneOut (l : List Int) (w : World) (e : Ending) (w' : World) : Prop := ∃ v, e = .returned v ∧ w'.ownsRow w.heap.size 3 1 v l.length (l.map (.int .i64)) ∧ Below w.heap.size w w'
set_option maxRecDepth 10000 in
set_option maxHeartbeats 1000000 in
theorem clone_any (v : Value) (l : List Int) (w : World) (h : IntsAt w v l) (hl : l.length ≤ 1000000) : Calls Try.prog 42 #[v] w (CloneOut l w) := by
  have q27 : ∀ (w : World) (a : Option Addr) (n c n' c' : Nat), (binOp .eql 27 (.slice a n c) (.slice none n' c')).run Try.prog w = .ok (.bool a.isNone) w := fun w a n c n' c' => Lib.run_eql_slice_nil w _ _ a n c n' c' und27'
  have hs := h.src
  obtain ⟨a, cap, rfl, hm, hc⟩ := h
  cases a with
  | none =>
    have h0 : l = [] := by
      rcases Nat.eq_zero_or_pos l.length with h | h
      · exact List.length_eq_zero_iff.1 h
      · obtain ⟨b, off, hb, _⟩ := hc h
        cases hb
    subst h0
    clear hc hs hm hl
    go_enter Try.func42, Try.ntmps42
    go_wp2_with fail
    go_ret
    exact ⟨_, rfl, World.ownsRow_nil _ _ _ _, Below.refl _ _⟩
  | some ad =>
    obtain ⟨W, hW⟩ : ∃ W, w.alloc (.cells #[] 3) = W := ⟨_, rfl⟩
    have hbW : Below w.heap.size w W := by rw [← hW]; exact (Below.refl _ _).alloc (Nat.le_refl _) _
    have HBW : Hid (Below w.heap.size w W) := hbW
    have HO : Hid (W.ownsRow w.heap.size 3 1 (.slice (some ⟨w.heap.size, 0, none⟩) 0 0) 0 []) := by
      refine ⟨rfl, .inr ⟨w.heap.size, 0, #[], rfl, Nat.le_refl _, ?_, Nat.le_refl _, Nat.zero_le _, rfl, rfl⟩⟩
      rw [← hW]; exact heap_alloc_new w _
    have HS : Hid (SrcAt W (.slice (some ad) l.length cap) l.length 1 (l.map (.int .i64))) := by
      obtain ⟨a2, c2, he, h1, h2, h3, h4⟩ := hs
      refine ⟨a2, c2, he, h1, h2, h3, fun ad' ha j u hj => ?_⟩
      have := h4 ad' ha j u hj
      exact one_next hbW this
    clear hs hc hbW
    go_enter Try.func42, Try.ntmps42
    go_wp2_with (first
      | (at_builtin; refine append_src W rfl (.tmp 5) (.tmp 6) 27 3 (.int .i64 0) 1 8 rfl und27' info3' rfl (by decide) w.heap.size _ _ 0 l.length [] _ (by rfl) (by rfl) HO.out HS.out (by unfold maxLen; omega) (by omega) HBW.out.size ?_; intro v1 w1 ho1 hg1 hn1))
    have HO1 : Hid (w1.ownsRow w.heap.size 3 1 v1 l.length (l.map (.int .i64))) := by
      show World.ownsRow _ _ _ _ _ _ _
      rw [Nat.zero_add, List.nil_append] at ho1
      exact ho1
    have HB1 : Hid (Below w.heap.size w w1) := HBW.out.grown hg1 HBW.out.size (fun g hg => by simp [Value.ownBlock] at hg; omega)
    clear ho1 hg1 hn1
    go_wp2_with fail
    go_ret
    exact ⟨_, rfl, HO1.out, HB1.out⟩

/-- A list of cells put in. -/
def putL (f : Nat → Value) : Nat → List Value → Nat → Value
  | _, [] => f
  | o, v :: r => putL (put f o v) (o + 1) r
theorem putL_out : ∀ (vs : List Value) (f : Nat → Value) (o i : Nat), (i < o ∨ o + vs.length ≤ i) → putL f o vs i = f i
  | [], _, _, _, _ => rfl
  | v :: r, f, o, i, h => by
    simp only [List.length_cons] at h
    rw [putL, putL_out r _ (o + 1) i (by omega), put_other (by omega)]
theorem putL_in : ∀ (vs : List Value) (f : Nat → Value) (o j : Nat) (h : j < vs.length), putL f o vs (o + j) = vs[j]
  | v :: r, f, o, 0, _ => by
    rw [putL, putL_out r _ (o + 1) (o + 0) (by omega)]
    exact put_same _ _ _
  | v :: r, f, o, j + 1, h => by
    have := putL_in r (put f o v) (o + 1) j (by simpa using h)
    rw [putL, show o + (j + 1) = o + 1 + j by omega, this]
    rfl
theorem rowIs_setCells {b : Nat} {t : TypeId} {n : Nat} : ∀ (vs : List Value) (o : Nat) (w : World) (f : Nat → Value), w.rowIs b t n f → (w.setCells b o vs).rowIs b t n (putL f o vs)
  | [], _, _, _, h => h
  | v :: r, o, _, _, h => rowIs_setCells r (o + 1) _ _ (h.set o v)
theorem below_setCells {B b : Nat} {w0 : World} (hB : B ≤ b) : ∀ (vs : List Value) (o : Nat) (w : World), Below B w0 w → Below B w0 (w.setCells b o vs)
  | [], _, _, h => h
  | _ :: r, o, _, h => below_setCells hB r (o + 1) _ (h.setCell hB _)
theorem run_copy_src {P : Program} {w : World} (ty : TypeId) (dT sT : TypeId) (elem : TypeId) (hu : P.underlying dT = some (.slice elem)) (hsz : (P.info? elem).map (·.size) = some 1)
    (g off dLen dCap sLen : Nat) (sv : Value) (cs : List Value) (hsrc : SrcAt w sv sLen 1 cs) (hn : sLen ≤ dLen) (t : TypeId) (N : Nat) (f : Nat → Value) (hrow : w.rowIs g t N f) (hfit : off + sLen ≤ N) :
    (Builtin.copy_ #[dT, sT] ty #[.slice (some ⟨g, off, none⟩) dLen dCap, sv]).run P w = .ok (goInt sLen) (w.setCells g off cs) := by
  obtain ⟨ad, c, rfl, hl, h1, hnil, hcells⟩ := hsrc
  rw [Nat.mul_one] at hl
  cases ad with
  | none =>
    have hm : sLen = 0 := hnil rfl
    subst hm
    obtain rfl : cs = [] := List.length_eq_zero_iff.1 hl
    exact run_copy_none w dT sT ty elem _ _ dLen dCap 0 c hu hsz (by simp)
  | some ad =>
    have hc : ∀ j, j < cs.length → (w.cell? ⟨g, off + j, none⟩).isSome = true := fun j hj => by rw [hrow.cell (i := off + j) (by omega)]; rfl
    have hrun := run_copy_cells (P := P) w dT sT ty elem g off dLen dCap ad sLen c cs hu hsz (by rw [hl]; exact (Nat.min_eq_left hn).symm) (hcells ad rfl) hc (fun j _ => hrow.frozen _) h1
    rw [hrun, hl]
end Go.Proofs.Ytkgeknlmkkoobaa

namespace Od
/-- A Table's rows, as entries of eight. -/
def ent (rows : List (List Int)) (i : Nat) : Int := (rows.getD (i / 8) []).getD (i % 8) 0
theorem ent_row {rows : List (List Int)} {k c : Nat} (hk : k < rows.length) (hc : c < 8) : ent rows (k * 8 + c) = rows[k].getD c 0 := by
  unfold ent
  rw [show (k * 8 + c) / 8 = k by omega, show (k * 8 + c) % 8 = c by omega]
  simp [List.getD_eq_getElem?_getD, hk]
def entTo (rows : List (List Int)) (k i : Nat) : Int := if i < k * 8 then ent rows i else 0
end Od
namespace Go.Proofs.Ytkgeknlmkkoobaa
open Go.RowKit

theorem und84' : Try.prog.underlying 84 = some (.slice 104) := by kernel_rfl
theorem info104' : (Try.prog.info? 104).map (fun i => (i.zero, i.size, i.bytes)) = some (some (.agg #[.int .i64 0, .int .i64 0, .int .i64 0, .int .i64 0, .int .i64 0, .int .i64 0, .int .i64 0, .int .i64 0]), 8, 64) := by kernel_rfl
theorem info3s : (Try.prog.info? 3).map (·.size) = some 1 := by kernel_rfl
/-- What entries leaves. -/
def EntOut (rows : List (List Int)) (w : World) (e : Ending) (w' : World) : Prop := ∃ E, e = .returned (.slice (some ⟨E, 0, none⟩) rows.length rows.length) ∧ w.heap.size ≤ E ∧ w'.rowIs E 104 (rows.length * 8) (fun i => .int .i64 (Od.ent rows i)) ∧ Below w.heap.size w w'
theorem ent_next {rows : List (List Int)} {k : Nat} (hk : k < rows.length) (hl : rows[k].length ≤ 8) (i : Nat) : putL (fun i => .int .i64 (Od.entTo rows k i)) (k * 8) (rows[k].map (.int .i64)) i = .int .i64 (Od.entTo rows (k + 1) i) := by
  by_cases h1 : i < k * 8
  · rw [putL_out _ _ _ _ (.inl h1)]
    simp only [Od.entTo]
    rw [if_pos h1, if_pos (by omega)]
  · by_cases h2 : i < k * 8 + rows[k].length
    · obtain ⟨j, rfl⟩ : ∃ j, i = k * 8 + j := ⟨i - k * 8, by omega⟩
      have hj : j < rows[k].length := by omega
      rw [putL_in _ _ _ j (by simpa using hj)]
      simp only [Od.entTo]
      rw [if_pos (by omega), Od.ent_row hk (by omega)]
      simp [List.getD_eq_getElem?_getD, hj]
    · rw [putL_out _ _ _ _ (.inr (by simp; omega))]
      simp only [Od.entTo]
      rw [if_neg h1]
      by_cases h3 : i < (k + 1) * 8
      · rw [if_pos h3]
        obtain ⟨j, rfl⟩ : ∃ j, i = k * 8 + j := ⟨i - k * 8, by omega⟩
        rw [Od.ent_row hk (by omega)]
        have hj : ¬ j < rows[k].length := by omega
        simp [List.getD_eq_getElem?_getD, List.getElem?_eq_none (Nat.le_of_not_lt hj)]
      · rw [if_neg h3]

set_option maxRecDepth 10000 in
set_option maxHeartbeats 2000000 in
theorem entries_any (v : Value) (rows : List (List Int)) (w : World) (h : RowsAt w v rows) (hn : rows.length ≤ 1000000) (hl : ∀ k (h : k < rows.length), rows[k].length ≤ 8) : Calls Try.prog 43 #[v] w (EntOut rows w) := by
  have HR : Hid (RowsAt w v rows) := h
  obtain ⟨a, cap, rfl, _, _⟩ := h
  have hmk := fun w => make_any (P := Try.prog) 84 104 _ 8 64 und84' info104' rows.length (by omega) (by omega) w
  simp only [Value.cells] at hmk
  obtain ⟨W, hW⟩ : ∃ W, w.alloc (.cells (madeCells #[.int .i64 0, .int .i64 0, .int .i64 0, .int .i64 0, .int .i64 0, .int .i64 0, .int .i64 0, .int .i64 0] (rows.length * 8)) 104) = W := ⟨_, rfl⟩
  have HBW : Hid (Below w.heap.size w W) := by show Below _ _ _; rw [← hW]; exact (Below.refl _ _).alloc (Nat.le_refl _) _
  have HR0 : Hid (W.rowIs w.heap.size 104 (rows.length * 8) (fun i => .int .i64 (Od.entTo rows 0 i))) := by
    show World.rowIs _ _ _ _ _
    rw [← hW]
    refine (rowIs_made' w _ _ 104).congr fun i _ => ?_
    have e : Od.entTo rows 0 i = 0 := by simp [Od.entTo]
    rw [e]
    have h8 : i % 8 = 0 ∨ i % 8 = 1 ∨ i % 8 = 2 ∨ i % 8 = 3 ∨ i % 8 = 4 ∨ i % 8 = 5 ∨ i % 8 = 6 ∨ i % 8 = 7 := by omega
    show (#[Value.int .i64 0, .int .i64 0, .int .i64 0, .int .i64 0, .int .i64 0, .int .i64 0, .int .i64 0, .int .i64 0] : Array Value)[i % 8]! = _
    rcases h8 with h | h | h | h | h | h | h | h <;> rw [h] <;> rfl
  have HL : Hid (∀ k (h : k < rows.length), rows[k].length ≤ 8) := hl
  have HA : Hid (∀ w', Below w.heap.size w w' → RowsAt w' (.slice a rows.length cap) rows) := fun w' hb => HR.out.below hb
  clear HR hl
  go_enter Try.func43, Try.ntmps43
  go_wp2_with fail
  clear hmk hW
  go_loopw [11] (fun iv wr => ∃ k : Nat, iv = .int .i64 (k : Int) ∧ k ≤ rows.length ∧ Hid (wr.rowIs w.heap.size 104 (rows.length * 8) (fun i => .int .i64 (Od.entTo rows k i))) ∧ Hid (Below w.heap.size w wr)) (fun iv _ => rows.length - (intOf iv).toNat)
  case atStart => exact ⟨0, rfl, Nat.zero_le _, HR0, HBW⟩
  case round =>
    obtain ⟨k, rfl, hk, hRk, hB⟩ := hrel
    clear HR0
    by_cases hlt : k < rows.length
    · have hkI : (k : Int) < (rows.length : Int) := by omega
      obtain ⟨a', c', he, _, hco⟩ := HA.out wr hB.out
      injection he with e1 _ e3
      subst e1 e3
      obtain ⟨b, off, rfl, _, hcc⟩ := hco (by omega)
      obtain ⟨u, hu, hI⟩ := hcc k hlt
      have HS : Hid (SrcAt wr u rows[k].length 1 (rows[k].map (.int .i64))) := hI.src
      obtain ⟨ua, uc, rfl, _⟩ := hI.form
      have HNx := ent_next hlt (HL.out k hlt)
      have HRn : Hid ((wr.setCells w.heap.size (k * 8) (rows[k].map (.int .i64))).rowIs w.heap.size 104 (rows.length * 8) (fun i => .int .i64 (Od.entTo rows (k + 1) i))) := (rowIs_setCells _ (k * 8) wr _ hRk.out).congr fun i _ => HNx i
      have HBn : Hid (Below w.heap.size w (wr.setCells w.heap.size (k * 8) (rows[k].map (.int .i64)))) := below_setCells (Nat.le_refl _) _ _ _ hB.out
      have H8 : Hid (rows[k].length ≤ 8) := HL.out k hlt
      have HF : Hid (k * 8 + rows[k].length ≤ rows.length * 8) := by have := H8.out; show _ ≤ _; omega
      have hcp := run_copy_src (P := Try.prog) 3 27 27 3 und27' info3s w.heap.size (k * 8) 8 8 rows[k].length _ _ HS.out H8.out 104 _ _ hRk.out HF.out
      clear hcc hco hI HNx
      go_wp2_with fail
      go_roundw
      case rel => exact ⟨k + 1, by go_num, by omega, HRn, HBn⟩
      case measure => simp [intOf]; omega
    · have hkI : ¬ (k : Int) < (rows.length : Int) := by omega
      obtain rfl : k = rows.length := by omega
      have HRn : Hid (wr.rowIs w.heap.size 104 (rows.length * 8) (fun i => .int .i64 (Od.ent rows i))) := hRk.out.congr fun i hi => by simp only [Od.entTo]; rw [if_pos hi]
      go_wp2_with fail
      go_ret
      exact ⟨_, rfl, Nat.le_refl _, HRn.out, hB.out⟩
end Go.Proofs.Ytkgeknlmkkoobaa
