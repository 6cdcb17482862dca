/-
  Put together: PwLog, PwLay, PwDec, PwNum, PwPol.
-/
import Derived.Test.YtibbnijicdijnaaGreatDoorJ43
import Derived.Test.YtibbnijicdijnaaGreatDoorJ42
import Derived.Laws.BytesArg
import Derived.Deep.OwnRows
namespace Go.Proofs.YtibbnijicdijnaaGreatDoor
open Go.RowKit

/-- A log: its text, whether it is over, the last id, the goal. -/
def LgAt (B b : Nat) (T : List UInt8) (ov : Bool) (last : Int) (goal : Bool) (w : World) : Prop :=
  B ≤ b ∧ ∃ v, w.heap[b]? = some (.cells #[v, .bool ov, .int .i64 last, .bool goal] 77 (0, 0)) ∧ w.ownsRow B 5 1 v T.length (Lib.byteCells T)
theorem lg_ne {B b : Nat} {v x y z : Value} {n : Nat} {xs : List Value} {w : World} (hb : w.heap[b]? = some (.cells #[v, x, y, z] 77 (0, 0))) (hr : w.ownsRow B 5 1 v n xs) : v.ownBlock ≠ some b := by
  intro h
  rcases hr.2 with ⟨rfl, _⟩ | ⟨g, cap, cur, rfl, _, h2, _⟩
  · cases h
  · injection h with h
    subst h
    rw [hb] at h2
    injection h2 with h2
    injection h2 with _ h3
    cases h3
theorem LgAt.lt {B b : Nat} {T : List UInt8} {ov goal : Bool} {last : Int} {w : World} (h : LgAt B b T ov last goal w) : b < w.heap.size := by
  obtain ⟨_, _, h1, _⟩ := h
  exact (Array.getElem?_eq_some_iff.1 h1).1
theorem LgAt.below {B b : Nat} {T : List UInt8} {ov goal : Bool} {last : Int} {w w' : World} (h : LgAt B b T ov last goal w) (hb : Below w.heap.size w w') : LgAt B b T ov last goal w' := by
  have hl := h.lt
  obtain ⟨h0, v, h1, h2⟩ := h
  exact ⟨h0, v, (hb.block b hl).trans h1, own_next h2 hb⟩
theorem LgAt.set {B b : Nat} {T : List UInt8} {ov goal : Bool} {last : Int} {w : World} (h : LgAt B b T ov last goal w) (n : Int) : LgAt B b T ov n goal (w.setCell ⟨b, 2, none⟩ (.int .i64 n)) := by
  obtain ⟨h0, v, h1, h2⟩ := h
  exact ⟨h0, v, set_of h1 2 _, own_off (S := fun k => k = b) h2 (fun g hg e => by have e' : g = b := e; subst e'; exact lg_ne h1 h2 hg) (Ofw.set _ rfl)⟩
theorem LgAt.over {B b : Nat} {T : List UInt8} {ov goal : Bool} {last : Int} {w : World} (h : LgAt B b T ov last goal w) (o : Bool) : LgAt B b T o last goal (w.setCell ⟨b, 1, none⟩ (.bool o)) := by
  obtain ⟨h0, v, h1, h2⟩ := h
  exact ⟨h0, v, set_of h1 1 _, own_off (S := fun k => k = b) h2 (fun g hg e => by have e' : g = b := e; subst e'; exact lg_ne h1 h2 hg) (Ofw.set _ rfl)⟩

theorem wnext_any {B b : Nat} {T : List UInt8} {ov goal : Bool} {last : Int} (w : World) (h : LgAt B b T ov last goal w) (h0 : 0 ≤ last) (h1 : last ≤ 2000000000000000000) : Calls Tryz.prog 34 #[.pointer (some ⟨b, 2, none⟩)] w fun e w' => e = .returned (.int .i64 (last + 1)) ∧ w' = w := by
  obtain ⟨_, v, hb, _⟩ := h
  have c2 : w.cell? ⟨b, 2, none⟩ = some (.int .i64 last) := cell_of hb 2
  have hw : wrap64 (last + 1) = last + 1 := by unfold wrap64; omega
  clear hb
  go_enter Tryz.func34, Tryz.ntmps34
  go_wp2
  go_ret
  exact ⟨rfl, rfl⟩
set_option maxRecDepth 100000 in
theorem conv_own {B : Nat} {T : List UInt8} {a : Option Addr} {c : Nat} {w : World} (ho : w.ownsRow B 5 1 (.slice a T.length c) T.length (Lib.byteCells T)) : (convert 71 9 (.slice a T.length c)).run Tryz.prog w = .ok (.string (txtOf T)) w := by
  rcases ho.2 with ⟨hv, hn⟩ | ⟨g, cap, cur, hv, _⟩
  · injection hv with h1 h2 h3
    have hT : T = [] := List.length_eq_zero_iff.1 hn
    subst h1 hT
    exact run_convert_bytes_nil w 71 5 Tryz.underlying71 Tryz.underlying5 _ _ 9 Tryz.underlying9
  · injection hv with h1 h2 h3
    subst h1
    have := run_convert_bytes_arg w 71 5 Tryz.underlying71 Tryz.underlying5 g 0 T.length c (T.map fun x => (x.toNat : Int)) (by simp) (fun i hi => by
      have hc := ho.cells (g := g) rfl i (.int .u8 (T[i].toNat : Int)) (by simp [Lib.byteCells, hi])
      rw [addr_plain] at hc
      rw [Nat.zero_add, hc]
      simp [hi]) 9 Tryz.underlying9
    rw [this]
    have e : strOfNums (T.map fun x => (x.toNat : Int)) = txtOf T := by
      unfold strOfNums txtOf
      rw [List.map_map]
      congr 2
      conv => rhs; rw [← List.map_id T]
      exact List.map_congr_left fun x _ => by simp
    rw [e]
set_option maxRecDepth 10000 in
theorem wtext_any {B b : Nat} {T : List UInt8} {ov goal : Bool} {last : Int} (w : World) (h : LgAt B b T ov last goal w) : Calls Tryz.prog 32 #[.pointer (some ⟨b, 0, none⟩)] w fun e w' => e = .returned (.string (txtOf T)) ∧ w' = w := by
  obtain ⟨hB, v, hb, ho⟩ := h
  have c0 : w.cell? ⟨b, 0, none⟩ = some v := cell_of hb 0
  obtain ⟨a, c, rfl⟩ := own_slice ho
  have hcv := conv_own ho
  clear hb ho
  go_enter Tryz.func32, Tryz.ntmps32
  go_wp2
  go_ret
  exact ⟨rfl, rfl⟩
end Go.Proofs.YtibbnijicdijnaaGreatDoor

namespace Go.Proofs.YtibbnijicdijnaaGreatDoor
open Go.RowKit

/-- A log whose text is that of right steps. -/
structure LgD (B b : Nat) (D : List SL) (ov : Bool) (last : Int) (goal : Bool) (w : World) : Prop where
  at_ : LgAt B b (txt (D.map lnT)) ov last goal w
  ok : ∀ d ∈ D, parseP (lnT d) = (d, 0)
  tot : tot (D.map lnT) ≤ 9000000
theorem LgD.below {B b : Nat} {D : List SL} {ov goal : Bool} {last : Int} {w w' : World} (h : LgD B b D ov last goal w) (hb : Below w.heap.size w w') : LgD B b D ov last goal w' := ⟨h.at_.below hb, h.ok, h.tot⟩
/-- What a log's calls leave: all that lay below, and every block that is neither bytes nor a log. -/
structure Kw (B : Nat) (w w' : World) : Prop where
  low : Below B w w'
  other : ∀ (k : Nat) (c : Array Value) (ty : TypeId) (fz : Nat × Nat), w.heap[k]? = some (.cells c ty fz) → ty ≠ 5 → ty ≠ 77 → w'.heap[k]? = some (.cells c ty fz)
theorem Kw.refl (B : Nat) (w : World) : Kw B w w := ⟨Below.refl _ _, fun _ _ _ _ h _ _ => h⟩
theorem Kw.trans {B : Nat} {a b c : World} (h : Kw B a b) (k : Kw B b c) : Kw B a c := ⟨h.low.trans k.low, fun j x t z e h5 h8 => k.other j x t z (h.other j x t z e h5 h8) h5 h8⟩
theorem Kw.of_below {B : Nat} {w w' : World} (h : Below w.heap.size w w') (hB : B ≤ w.heap.size) : Kw B w w' :=
  ⟨h.mono hB, fun k _ _ _ e _ _ => (h.block k (Array.getElem?_eq_some_iff.1 e).1).trans e⟩
theorem Kw.set {B b i : Nat} {w : World} {cs : Array Value} {fr : Nat × Nat} {v : Value} (hb : w.heap[b]? = some (.cells cs 77 fr)) (hB : B ≤ b) : Kw B w (w.setCell ⟨b, i, none⟩ v) := by
  refine ⟨(Below.refl _ _).setCell hB _, fun k c ty fz e _ h7 => ?_⟩
  refine (heap_setCell_other _ _ _ _ ?_).trans e
  intro hk
  have hk' : k = b := hk
  subst hk'
  rw [hb] at e
  injection e with e
  injection e with _ e2
  exact h7 e2.symm
theorem Kw.grow {B n : Nat} {w w' : World} {v : Value} {xs : List Value} (hr : w.ownsRow B 5 1 v n xs) (hBw : B ≤ w.heap.size) (hg : w.grownBy w' v.ownBlock) : Kw B w w' := by
  refine ⟨⟨hg.os, hg.tape, hg.output, hg.size, fun k hk => hg.block k (Nat.lt_of_lt_of_le hk hBw) fun e => by have := (hr.lt k e.symm).1; omega⟩, fun k c ty fz e h5 _ => ?_⟩
  refine (hg.block k (Array.getElem?_eq_some_iff.1 e).1 fun h => ?_).trans e
  rcases hr.2 with ⟨rfl, _⟩ | ⟨g, cap, cur, rfl, _, h2, _⟩
  · cases h
  · injection h with h
    subst h
    rw [h2] at e
    injection e with e
    injection e with _ e2
    exact h5 e2.symm
/-- Some step has no line. -/
def Bad (ds : List SL) : Prop := ¬ ∀ d ∈ ds, parseP (lnT d) = (d, 0)
/-- How laying down ends. -/
def LyO (B b : Nat) (D : List SL) (ov : Bool) (last : Int) (goal : Bool) (ds : List SL) (w : World) (e : Ending) (w' : World) : Prop := ∃ r D', e = .returned (.int .i64 r) ∧ Kw B w w' ∧ LgD B b D' ov last goal w' ∧ ((r = 0 ∧ ov = false ∧ D' = D ++ ds) ∨ (r = 160 ∧ (ov = false ∧ Bad ds) ∧ D' = D) ∨ (r = 161 ∧ ov = true ∧ D' = D))
/-- Steps that may be laid down behind others. -/
structure Fit (D ds : List SL) : Prop where
  i : ∀ d ∈ ds, SlI d
  l : ∀ d ∈ ds, tot (lnW d) ≤ 9000000
  t : tot ((D ++ ds).map lnT) ≤ 9000000

theorem txt_two (D ds : List SL) : txt ((D ++ ds).map lnT) = txt (D.map lnT) ++ txt (ds.map lnT) := by simp [txt]

set_option maxRecDepth 100000 in
set_option maxHeartbeats 2000000 in
theorem lay_any {B b : Nat} {D : List SL} {ov goal : Bool} {last : Int} (ds : List SL) (v : Value) (w : World) (h : LgD B b D ov last goal w) (hS : StsR w v ds) (hf : Fit D ds) (hg : Gl w) (h12 : 12 ≤ B) : Calls Tryz.prog 51 #[.pointer (some ⟨b, 0, none⟩), v] w (LyO B b D ov last goal ds w) := by
  have hlt := h.at_.lt
  obtain ⟨hB, u, hb, ho⟩ := id h.at_
  have hBw : B ≤ w.heap.size := Nat.le_of_lt (Nat.lt_of_le_of_lt hB hlt)
  have c1 : w.cell? ⟨b, 1, none⟩ = some (.bool ov) := cell_of hb 1
  obtain ⟨a, c, rfl, hn, _⟩ := id hS
  have HD : Hid (LgD B b D ov last goal w) := h
  cases ov with
  | true =>
    clear ho hb
    go_enter Tryz.func51, Tryz.ntmps51
    go_wp2_with fail
    go_ret
    exact ⟨161, D, rfl, Kw.refl _ _, HD.out, .inr (.inr ⟨rfl, rfl, rfl⟩)⟩
  | false =>
    have htd : tot (D.map lnT) + tot (ds.map lnT) = tot ((D ++ ds).map lnT) := by rw [List.map_append, tot_app]
    have htt := hf.t
    have hcl : ds.length ≤ tot (ds.map lnT) := by
      have : ∀ l : List (List UInt8), l.length ≤ tot l := fun l => by
        induction l with
        | nil => simp
        | cons x l ih => rw [tot_cons, List.length_cons]; omega
      simpa using this (ds.map lnT)
    have HW : Hid (Calls Tryz.prog 11 #[.slice a ds.length c] w (WlO ds w)) := wlog_any ds _ w hS (by omega) (by omega) fun d hd w' vo vp vl vi hb' hs => print_any d vo vp vl vi w' hs (hf.i d hd) (hf.l d hd) (hg.to hb' (Nat.le_trans h12 hBw)) (Nat.le_trans h12 (Nat.le_trans hBw hb'.size))
    obtain ⟨i0, hi, hz0, hz1, hz2⟩ := byteInfo
    have HT : Hid (tot ((D ++ ds).map lnT) ≤ 9000000) := htt
    have HTd : Hid (tot (D.map lnT) + tot (ds.map lnT) = tot ((D ++ ds).map lnT)) := htd
    clear ho hb h hS hf hg hn htt htd hcl
    go_enter Tryz.func51, Tryz.ntmps51
    go_wp2_with fail
    refine calls_at HW.out (by with_reducible rfl) (by with_reducible rfl) ?_
    rintro e w1 ⟨hb1, hq⟩
    have HB1 : Hid (Below w.heap.size w w1) := hb1
    rcases hq with ⟨rfl, hok⟩ | ⟨pre, d, post, f, hsp, _, hno, rfl, _⟩
    · have HOk : Hid (∀ d ∈ ds, parseP (lnT d) = (d, 0)) := hok
      have hd1 := HD.out.below hb1
      obtain ⟨_, u, hbk, hown⟩ := id hd1.at_
      have HD1 : Hid (LgD B b D false last goal w1) := hd1
      have c0 : w1.cell? ⟨b, 0, none⟩ = some u := cell_of hbk 0
      have HBk : Hid (w1.heap[b]? = some (.cells #[u, .bool false, .int .i64 last, .bool goal] 77 (0, 0))) := hbk
      have HOw : Hid (w1.ownsRow B 5 1 u (txt (D.map lnT)).length (Lib.byteCells (txt (D.map lnT)))) := hown
      obtain ⟨ua, uc, rfl⟩ := own_slice hown
      obtain ⟨y, hy⟩ : ∃ y, txt (ds.map lnT) = y := ⟨_, rfl⟩
      rw [hy]
      have Hy : Hid (txt (ds.map lnT) = y) := hy
      clear hb1 hok hd1 hbk hy
      go_wp2_with (at_builtin; refine Lib.wpList_append_own_string _ rfl _ _ 71 9 rfl B 5 i0 Tryz.underlying71 Tryz.underlying9 hi hz0 hz1 hz2 _ _ _ rfl hown (txtOf y) rfl ?c3 ?c4 ?c5 ?_)
      case c3 => have h1 := HTd.out; have h2 := HT.out; have h3 := txt_len (ds.map lnT); have h4 := txt_len (D.map lnT); rw [Hy.out] at h3; rw [txt_size]; unfold maxLen; omega
      case c4 => have h1 := HTd.out; have h2 := HT.out; have h3 := txt_len (ds.map lnT); have h4 := txt_len (D.map lnT); rw [Hy.out] at h3; rw [txt_size]; omega
      case c5 => have := HB1.out.size; omega
      intro v' w2 hown' hgrow _
      have hne := lg_ne HBk.out HOw.out
      have hlt1 : b < w1.heap.size := (Array.getElem?_eq_some_iff.1 HBk.out).1
      have hb2 : w2.heap[b]? = some (.cells #[.slice ua (txt (D.map lnT)).length uc, .bool false, .int .i64 last, .bool goal] 77 (0, 0)) := by
        rw [hgrow.block b hlt1 (fun e => hne e.symm)]
        exact HBk.out
      have d1 : w2.cell? ⟨b, 0, none⟩ = some (.slice ua (txt (D.map lnT)).length uc) := cell_of hb2 0
      have f1 : w2.frozen? ⟨b, 0, none⟩ = false := frozen_of hb2 0
      have HO2 : w2.ownsRow B 5 1 v' (txt ((D ++ ds).map lnT)).length (Lib.byteCells (txt ((D ++ ds).map lnT))) := by
        rw [txt_two, Hy.out]
        have e : Lib.byteCells (txt (D.map lnT) ++ y) = Lib.byteCells (txt (D.map lnT)) ++ Lib.strCells (txtOf y) := by simp [Lib.byteCells, Lib.strCells, txtOf]
        rw [e, List.length_append]
        have := hown'
        simpa [Lib.strCells_length, txt_size] using this
      have hB12 : Kw B w1 w2 := Kw.grow HOw.out (Nat.le_trans hBw HB1.out.size) hgrow
      have HE : Hid (LyO B b D false last goal ds w (.returned (.int .i64 0)) (w2.setCell ⟨b, 0, none⟩ v')) := by
        refine ⟨0, D ++ ds, rfl, ((Kw.of_below HB1.out hBw).trans hB12).trans (Kw.set hb2 hB), ⟨⟨hB, v', set_of hb2 0 _, ?_⟩, ?_, HT.out⟩, .inl ⟨rfl, rfl, rfl⟩⟩
        · refine own_off (S := fun k => k = b) HO2 (fun g hg e => ?_) (Ofw.set _ rfl)
          have e' : g = b := e
          subst e'
          rcases HO2.2 with ⟨rfl, _⟩ | ⟨g', cap, cur, rfl, _, h2, _⟩
          · cases hg
          · injection hg with hg
            subst hg
            rw [hb2] at h2
            injection h2 with h2
            injection h2 with _ h3
            cases h3
        · intro d hd
          rcases List.mem_append.1 hd with hd | hd
          · exact HD.out.ok d hd
          · exact HOk.out d hd
      obtain ⟨va, vc, rfl⟩ := own_slice HO2
      obtain ⟨n2, hn2⟩ : ∃ n, (txt ((D ++ ds).map lnT)).length = n := ⟨_, rfl⟩
      rw [hn2] at HE
      rw [hn2]
      clear hn2
      clear hb2 hgrow hown' HO2 hB12 hown
      go_wp2_with fail
      go_ret
      exact HE.out
    · have HE : Hid (LyO B b D false last goal ds w (.returned (.int .i64 160)) w1) := ⟨160, D, rfl, Kw.of_below hb1 hBw, HD.out.below hb1, .inr (.inl ⟨rfl, ⟨rfl, fun h => hno (h d (by rw [hsp]; simp))⟩, rfl⟩)⟩
      clear hb1 hsp hno
      go_wp2_with fail
      go_ret
      exact HE.out
end Go.Proofs.YtibbnijicdijnaaGreatDoor

namespace Go.Proofs.YtibbnijicdijnaaGreatDoor
open Go.RowKit

/-- A number's text, where 0 says that it isn't given. -/
def givT (n : Int) : List UInt8 := if n = 0 then [] else Lib.itoa n
theorem given_any (n : Int) (w : World) (h : -9223372036854775808 ≤ n ∧ n ≤ 9223372036854775807) (hg : Gl w) : Calls Tryz.prog 78 #[.int .i64 n] w fun e w' => e = .returned (.string (txtOf (givT n))) ∧ Below w.heap.size w w' := by
  have HI : Hid (Calls Tryz.prog 52 #[.int .i64 n] w fun e w' => e = .returned (.string (txtOf (Lib.itoa n))) ∧ Below w.heap.size w w') := itoa_any n w h.1 h.2 hg
  unfold givT
  clear h hg
  by_cases hn : n = 0
  · subst hn
    go_enter Tryz.func78, Tryz.ntmps78
    go_wp2_with fail
    go_ret
    exact ⟨rfl, Below.refl _ _⟩
  · have hb : (n == 0) = false := by simpa using hn
    rw [if_neg hn]
    go_enter Tryz.func78, Tryz.ntmps78
    go_wp2_with fail
    refine calls_at HI.out (by with_reducible rfl) (by with_reducible rfl) ?_
    rintro e w1 ⟨rfl, hb1⟩
    go_wp2_with fail
    go_ret
    exact ⟨rfl, hb1⟩
/-- Numbers as texts. -/
def decF (L : List Int) (i : Nat) (j : Nat) : Value := if j < i then .string (txtOf (Lib.itoa (L.getD j 0))) else .string ⟨#[]⟩
set_option maxRecDepth 10000 in
set_option maxHeartbeats 2000000 in
theorem dec_any (L : List Int) (v : Value) (w : World) (hR : RdAt w v L.length (L.map (.int .i64))) (hI : ∀ x ∈ L, -9223372036854775808 ≤ x ∧ x ≤ 9223372036854775807) (hn : L.length ≤ 1000000) (hg : Gl w) (h12 : 12 ≤ w.heap.size) : Calls Tryz.prog 54 #[v] w fun e w' => e = .returned (.slice (some ⟨w.heap.size, 0, none⟩) L.length L.length) ∧ RdAt w' (.slice (some ⟨w.heap.size, 0, none⟩) L.length L.length) L.length ((L.map Lib.itoa).map fun x => .string (txtOf x)) ∧ Below w.heap.size w w' := by
  obtain ⟨a, c, rfl, _, hc⟩ := id hR
  have hmk : ∀ w, (Instr.makeSlice 43 (.int .i64 (L.length : Int)) (.int .i64 (L.length : Int))).run Tryz.prog w = .ok (.slice (some ⟨w.heap.size, 0, none⟩) L.length L.length) (w.alloc (.cells (madeCells #[.string ⟨#[]⟩] L.length) 9)) := run_make_row' (P := Tryz.prog) 43 9 (.string ⟨#[]⟩) 16 un43 inf9 rfl .i64 .i64 L.length (by omega) (by omega)
  obtain ⟨V, hV⟩ : ∃ V, w.alloc (.cells (madeCells #[.string ⟨#[]⟩] L.length) 9) = V := ⟨_, rfl⟩
  have hbV : Below w.heap.size w V := by rw [← hV]; exact (Below.refl _ _).alloc (Nat.le_refl _) _
  have HRw : Hid (V.rowIs w.heap.size 9 L.length (decF L 0)) := by
    rw [← hV]
    exact (World.rowIs_made w (.string ⟨#[]⟩) L.length 9).congr (fun j _ => by simp [decF])
  have HBV : Hid (Below w.heap.size w V) := hbV
  have HR : Hid (RdAt w (.slice a L.length c) L.length (L.map (.int .i64))) := hR
  have HIt : Hid (∀ x ∈ L, ∀ w', Below w.heap.size w w' → Calls Tryz.prog 52 #[.int .i64 x] w' fun e w2 => e = .returned (.string (txtOf (Lib.itoa x))) ∧ Below w'.heap.size w' w2) := fun x hx w' hb => itoa_any x w' (hI x hx).1 (hI x hx).2 (hg.to hb h12)
  clear hR hI hg h12 hbV hc
  go_enter Tryz.func54, Tryz.ntmps54
  go_wp2_with fail
  try rw [hV]
  clear hV
  go_loopw [11] (fun iv wr => ∃ i : Nat, iv = .int .i64 (i : Int) ∧ i ≤ L.length ∧ Hid (wr.rowIs w.heap.size 9 L.length (decF L i) ∧ Below w.heap.size w wr)) (fun iv _ => L.length - (intOf iv).toNat)
  case atStart => exact ⟨0, rfl, Nat.zero_le _, HRw.out, HBV.out⟩
  case round =>
    obtain ⟨i, rfl, hi, HK⟩ := hrel
    by_cases hin : i < L.length
    · have hiI : (i : Int) < (L.length : Int) := by omega
      obtain ⟨g, off, rfl, lcell⟩ := (HR.out.below HK.out.2).at i hin
      have x0 : wr.cell? ⟨g, off + i, none⟩ = some (.int .i64 L[i]) := lcell i _ (by simp [hin])
      have HC := HIt.out L[i] (List.getElem_mem hin) wr HK.out.2
      have hgd : L.getD i 0 = L[i] := by simp [List.getD, hin]
      obtain ⟨x, hx⟩ : ∃ x, L[i] = x := ⟨_, rfl⟩
      rw [hx] at x0 HC hgd
      have Hgd : Hid (L.getD i 0 = x) := hgd
      have HCx : Hid (Calls Tryz.prog 52 #[.int .i64 x] wr fun e w2 => e = .returned (.string (txtOf (Lib.itoa x))) ∧ Below wr.heap.size wr w2) := HC
      clear lcell hx HC hgd
      go_wp2_with fail
      refine calls_at HCx.out (by with_reducible rfl) (by with_reducible rfl) ?_
      rintro e w2 ⟨rfl, hb2⟩
      have hr2 : w2.rowIs w.heap.size 9 L.length (decF L i) := HK.out.1.of_block (hb2.block _ HK.out.1.lt)
      have HR2 : Hid (w2.rowIs w.heap.size 9 L.length (decF L i)) := hr2
      have HB2 : Hid (Below w.heap.size w w2) := bl_next HK.out.2 hb2
      have y0 : w2.cell? ⟨w.heap.size, i, none⟩ = some (decF L i i) := hr2.cell hin
      have z0 : w2.frozen? ⟨w.heap.size, i, none⟩ = false := hr2.frozen i
      have e0 : decF L i i = .string ⟨#[]⟩ := by unfold decF; rw [if_neg (Nat.lt_irrefl _)]
      rw [e0] at y0
      clear hr2 hb2 e0 x0
      have HE : Hid ((w2.setCell ⟨w.heap.size, i, none⟩ (.string (txtOf (Lib.itoa x)))).rowIs w.heap.size 9 L.length (decF L (i + 1)) ∧ Below w.heap.size w (w2.setCell ⟨w.heap.size, i, none⟩ (.string (txtOf (Lib.itoa x))))) := by
        refine ⟨(HR2.out.set i _).congr fun j _ => ?_, HB2.out.setCell (Nat.le_refl _) _⟩
        unfold decF
        by_cases hj : j = i
        · subst hj
          rw [if_pos rfl, if_pos (Nat.lt_succ_self _), Hgd.out]
        · rw [if_neg hj]
          by_cases hj2 : j < i
          · rw [if_pos hj2, if_pos (by omega)]
          · rw [if_neg hj2, if_neg (by omega)]
      go_wp2_with fail
      go_roundw
      case rel => exact ⟨i + 1, by go_num, hin, HE⟩
      case measure => simp [intOf]; omega
    · have hiI : ¬ (i : Int) < (L.length : Int) := by omega
      have HE : Hid (RdAt wr (.slice (some ⟨w.heap.size, 0, none⟩) L.length L.length) L.length ((L.map Lib.itoa).map fun x => .string (txtOf x)) ∧ Below w.heap.size w wr) := by
        refine ⟨⟨_, _, rfl, by omega, fun _ => ⟨w.heap.size, 0, rfl, HK.out.1.lt, fun j u hu => ?_⟩⟩, HK.out.2⟩
        obtain ⟨hj, he⟩ := List.getElem?_eq_some_iff.1 hu
        have hj' : j < L.length := by simpa using hj
        have := HK.out.1.cell hj'
        rw [Nat.zero_add, this, ← he]
        unfold decF
        rw [if_pos (by omega)]
        simp [List.getD, hj']
      go_wp2_with fail
      go_ret
      exact ⟨rfl, by have h := HE.out; rw [List.map_map] at h; exact h⟩
end Go.Proofs.YtibbnijicdijnaaGreatDoor

namespace Go.Proofs.YtibbnijicdijnaaGreatDoor
open Go.RowKit

theorem sts_one {w : World} {d : SL} {vo vp vl vi : Value} (h : SlR w d vo vp vl vi) : StsR (w.alloc (.cells (slC d vo vp vl vi) 45)) (.slice (some ⟨w.heap.size, 0, none⟩) 1 1) [d] := by
  have hb : Below w.heap.size w (w.alloc (.cells (slC d vo vp vl vi) 45)) := (Below.refl _ _).alloc (Nat.le_refl _) _
  have hg := heap_alloc_new w (.cells (slC d vo vp vl vi) 45)
  refine ⟨some ⟨w.heap.size, 0, none⟩, 1, rfl, by simp, fun i hi => ?_⟩
  have hi0 : i = 0 := by simp at hi; exact hi
  subst hi0
  refine ⟨w.heap.size, 0, vo, vp, vl, vi, rfl, (Array.getElem?_eq_some_iff.1 hg).1, h.below hb, fun j _ => ?_⟩
  rw [Nat.zero_mul, Nat.zero_add, cell_of hg]
  rfl
/-- How a call ends that adds a row. -/
def NuO (B b : Nat) (D : List SL) (ov : Bool) (last : Int) (goal : Bool) (d : SL) (w : World) (e : Ending) (w' : World) : Prop := ∃ n r D' last', e = .returned (.tuple #[.int .i64 n, .int .i64 r]) ∧ Kw B w w' ∧ LgD B b D' ov last' goal w' ∧ ((r = 0 ∧ ov = false ∧ D' = D ++ [d] ∧ n = last + 1 ∧ last' = last + 1) ∨ (r = 160 ∧ (ov = false ∧ Bad [d]) ∧ D' = D ∧ n = 0 ∧ last' = last) ∨ (r = 161 ∧ ov = true ∧ D' = D ∧ n = 0 ∧ last' = last))

set_option maxRecDepth 10000 in
set_option maxHeartbeats 2000000 in
theorem num_log {B b : Nat} {D : List SL} {ov goal : Bool} {last : Int} (d : SL) (vo vp vl vi : Value) (w : World) (h : LgD B b D ov last goal w) (hS : SlR w d vo vp vl vi) (hf : Fit D [d]) (h0 : 0 ≤ last) (h1 : last ≤ 2000000000000000000) (hg : Gl w) (h12 : 12 ≤ B) : Calls Tryz.prog 53 #[.pointer (some ⟨b, 2, none⟩), .func (.func 51) #[.pointer (some ⟨b, 0, none⟩)] #[], .agg (slC d vo vp vl vi)] w (NuO B b D ov last goal d w) := by
  have hB := h.at_.1
  have hlt := h.at_.lt
  have hBw : B ≤ w.heap.size := Nat.le_of_lt (Nat.lt_of_le_of_lt hB hlt)
  obtain ⟨W, hW⟩ : ∃ W, w.alloc (.cells (slC d vo vp vl vi) 45) = W := ⟨_, rfl⟩
  have hbW : Below w.heap.size w W := by rw [← hW]; exact (Below.refl _ _).alloc (Nat.le_refl _) _
  have gW : W.heap[w.heap.size]? = some (.cells (slC d vo vp vl vi) 45 (0, 0)) := by rw [← hW]; exact heap_alloc_new w _
  obtain ⟨V, hV⟩ : ∃ V, W.alloc (.cells (slC d vo vp vl vi) 45) = V := ⟨_, rfl⟩
  have hbV : Below W.heap.size W V := by rw [← hV]; exact (Below.refl _ _).alloc (Nat.le_refl _) _
  have hwV : Below w.heap.size w V := bl_next hbW hbV
  have HLy : Hid (Calls Tryz.prog 51 #[.pointer (some ⟨b, 0, none⟩), .slice (some ⟨W.heap.size, 0, none⟩) 1 1] V (LyO B b D ov last goal [d] V)) := lay_any [d] _ V (h.below hwV) (by rw [← hV]; exact sts_one (hS.below hbW)) hf (hg.to hwV (Nat.le_trans h12 hBw)) h12
  have HB : Hid (Kw B w V) := Kw.of_below hwV hBw
  obtain ⟨oa, oc, rfl, _, _⟩ := id hS.o
  obtain ⟨pa, pc, rfl, _, _⟩ := id hS.p
  obtain ⟨la, lc, rfl, _, _⟩ := id hS.l
  obtain ⟨ia, ic, rfl, _, _⟩ := id hS.i
  unfold slC at hW gW hV
  unfold slC
  have q0 : W.cell? ⟨w.heap.size, 0, none⟩ = some (.int .i64 d.k) := cell_of gW 0
  have q1 : W.cell? ⟨w.heap.size, 1, none⟩ = some (.string (txtOf d.n)) := cell_of gW 1
  have q2 : W.cell? ⟨w.heap.size, 2, none⟩ = some (.slice oa d.ops.length oc) := cell_of gW 2
  have q3 : W.cell? ⟨w.heap.size, 3, none⟩ = some (.slice pa d.pcs.length pc) := cell_of gW 3
  have q4 : W.cell? ⟨w.heap.size, 4, none⟩ = some (.string (txtOf d.deg)) := cell_of gW 4
  have q5 : W.cell? ⟨w.heap.size, 5, none⟩ = some (.slice la d.lits.length lc) := cell_of gW 5
  have q6 : W.cell? ⟨w.heap.size, 6, none⟩ = some (.slice ia d.ids.length ic) := cell_of gW 6
  have q7 : W.cell? ⟨w.heap.size, 7, none⟩ = some (.int .i64 d.ends) := cell_of gW 7
  have q8 : W.cell? ⟨w.heap.size, 8, none⟩ = some (.string (txtOf d.low)) := cell_of gW 8
  have q9 : W.cell? ⟨w.heap.size, 9, none⟩ = some (.string (txtOf d.high)) := cell_of gW 9
  clear h hS hf hg hbW gW hbV hwV
  go_enter Tryz.func53, Tryz.ntmps53
  go_wp2_with fail
  refine calls_at HLy.out (by with_reducible rfl) (by with_reducible rfl) ?_
  rintro e w1 ⟨r, D', rfl, hb1, hD1, hq⟩
  have HB1 : Hid (Kw B w w1) := HB.out.trans hb1
  have HD1 : Hid (LgD B b D' ov last goal w1) := hD1
  clear hb1 hW hV q0 q1 q2 q3 q4 q5 q6 q7 q8 q9 HLy
  rcases hq with ⟨rfl, hov, rfl⟩ | ⟨rfl, hov, rfl⟩ | ⟨rfl, hov, rfl⟩
  · have HN : Hid (Calls Tryz.prog 34 #[.pointer (some ⟨b, 2, none⟩)] w1 fun e w' => e = .returned (.int .i64 (last + 1)) ∧ w' = w1) := wnext_any w1 hD1.at_ h0 h1
    obtain ⟨_, u, hbk, _⟩ := id hD1.at_
    have c2 : w1.cell? ⟨b, 2, none⟩ = some (.int .i64 last) := cell_of hbk 2
    have z2 := frozen_of hbk 2
    have HE : Hid (NuO B b D ov last goal d w (.returned (.tuple #[.int .i64 (last + 1), .int .i64 0])) (w1.setCell ⟨b, 2, none⟩ (.int .i64 (last + 1)))) := ⟨last + 1, 0, _, last + 1, rfl, HB1.out.trans (Kw.set hbk hB), ⟨hD1.at_.set _, hD1.ok, hD1.tot⟩, .inl ⟨rfl, hov, rfl, rfl, rfl⟩⟩
    have c3 : (w1.setCell ⟨b, 2, none⟩ (.int .i64 (last + 1))).cell? ⟨b, 2, none⟩ = some (.int .i64 (last + 1)) := cell_of (set_of hbk 2 _) 2
    clear hD1 hbk
    go_wp2_with fail
    refine calls_at HN.out (by with_reducible rfl) (by with_reducible rfl) ?_
    rintro e w2 ⟨rfl, h2⟩
    rw [h2]
    clear h2
    go_wp2_with fail
    go_ret2
    exact HE.out
  · have HE : Hid (NuO B b D' ov last goal d w (.returned (.tuple #[.int .i64 0, .int .i64 160])) w1) := ⟨0, 160, _, last, rfl, HB1.out, HD1.out, .inr (.inl ⟨rfl, hov, rfl, rfl, rfl⟩)⟩
    clear hD1
    go_wp2_with fail
    go_ret2
    exact HE.out
  · have HE : Hid (NuO B b D' ov last goal d w (.returned (.tuple #[.int .i64 0, .int .i64 161])) w1) := ⟨0, 161, _, last, rfl, HB1.out, HD1.out, .inr (.inr ⟨rfl, hov, rfl, rfl, rfl⟩)⟩
    clear hD1
    go_wp2_with fail
    go_ret2
    exact HE.out
/-- How the end ends. -/
def FiO (B b : Nat) (D : List SL) (ov : Bool) (last : Int) (goal : Bool) (ds : List SL) (w : World) (e : Ending) (w' : World) : Prop := ∃ r D' ov', e = .returned (.int .i64 r) ∧ Kw B w w' ∧ LgD B b D' ov' last goal w' ∧ ((r = 0 ∧ ov = false ∧ D' = D ++ ds ∧ ov' = true) ∨ (r = 160 ∧ (ov = false ∧ Bad ds) ∧ D' = D ∧ ov' = false) ∨ (r = 161 ∧ ov = true ∧ D' = D ∧ ov' = true))
set_option maxRecDepth 10000 in
set_option maxHeartbeats 2000000 in
theorem wfin_any {B b : Nat} {D : List SL} {ov goal : Bool} {last : Int} (ds : List SL) (v : Value) (w : World) (h : LgD B b D ov last goal w) (hS : StsR w v ds) (hf : Fit D ds) (hg : Gl w) (h12 : 12 ≤ B) : Calls Tryz.prog 55 #[.pointer (some ⟨b, 0, none⟩), v] w (FiO B b D ov last goal ds w) := by
  have hB := h.at_.1
  have HLy : Hid (Calls Tryz.prog 51 #[.pointer (some ⟨b, 0, none⟩), v] w (LyO B b D ov last goal ds w)) := lay_any ds v w h hS hf hg h12
  clear h hS hf hg
  go_enter Tryz.func55, Tryz.ntmps55
  go_wp2_with fail
  refine calls_at HLy.out (by with_reducible rfl) (by with_reducible rfl) ?_
  rintro e w1 ⟨r, D', rfl, hb1, hD1, hq⟩
  have HB1 : Hid (Kw B w w1) := hb1
  have HD1 : Hid (LgD B b D' ov last goal w1) := hD1
  clear hb1 HLy
  rcases hq with ⟨rfl, hov, rfl⟩ | ⟨rfl, hov, rfl⟩ | ⟨rfl, hov, rfl⟩
  · obtain ⟨_, u, hbk, _⟩ := id hD1.at_
    have c1 : w1.cell? ⟨b, 1, none⟩ = some (.bool ov) := cell_of hbk 1
    have z1 := frozen_of hbk 1
    have HE : Hid (FiO B b D ov last goal ds w (.returned (.int .i64 0)) (w1.setCell ⟨b, 1, none⟩ (.bool true))) := ⟨0, _, true, rfl, HB1.out.trans (Kw.set hbk hB), ⟨hD1.at_.over _, hD1.ok, hD1.tot⟩, .inl ⟨rfl, hov, rfl, rfl⟩⟩
    clear hD1 hbk hov
    go_wp2_with fail
    go_ret
    exact HE.out
  · have HE : Hid (FiO B b D' ov last goal ds w (.returned (.int .i64 160)) w1) := ⟨160, _, ov, rfl, HB1.out, HD1.out, .inr (.inl ⟨rfl, hov, rfl, hov.1⟩)⟩
    clear hD1
    go_wp2_with fail
    go_ret
    exact HE.out
  · have HE : Hid (FiO B b D' ov last goal ds w (.returned (.int .i64 161)) w1) := ⟨161, _, ov, rfl, HB1.out, HD1.out, .inr (.inr ⟨rfl, hov, rfl, hov⟩)⟩
    clear hD1
    go_wp2_with fail
    go_ret
    exact HE.out
/-- The steps of a log. -/
theorem wsteps_any {B b : Nat} {D : List SL} {ov goal : Bool} {last : Int} (w : World) (h : LgD B b D ov last goal w) (hg : Gl w) (h12 : 12 ≤ w.heap.size) : Calls Tryz.prog 33 #[.pointer (some ⟨b, 0, none⟩)] w fun e w' => ∃ a c, e = .returned (.slice a D.length c) ∧ StsR w' (.slice a D.length c) D ∧ Below w.heap.size w w' := by
  have HT : Hid (Calls Tryz.prog 32 #[.pointer (some ⟨b, 0, none⟩)] w fun e w' => e = .returned (.string (txtOf (txt (D.map lnT)))) ∧ w' = w) := wtext_any w h.at_
  have HR : Hid (Calls Tryz.prog 15 #[.string (txtOf (txt (D.map lnT)))] w fun e w' => ∃ a c, e = .returned (.tuple #[.slice a D.length c, .nilIface]) ∧ StsR w' (.slice a D.length c) D ∧ Below w.heap.size w w') := read_right_log (fun d hd => by
    have h1 : er (lnT d) = 0 := by show (parseP (lnT d)).2 = 0; rw [h.ok d hd]
    have h2 : gd (lnT d) = d := by show (parseP (lnT d)).1 = d; rw [h.ok d hd]
    obtain ⟨L, hL, _⟩ := er_right h1
    rw [h2] at hL
    exact ⟨L, hL⟩) h.tot w hg h12
  clear h hg h12
  go_enter Tryz.func33, Tryz.ntmps33
  go_wp2_with fail
  refine calls_at HT.out (by with_reducible rfl) (by with_reducible rfl) ?_
  rintro e w1 ⟨rfl, h1⟩
  rw [h1]
  clear h1
  go_wp2_with fail
  refine calls_at HR.out (by with_reducible rfl) (by with_reducible rfl) ?_
  rintro e w2 ⟨a, c, rfl, h2, h3⟩
  have HE : Hid (StsR w2 (.slice a D.length c) D ∧ Below w.heap.size w w2) := ⟨h2, h3⟩
  clear h2 h3
  go_wp2_with fail
  go_ret
  exact ⟨a, c, rfl, HE.out⟩
end Go.Proofs.YtibbnijicdijnaaGreatDoor

namespace Go.Proofs.YtibbnijicdijnaaGreatDoor
open Go.RowKit

def polS (F : List OpL) : SL := { SL.zero with k := 3, ops := F }
set_option maxRecDepth 10000 in
set_option maxHeartbeats 2000000 in
theorem pol_any {B b : Nat} {D : List SL} {ov goal : Bool} {last : Int} (F : List OpL) (v : Value) (w : World) (h : LgD B b D ov last goal w) (hR : RdAt w v F.length (opsC F)) (hf : Fit D [polS F]) (h0 : 0 ≤ last) (h1 : last ≤ 2000000000000000000) (hg : Gl w) (h12 : 12 ≤ B) : Calls Tryz.prog 24 #[.pointer (some ⟨b, 0, none⟩), v] w (NuO B b D ov last goal (polS F) w) := by
  obtain ⟨a, c, rfl, _, _⟩ := id hR
  have hmf : ∀ (fn : Fn) (first cap : Array Value) (w : World), (Instr.makeFunc fn first cap).run Tryz.prog w = .ok (.func fn first cap) w := fun _ _ _ _ => rfl
  have hn : ∀ (W : World) (xs : List Value), RdAt W (.slice none 0 0) 0 xs := fun W xs => ⟨none, 0, rfl, by omega, fun h => absurd h (Nat.lt_irrefl _)⟩
  have HN : Hid (Calls Tryz.prog 53 #[.pointer (some ⟨b, 2, none⟩), .func (.func 51) #[.pointer (some ⟨b, 0, none⟩)] #[], .agg #[.int .i64 3, .string ⟨#[]⟩, .slice a F.length c, .slice none 0 0, .string ⟨#[]⟩, .slice none 0 0, .slice none 0 0, .int .i64 0, .string ⟨#[]⟩, .string ⟨#[]⟩]] w.drew (NuO B b D ov last goal (polS F) w.drew)) := num_log (polS F) (.slice a F.length c) (.slice none 0 0) (.slice none 0 0) (.slice none 0 0) w.drew (h.below (Below.refl _ _).drew) ⟨hR.below (Below.refl _ _).drew, hn _ _, hn _ _, hn _ _⟩ hf h0 h1 (hg.next (Below.refl _ _).drew) h12
  have HB : Hid (Kw B w w.drew) := Kw.of_below (Below.refl _ _).drew (Nat.le_of_lt (Nat.lt_of_le_of_lt h.at_.1 h.at_.lt))
  clear h hR hf hg hn
  go_enter Tryz.func24, Tryz.ntmps24
  go_wp2_with fail
  refine wp_region_T (fun _ => True) (fun _ => True) [] (by kernel_rfl) ⟨trivial, trivial⟩ (fun hHeld => ?_)
  generalize w.drew = U at hHeld HN HB ⊢
  refine wpAnyT_takeB (i := 0) (oi := ⟨some 6, .move (.tmp 0), _, _, _, _⟩) (v := ?va0) rfl (by kernel_rfl) (by kernel_rfl) (by kernel_rfl) (by kernel_rfl) (fun _ _ _ h => h) (Or.inl ⟨by rfl, ?hya0⟩) (by assumption) ?resta0
  case hya0 => (intro w hSw; (try dsimp only at hSw); go_simp; try (with_reducible rfl))
  try simp only [Act.put, List.setIfInBounds_toArray, List.set_cons_zero, List.set_cons_succ]
  refine wpAnyT_takeB (i := 1) (oi := ⟨some 7, .nilCheck (.tmp 6), _, _, _, _⟩) (v := ?va1) rfl (by kernel_rfl) (by kernel_rfl) (by kernel_rfl) (by kernel_rfl) (fun _ _ _ h => h) (Or.inl ⟨by rfl, ?hya1⟩) (by assumption) ?resta1
  case hya1 => (intro w hSw; (try dsimp only at hSw); go_simp; try (with_reducible rfl))
  try simp only [Act.put, List.setIfInBounds_toArray, List.set_cons_zero, List.set_cons_succ]
  refine wpAnyT_takeB (i := 2) (oi := ⟨some 8, .fieldAddr 77 (.tmp 7) 1, _, _, _, _⟩) (v := ?va2) rfl (by kernel_rfl) (by kernel_rfl) (by kernel_rfl) (by kernel_rfl) (fun _ _ _ h => h) (Or.inl ⟨by rfl, ?hya2⟩) (by assumption) ?resta2
  case hya2 => (intro w hSw; (try dsimp only at hSw); go_simp; try (with_reducible rfl))
  try simp only [Act.put, List.setIfInBounds_toArray, List.set_cons_zero, List.set_cons_succ]
  refine wpAnyT_takeB (i := 3) (oi := ⟨some 9, .move (.tmp 0), _, _, _, _⟩) (v := ?va3) rfl (by kernel_rfl) (by kernel_rfl) (by kernel_rfl) (by kernel_rfl) (fun _ _ _ h => h) (Or.inl ⟨by rfl, ?hya3⟩) (by assumption) ?resta3
  case hya3 => (intro w hSw; (try dsimp only at hSw); go_simp; try (with_reducible rfl))
  try simp only [Act.put, List.setIfInBounds_toArray, List.set_cons_zero, List.set_cons_succ]
  refine wpAnyT_takeB (i := 4) (oi := ⟨some 10, .nilCheck (.tmp 9), _, _, _, _⟩) (v := ?va4) rfl (by kernel_rfl) (by kernel_rfl) (by kernel_rfl) (by kernel_rfl) (fun _ _ _ h => h) (Or.inl ⟨by rfl, ?hya4⟩) (by assumption) ?resta4
  case hya4 => (intro w hSw; (try dsimp only at hSw); go_simp; try (with_reducible rfl))
  try simp only [Act.put, List.setIfInBounds_toArray, List.set_cons_zero, List.set_cons_succ]
  refine wpAnyT_takeB (i := 5) (oi := ⟨some 11, .fieldAddr 77 (.tmp 10) 0, _, _, _, _⟩) (v := ?va5) rfl (by kernel_rfl) (by kernel_rfl) (by kernel_rfl) (by kernel_rfl) (fun _ _ _ h => h) (Or.inl ⟨by rfl, ?hya5⟩) (by assumption) ?resta5
  case hya5 => (intro w hSw; (try dsimp only at hSw); go_simp; try (with_reducible rfl))
  try simp only [Act.put, List.setIfInBounds_toArray, List.set_cons_zero, List.set_cons_succ]
  refine wpAnyT_takeB (i := 6) (oi := ⟨some 12, .makeFunc (.func 51) #[(.tmp 11)] #[], _, _, _, _⟩) (v := ?va6) rfl (by kernel_rfl) (by kernel_rfl) (by kernel_rfl) (by kernel_rfl) (fun _ _ _ h => h) (Or.inl ⟨by rfl, ?hya6⟩) (by assumption) ?resta6
  case hya6 => (intro w hSw; (try dsimp only at hSw); go_simp; try (with_reducible rfl))
  try simp only [Act.put, List.setIfInBounds_toArray, List.set_cons_zero, List.set_cons_succ]
  refine wpAnyT_takeB (i := 7) (oi := ⟨some 13, .move (.tmp 1), _, _, _, _⟩) (v := ?va7) rfl (by kernel_rfl) (by kernel_rfl) (by kernel_rfl) (by kernel_rfl) (fun _ _ _ h => h) (Or.inl ⟨by rfl, ?hya7⟩) (by assumption) ?resta7
  case hya7 => (intro w hSw; (try dsimp only at hSw); go_simp; try (with_reducible rfl))
  try simp only [Act.put, List.setIfInBounds_toArray, List.set_cons_zero, List.set_cons_succ]
  refine wpAnyT_takeB (i := 8) (oi := ⟨some 14, .build 45 #[(0, .const (.int .i64 3)), (2, (.tmp 13))], _, _, _, _⟩) (v := ?va8) rfl (by kernel_rfl) (by kernel_rfl) (by kernel_rfl) (by kernel_rfl) (fun _ _ _ h => h) (Or.inl ⟨by rfl, ?hya8⟩) (by assumption) ?resta8
  case hya8 => (intro w hSw; (try dsimp only at hSw); go_simp; try (with_reducible rfl))
  try simp only [Act.put, List.setIfInBounds_toArray, List.set_cons_zero, List.set_cons_succ]
  refine wpAnyT_one (i := 9) (o := ⟨some 15, .call { callee := .value (.func 53), args := #[(.tmp 8), (.tmp 12), (.tmp 14)], argTypes := #[75, 113, 45] }, _, _, _, _⟩) (by kernel_rfl) rfl (fun K hK => ?_)
  go_simp
  refine calls_at HN.out (by with_reducible rfl) (by with_reducible rfl) ?_
  rintro e w1 ⟨n, r, D', last', rfl, k1, k2, k3⟩
  have HE : Hid (NuO B b D ov last goal (polS F) w (.returned (.tuple #[.int .i64 n, .int .i64 r])) w1) := ⟨n, r, D', last', rfl, HB.out.trans k1, k2, k3⟩
  clear k1 k2 k3 HN
  go_wp2_with fail
  refine hK.out _ _ ⟨trivial, fun _ => trivial⟩ ?_
  clear hK K
  try simp only [Act.put, List.setIfInBounds_toArray, List.set_cons_zero, List.set_cons_succ]
  refine wpAnyT_takeB (i := 10) (oi := ⟨some 16, .extract (.tmp 15) 0, _, _, _, _⟩) (v := ?vb10) rfl (by kernel_rfl) (by kernel_rfl) (by kernel_rfl) (by kernel_rfl) (fun _ _ _ h => h) (Or.inl ⟨by rfl, ?hyb10⟩) (by assumption) ?restb10
  case hyb10 => (intro w hSw; (try dsimp only at hSw); go_simp; try (with_reducible rfl))
  try simp only [Act.put, List.setIfInBounds_toArray, List.set_cons_zero, List.set_cons_succ]
  refine wpAnyT_takeB (i := 11) (oi := ⟨some 17, .extract (.tmp 15) 1, _, _, _, _⟩) (v := ?vb11) rfl (by kernel_rfl) (by kernel_rfl) (by kernel_rfl) (by kernel_rfl) (fun _ _ _ h => h) (Or.inl ⟨by rfl, ?hyb11⟩) (by assumption) ?restb11
  case hyb11 => (intro w hSw; (try dsimp only at hSw); go_simp; try (with_reducible rfl))
  try simp only [Act.put, List.setIfInBounds_toArray, List.set_cons_zero, List.set_cons_succ]
  refine wpAnyT_takeB (i := 12) (oi := ⟨some 4, .assign (.tmp 16), _, _, _, _⟩) (v := ?vb12) rfl (by kernel_rfl) (by kernel_rfl) (by kernel_rfl) (by kernel_rfl) (fun _ _ _ h => h) (Or.inl ⟨by rfl, ?hyb12⟩) (by assumption) ?restb12
  case hyb12 => (intro w hSw; (try dsimp only at hSw); go_simp; try (with_reducible rfl))
  try simp only [Act.put, List.setIfInBounds_toArray, List.set_cons_zero, List.set_cons_succ]
  refine wpAnyT_takeB (i := 13) (oi := ⟨some 5, .assign (.tmp 17), _, _, _, _⟩) (v := ?vb13) rfl (by kernel_rfl) (by kernel_rfl) (by kernel_rfl) (by kernel_rfl) (fun _ _ _ h => h) (Or.inl ⟨by rfl, ?hyb13⟩) (by assumption) ?restb13
  case hyb13 => (intro w hSw; (try dsimp only at hSw); go_simp; try (with_reducible rfl))
  try simp only [Act.put, List.setIfInBounds_toArray, List.set_cons_zero, List.set_cons_succ]
  refine wpAnyT_done (by kernel_rfl) ?_ _
  go_wp2_with fail
  go_ret2
  exact HE.out

def solxS (F : List Int) : SL := { SL.zero with k := 11, lits := F }
set_option maxRecDepth 10000 in
set_option maxHeartbeats 2000000 in
theorem solx_any {B b : Nat} {D : List SL} {ov goal : Bool} {last : Int} (F : List Int) (v : Value) (w : World) (h : LgD B b D ov last goal w) (hR : RdAt w v F.length (F.map (.int .i64))) (hf : Fit D [solxS F]) (h0 : 0 ≤ last) (h1 : last ≤ 2000000000000000000) (hg : Gl w) (h12 : 12 ≤ B) : Calls Tryz.prog 26 #[.pointer (some ⟨b, 0, none⟩), v] w (NuO B b D ov last goal (solxS F) w) := by
  obtain ⟨a, c, rfl, _, _⟩ := id hR
  have hmf : ∀ (fn : Fn) (first cap : Array Value) (w : World), (Instr.makeFunc fn first cap).run Tryz.prog w = .ok (.func fn first cap) w := fun _ _ _ _ => rfl
  have hn : ∀ (W : World) (xs : List Value), RdAt W (.slice none 0 0) 0 xs := fun W xs => ⟨none, 0, rfl, by omega, fun h => absurd h (Nat.lt_irrefl _)⟩
  have HN : Hid (Calls Tryz.prog 53 #[.pointer (some ⟨b, 2, none⟩), .func (.func 51) #[.pointer (some ⟨b, 0, none⟩)] #[], .agg #[.int .i64 11, .string ⟨#[]⟩, .slice none 0 0, .slice none 0 0, .string ⟨#[]⟩, .slice a F.length c, .slice none 0 0, .int .i64 0, .string ⟨#[]⟩, .string ⟨#[]⟩]] w.drew (NuO B b D ov last goal (solxS F) w.drew)) := num_log (solxS F) (.slice none 0 0) (.slice none 0 0) (.slice a F.length c) (.slice none 0 0) w.drew (h.below (Below.refl _ _).drew) ⟨hn _ _, hn _ _, hR.below (Below.refl _ _).drew, hn _ _⟩ hf h0 h1 (hg.next (Below.refl _ _).drew) h12
  have HB : Hid (Kw B w w.drew) := Kw.of_below (Below.refl _ _).drew (Nat.le_of_lt (Nat.lt_of_le_of_lt h.at_.1 h.at_.lt))
  clear h hR hf hg hn
  go_enter Tryz.func26, Tryz.ntmps26
  go_wp2_with fail
  refine wp_region_T (fun _ => True) (fun _ => True) [] (by kernel_rfl) ⟨trivial, trivial⟩ (fun hHeld => ?_)
  generalize w.drew = U at hHeld HN HB ⊢
  refine wpAnyT_takeB (i := 0) (oi := ⟨some 6, .move (.tmp 0), _, _, _, _⟩) (v := ?va0) rfl (by kernel_rfl) (by kernel_rfl) (by kernel_rfl) (by kernel_rfl) (fun _ _ _ h => h) (Or.inl ⟨by rfl, ?hya0⟩) (by assumption) ?resta0
  case hya0 => (intro w hSw; (try dsimp only at hSw); go_simp; try (with_reducible rfl))
  try simp only [Act.put, List.setIfInBounds_toArray, List.set_cons_zero, List.set_cons_succ]
  refine wpAnyT_takeB (i := 1) (oi := ⟨some 7, .nilCheck (.tmp 6), _, _, _, _⟩) (v := ?va1) rfl (by kernel_rfl) (by kernel_rfl) (by kernel_rfl) (by kernel_rfl) (fun _ _ _ h => h) (Or.inl ⟨by rfl, ?hya1⟩) (by assumption) ?resta1
  case hya1 => (intro w hSw; (try dsimp only at hSw); go_simp; try (with_reducible rfl))
  try simp only [Act.put, List.setIfInBounds_toArray, List.set_cons_zero, List.set_cons_succ]
  refine wpAnyT_takeB (i := 2) (oi := ⟨some 8, .fieldAddr 77 (.tmp 7) 1, _, _, _, _⟩) (v := ?va2) rfl (by kernel_rfl) (by kernel_rfl) (by kernel_rfl) (by kernel_rfl) (fun _ _ _ h => h) (Or.inl ⟨by rfl, ?hya2⟩) (by assumption) ?resta2
  case hya2 => (intro w hSw; (try dsimp only at hSw); go_simp; try (with_reducible rfl))
  try simp only [Act.put, List.setIfInBounds_toArray, List.set_cons_zero, List.set_cons_succ]
  refine wpAnyT_takeB (i := 3) (oi := ⟨some 9, .move (.tmp 0), _, _, _, _⟩) (v := ?va3) rfl (by kernel_rfl) (by kernel_rfl) (by kernel_rfl) (by kernel_rfl) (fun _ _ _ h => h) (Or.inl ⟨by rfl, ?hya3⟩) (by assumption) ?resta3
  case hya3 => (intro w hSw; (try dsimp only at hSw); go_simp; try (with_reducible rfl))
  try simp only [Act.put, List.setIfInBounds_toArray, List.set_cons_zero, List.set_cons_succ]
  refine wpAnyT_takeB (i := 4) (oi := ⟨some 10, .nilCheck (.tmp 9), _, _, _, _⟩) (v := ?va4) rfl (by kernel_rfl) (by kernel_rfl) (by kernel_rfl) (by kernel_rfl) (fun _ _ _ h => h) (Or.inl ⟨by rfl, ?hya4⟩) (by assumption) ?resta4
  case hya4 => (intro w hSw; (try dsimp only at hSw); go_simp; try (with_reducible rfl))
  try simp only [Act.put, List.setIfInBounds_toArray, List.set_cons_zero, List.set_cons_succ]
  refine wpAnyT_takeB (i := 5) (oi := ⟨some 11, .fieldAddr 77 (.tmp 10) 0, _, _, _, _⟩) (v := ?va5) rfl (by kernel_rfl) (by kernel_rfl) (by kernel_rfl) (by kernel_rfl) (fun _ _ _ h => h) (Or.inl ⟨by rfl, ?hya5⟩) (by assumption) ?resta5
  case hya5 => (intro w hSw; (try dsimp only at hSw); go_simp; try (with_reducible rfl))
  try simp only [Act.put, List.setIfInBounds_toArray, List.set_cons_zero, List.set_cons_succ]
  refine wpAnyT_takeB (i := 6) (oi := ⟨some 12, .makeFunc (.func 51) #[(.tmp 11)] #[], _, _, _, _⟩) (v := ?va6) rfl (by kernel_rfl) (by kernel_rfl) (by kernel_rfl) (by kernel_rfl) (fun _ _ _ h => h) (Or.inl ⟨by rfl, ?hya6⟩) (by assumption) ?resta6
  case hya6 => (intro w hSw; (try dsimp only at hSw); go_simp; try (with_reducible rfl))
  try simp only [Act.put, List.setIfInBounds_toArray, List.set_cons_zero, List.set_cons_succ]
  refine wpAnyT_takeB (i := 7) (oi := ⟨some 13, .move (.tmp 1), _, _, _, _⟩) (v := ?va7) rfl (by kernel_rfl) (by kernel_rfl) (by kernel_rfl) (by kernel_rfl) (fun _ _ _ h => h) (Or.inl ⟨by rfl, ?hya7⟩) (by assumption) ?resta7
  case hya7 => (intro w hSw; (try dsimp only at hSw); go_simp; try (with_reducible rfl))
  try simp only [Act.put, List.setIfInBounds_toArray, List.set_cons_zero, List.set_cons_succ]
  refine wpAnyT_takeB (i := 8) (oi := ⟨some 14, .build 45 #[(0, .const (.int .i64 11)), (4, (.tmp 13))], _, _, _, _⟩) (v := ?va8) rfl (by kernel_rfl) (by kernel_rfl) (by kernel_rfl) (by kernel_rfl) (fun _ _ _ h => h) (Or.inl ⟨by rfl, ?hya8⟩) (by assumption) ?resta8
  case hya8 => (intro w hSw; (try dsimp only at hSw); go_simp; try (with_reducible rfl))
  try simp only [Act.put, List.setIfInBounds_toArray, List.set_cons_zero, List.set_cons_succ]
  refine wpAnyT_one (i := 9) (o := ⟨some 15, .call { callee := .value (.func 53), args := #[(.tmp 8), (.tmp 12), (.tmp 14)], argTypes := #[75, 113, 45] }, _, _, _, _⟩) (by kernel_rfl) rfl (fun K hK => ?_)
  go_simp
  refine calls_at HN.out (by with_reducible rfl) (by with_reducible rfl) ?_
  rintro e w1 ⟨n, r, D', last', rfl, k1, k2, k3⟩
  have HE : Hid (NuO B b D ov last goal (solxS F) w (.returned (.tuple #[.int .i64 n, .int .i64 r])) w1) := ⟨n, r, D', last', rfl, HB.out.trans k1, k2, k3⟩
  clear k1 k2 k3 HN
  go_wp2_with fail
  refine hK.out _ _ ⟨trivial, fun _ => trivial⟩ ?_
  clear hK K
  try simp only [Act.put, List.setIfInBounds_toArray, List.set_cons_zero, List.set_cons_succ]
  refine wpAnyT_takeB (i := 10) (oi := ⟨some 16, .extract (.tmp 15) 0, _, _, _, _⟩) (v := ?vb10) rfl (by kernel_rfl) (by kernel_rfl) (by kernel_rfl) (by kernel_rfl) (fun _ _ _ h => h) (Or.inl ⟨by rfl, ?hyb10⟩) (by assumption) ?restb10
  case hyb10 => (intro w hSw; (try dsimp only at hSw); go_simp; try (with_reducible rfl))
  try simp only [Act.put, List.setIfInBounds_toArray, List.set_cons_zero, List.set_cons_succ]
  refine wpAnyT_takeB (i := 11) (oi := ⟨some 17, .extract (.tmp 15) 1, _, _, _, _⟩) (v := ?vb11) rfl (by kernel_rfl) (by kernel_rfl) (by kernel_rfl) (by kernel_rfl) (fun _ _ _ h => h) (Or.inl ⟨by rfl, ?hyb11⟩) (by assumption) ?restb11
  case hyb11 => (intro w hSw; (try dsimp only at hSw); go_simp; try (with_reducible rfl))
  try simp only [Act.put, List.setIfInBounds_toArray, List.set_cons_zero, List.set_cons_succ]
  refine wpAnyT_takeB (i := 12) (oi := ⟨some 4, .assign (.tmp 16), _, _, _, _⟩) (v := ?vb12) rfl (by kernel_rfl) (by kernel_rfl) (by kernel_rfl) (by kernel_rfl) (fun _ _ _ h => h) (Or.inl ⟨by rfl, ?hyb12⟩) (by assumption) ?restb12
  case hyb12 => (intro w hSw; (try dsimp only at hSw); go_simp; try (with_reducible rfl))
  try simp only [Act.put, List.setIfInBounds_toArray, List.set_cons_zero, List.set_cons_succ]
  refine wpAnyT_takeB (i := 13) (oi := ⟨some 5, .assign (.tmp 17), _, _, _, _⟩) (v := ?vb13) rfl (by kernel_rfl) (by kernel_rfl) (by kernel_rfl) (by kernel_rfl) (fun _ _ _ h => h) (Or.inl ⟨by rfl, ?hyb13⟩) (by assumption) ?restb13
  case hyb13 => (intro w hSw; (try dsimp only at hSw); go_simp; try (with_reducible rfl))
  try simp only [Act.put, List.setIfInBounds_toArray, List.set_cons_zero, List.set_cons_succ]
  refine wpAnyT_done (by kernel_rfl) ?_ _
  go_wp2_with fail
  go_ret2
  exact HE.out
end Go.Proofs.YtibbnijicdijnaaGreatDoor
