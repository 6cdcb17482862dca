/-
  Put together: TqLine, TqPrint.
-/
import Derived.Test.YtjanpglnahagdaaGreatDoorTqConA
import Derived.Test.YtjanpglnahagdaaGreatDoorTqConB
import Derived.Test.YtjanpglnahagdaaGreatDoorTqConC
import Derived.Test.YtjanpglnahagdaaGreatDoorTqConD
import Derived.Test.YtjanpglnahagdaaGreatDoorJ43
import Derived.Test.YtjanpglnahagdaaGreatDoorJ35
namespace Go.Proofs.YtjanpglnahagdaaGreatDoor
open Go Go.RowKit
open Go.Lib (itoa)

theorem to_text {w : World} {a b : List UInt8} {e : Ending} {w' : World} (h : e = .returned (.string ⟨a.toArray⟩) ∧ Below w.heap.size w w') (hab : a = b) : e = .returned (.string ⟨b.toArray⟩) ∧ Below w.heap.size w w' := by
  subst hab
  exact h

theorem docCon_any (vars : List Md.Vr) (vv vc vg : Value) (hb : Bool) (c : Md.Cn) (vt vx vb vr : Value) (w : World) (hV : VarsAt w vv vars) (hn : ∀ v ∈ vars, v.name.data.toList.length ≤ 16) (hC : CnAt w c vt vx vb vr) (hF : Md.Fit c vars.length) (hN : Nums c) :
    Calls Tryz.prog 20 #[.agg #[vv, vc, .bool hb, vg], cnVal c vt vx vb vr] w fun e w' => e = .returned (.string ⟨(Md.conT vars c).toArray⟩) ∧ Below w.heap.size w w' := by
  unfold cnVal
  have hkind := hF.kind
  have hop : c.kind = 1 ∨ c.kind = 9 → c.op = 1 ∨ c.op = 2 ∨ c.op = 3 := fun hk => by
    have := hF.op (by rcases hk with hk | hk <;> simp [Md.fOp, hk])
    omega
  rcases (show c.kind = 1 ∨ c.kind = 2 ∨ c.kind = 3 ∨ c.kind = 4 ∨ c.kind = 5 ∨ c.kind = 6 ∨ c.kind = 7 ∨ c.kind = 8 ∨ c.kind = 9 by omega) with hk | hk | hk | hk | hk | hk | hk | hk | hk
  · rcases hop (.inl hk) with ho | ho | ho
    · rw [hk, ho]
      exact (doc_1a vars vv vc vg hb vt c.k c.v c.x c.y vx vb vr w hV hn hF.x hF.y hF.k hF.v hC.t hF.tx hF.tc hF.tl).mono fun e w' h => to_text h (by simp [Md.conT, Md.wordT, Md.restT, Md.opT, hk, ho])
    · rw [hk, ho]
      exact (doc_1b vars vv vc vg hb vt c.k c.v c.x c.y vx vb vr w hV hn hF.x hF.y hF.k hF.v hC.t hF.tx hF.tc hF.tl).mono fun e w' h => to_text h (by simp [Md.conT, Md.wordT, Md.restT, Md.opT, hk, ho])
    · rw [hk, ho]
      exact (doc_1c vars vv vc vg hb vt c.k c.v c.x c.y vx vb vr w hV hn hF.x hF.y hF.k hF.v hC.t hF.tx hF.tc hF.tl).mono fun e w' h => to_text h (by simp [Md.conT, Md.wordT, Md.restT, Md.opT, hk, ho])
  · rw [hk]
    exact (doc_2 vars vv vc vg hb c.op vt c.k c.v c.x c.y vx vb vr w hV hn hF.x hF.y hF.k hF.v).mono fun e w' h => to_text h (by simp [Md.conT, Md.wordT, Md.restT, hk])
  · rw [hk]
    exact (doc_3 vars vv vc vg hb c.op vt c.k c.v c.x c.y vx vb vr w hV hn hF.x hF.y hF.k hF.v hC.x hF.xs hF.xl).mono fun e w' h => to_text h (by simp [Md.conT, Md.wordT, Md.restT, hk])
  · rw [hk]
    exact (doc_4 vars vv vc vg hb c.op vt c.k c.v c.x c.y vx vb vr w hV hn hF.x hF.y hF.k hF.v hC.b hN.b hF.bl).mono fun e w' h => to_text h (by simp [Md.conT, Md.wordT, Md.restT, hk])
  · rw [hk]
    exact (doc_5 vars vv vc vg hb c.op vt c.k c.v c.x c.y vx vb vr w hV hn hF.x hF.y hF.k hF.v hC.x hF.xs hF.xl).mono fun e w' h => to_text h (by simp [Md.conT, Md.wordT, Md.restT, hk])
  · rw [hk]
    exact (doc_6 vars vv vc vg hb c.op vt c.k c.v c.x c.y vx vb vr w hV hn hF.x hF.y hF.k hF.v hC.x hF.xs hF.xl).mono fun e w' h => to_text h (by simp [Md.conT, Md.wordT, Md.restT, hk])
  · rw [hk]
    exact (doc_7 vars vv vc vg hb c.op vt c.k c.v c.x c.y vx vb vr w hV hn hF.x hF.y hF.k hF.v hC.t hF.tx hF.tc hF.tl).mono fun e w' h => to_text h (by simp [Md.conT, Md.wordT, Md.restT, hk])
  · rw [hk]
    exact (doc_8 vars vv vc vg hb c.op vt c.k c.v c.x c.y vx vb vr w hV hn hF.x hF.y hF.k hF.v hC.x hF.xs hF.xl hC.r hN.r hF.rl).mono fun e w' h => to_text h (by simp [Md.conT, Md.wordT, Md.restT, hk])
  · rcases hop (.inr hk) with ho | ho | ho
    · rw [hk, ho]
      exact (doc_9a vars vv vc vg hb vt c.k c.v c.x c.y vx vb vr w hV hn hF.x hF.y hF.k hF.v hC.x hF.xs hF.xl).mono fun e w' h => to_text h (by simp [Md.conT, Md.wordT, Md.restT, Md.opT, hk, ho])
    · rw [hk, ho]
      exact (doc_9b vars vv vc vg hb vt c.k c.v c.x c.y vx vb vr w hV hn hF.x hF.y hF.k hF.v hC.x hF.xs hF.xl).mono fun e w' h => to_text h (by simp [Md.conT, Md.wordT, Md.restT, Md.opT, hk, ho])
    · rw [hk, ho]
      exact (doc_9c vars vv vc vg hb vt c.k c.v c.x c.y vx vb vr w hV hn hF.x hF.y hF.k hF.v hC.x hF.xs hF.xl).mono fun e w' h => to_text h (by simp [Md.conT, Md.wordT, Md.restT, Md.opT, hk, ho])
end Go.Proofs.YtjanpglnahagdaaGreatDoor

namespace Go.Proofs.YtjanpglnahagdaaGreatDoor
open Go Go.RowKit
open Go.Lib (itoa)

/-- The document's line of a constraint. -/
def DocCon : Prop := ∀ (vars : List Md.Vr) (vv vc vg : Value) (hb : Bool) (c : Md.Cn) (vt vx vb vr : Value) (w : World), VarsAt w vv vars → (∀ v ∈ vars, v.name.data.toList.length ≤ 16) → CnAt w c vt vx vb vr → Md.Fit c vars.length → Nums c →
    Calls Tryz.prog 20 #[.agg #[vv, vc, .bool hb, vg], cnVal c vt vx vb vr] w fun e w' => e = .returned (.string ⟨(Md.conT vars c).toArray⟩) ∧ Below w.heap.size w w'

set_option maxHeartbeats 4000000 in
set_option maxRecDepth 100000 in
theorem docPrint_any (hDoc : DocCon) (m : Md.Mo) (vv vc vg : Value) (w : World) (hM : MoAt w m vv vc vg) :
    Calls Tryz.prog 8 #[moVal m vv vc vg] w fun e w' => e = .returned (.tuple #[.string ⟨(Md.print m).1.toArray⟩, .int .i64 (Md.print m).2]) ∧ Below w.heap.size w w' := by
  obtain ⟨va, vp, rfl, hvm⟩ := hM.v.form
  obtain ⟨ca, cp, rfl, hcm⟩ := hM.c.form
  obtain ⟨ga, gp, rfl, _⟩ := hM.g.form
  unfold maxLen at hvm hcm
  obtain ⟨W1, hW1⟩ : ∃ W, w.alloc (.cells #[.slice va m.vars.length vp, .slice ca m.cons.length cp, .bool m.has, .slice ga m.goal.length gp] 26) = W := ⟨_, rfl⟩
  have hb1 : Below w.heap.size w W1 := by rw [← hW1]; exact (Below.refl _ _).alloc (Nat.le_refl _) _
  have hN1 : W1.heap[w.heap.size]? = some (.cells #[.slice va m.vars.length vp, .slice ca m.cons.length cp, .bool m.has, .slice ga m.goal.length gp] 26) := by rw [← hW1]; exact heap_alloc_new w _
  have HCk : Hid (Calls Tryz.prog 18 #[.agg #[.slice va m.vars.length vp, .slice ca m.cons.length cp, .bool m.has, .slice ga m.goal.length gp]] W1 fun e w' => e = .returned (.tuple #[.int .i64 (Md.check m).1, .int .i64 (Md.check m).2]) ∧ Below W1.heap.size W1 w') := refCheck_any m _ _ _ W1 (hM.below hb1)
  have HM : Hid (MoAt w m (.slice va m.vars.length vp) (.slice ca m.cons.length cp) (.slice ga m.goal.length gp)) := hM
  have HDoc : Hid DocCon := hDoc
  have HB1 : Hid (Below w.heap.size w W1) := hb1
  have HN1 : Hid (W1.heap[w.heap.size]? = some (.cells #[.slice va m.vars.length vp, .slice ca m.cons.length cp, .bool m.has, .slice ga m.goal.length gp] 26)) := hN1
  have HPr : Hid ((Md.check m).2 ≠ 0 → Md.print m = ([], (Md.check m).2)) := fun h => by unfold Md.print; rw [if_neg h]
  have HPs : Hid ((Md.check m).2 = 0 → 65536 < (Md.textT m).length → Md.print m = ([], 50)) := fun h h2 => by unfold Md.print; rw [if_pos h, if_pos h2]
  have HPt : Hid ((Md.check m).2 = 0 → ¬ 65536 < (Md.textT m).length → Md.print m = (Md.textT m, 0)) := fun h h2 => by unfold Md.print; rw [if_pos h, if_neg h2]
  have HRt : Hid ((Md.check m).2 = 0 → Md.Right m) := fun h => Md.right_of h
  obtain ⟨⟨p0, p1, p2, p3⟩, _⟩ := box4 hN1
  unfold moVal
  clear hM hb1 hN1 hDoc
  generalize (Md.check m).1 = c1 at *
  generalize (Md.check m).2 = c2 at *
  by_cases h0 : c2 = 0
  case neg =>
    have h0b : (c2 != 0) = true := by simpa using h0
    have HE : Hid (Md.print m = ([], c2)) := HPr.out h0
    clear h0
    go_enter Tryz.func8, Tryz.ntmps8
    go_wp2_with (go_at_call 18; refine calls_at HCk.out (by with_reducible rfl) (by with_reducible rfl) ?_; rintro e w2 ⟨rfl, hb2⟩)
    go_ret2
    exact ⟨(by rw [HE.out]; rfl), HB1.out.trans (hb2.mono HB1.out.size)⟩
  case pos =>
    have HRi : Hid (Md.Right m) := HRt.out h0
    have HPs' := HPs.out h0
    have HPt' := HPt.out h0
    have HP1 : Hid (65536 < (Md.textT m).length → Md.print m = ([], 50)) := HPs'
    have HP2 : Hid (¬ 65536 < (Md.textT m).length → Md.print m = (Md.textT m, 0)) := HPt'
    subst h0
    clear HPs HPt HPr HRt HPs' HPt'
    have HNm : Hid (∀ v ∈ m.vars, v.name.data.toList.length ≤ 16) := fun v hv => Md.name_len (HRi.out.var v hv).1
    have HVn : Hid (∀ v ∈ m.vars, (-1000000000 ≤ v.lo ∧ v.lo ≤ 1000000000) ∧ (-1000000000 ≤ v.hi ∧ v.hi ≤ 1000000000)) := fun v hv => by
      have := Md.bounds_of (HRi.out.var v hv).2
      exact ⟨this.1, this.2.1⟩
    have HVL : Hid (∀ k, (Md.varsT (m.vars.take k)).length ≤ 3200) := fun k => by
      have h1 := Md.flatMap_take_len (fun v => Md.varT v ++ [10]) 100 m.vars k (fun v hv => varT_len (HNm.out v hv) (HVn.out v hv).1 (HVn.out v hv).2)
      have h2 := HRi.out.nv.2
      exact Nat.le_trans h1 (by omega)
    have HFt : Hid (∀ c ∈ m.cons, Md.Fit c m.vars.length ∧ Nums c) := fun c hc => ⟨Md.fit_of (HRi.out.con c hc), nums_of (HRi.out.con c hc)⟩
    have HCL : Hid (∀ k, (Md.consT m.vars (m.cons.take k)).length ≤ 19200000) := fun k => by
      have h1 := Md.flatMap_take_len (fun c => Md.conT m.vars c ++ [10]) 300000 m.cons k (fun c hc => conT_len HNm.out (HFt.out c hc).1 (HFt.out c hc).2)
      have h2 := HRi.out.nc
      exact Nat.le_trans h1 (by omega)
    have HCe : Hid (∀ c ∈ m.cons, (Md.conT m.vars c).length ≤ 300000) := fun c hc => by
      have := conT_len HNm.out (HFt.out c hc).1 (HFt.out c hc).2
      rw [List.length_append] at this
      show _ ≤ _
      omega
    have HLw : Hid (∀ w', Below W1.heap.size W1 w' → Below w.heap.size w w') := fun w' h => HB1.out.trans (h.mono HB1.out.size)
    have HBx : Hid (∀ w', Below W1.heap.size W1 w' → w'.cell? ⟨w.heap.size, 0, none⟩ = some (.slice va m.vars.length vp) ∧ w'.cell? ⟨w.heap.size, 1, none⟩ = some (.slice ca m.cons.length cp) ∧ w'.cell? ⟨w.heap.size, 2, none⟩ = some (.bool m.has) ∧ w'.cell? ⟨w.heap.size, 3, none⟩ = some (.slice ga m.goal.length gp)) := fun w' h => (box4 ((h.block w.heap.size (Array.getElem?_eq_some_iff.1 HN1.out).1).trans HN1.out)).1
    have H0 : Hid ((⟨#[]⟩ : ByteArray).data.toList = Md.varsT (m.vars.take 0)) := rfl
    go_enter Tryz.func8, Tryz.ntmps8
    go_wp2_with (go_at_call 18; refine calls_at HCk.out (by with_reducible rfl) (by with_reducible rfl) ?_; rintro e w2 ⟨rfl, hb2⟩)
    have HB2 : Hid (Below W1.heap.size W1 w2) := hb2
    clear p0 p1 p2 p3 hb2 hW1 HCk HN1
    go_loopw [6, 7] (fun sv iv wr => ∃ (k : Nat) (s : ByteArray), sv = .string s ∧ iv = .int .i64 (k : Int) ∧ k ≤ m.vars.length ∧ s.size ≤ 3200 ∧ Hid (s.data.toList = Md.varsT (m.vars.take k)) ∧ Hid (Below W1.heap.size W1 wr)) (fun _ iv _ => m.vars.length - (intOf iv).toNat)
    case atStart => exact ⟨0, ⟨#[]⟩, rfl, rfl, Nat.zero_le _, by decide, H0, HB2⟩
    case round =>
      obtain ⟨k, s, rfl, rfl, hk, hs, hS, hB⟩ := hrel
      clear H0
      obtain ⟨p0, p1, p2, p3⟩ := HBx.out wr hB.out
      by_cases hlt : k < m.vars.length
      · obtain ⟨a', cap', hv, _, _, hc⟩ := HM.out.v
        injection hv with e1 _ e3
        subst e3
        subst e1
        obtain ⟨g, off, rfl, hg, hcc⟩ := hc (by omega)
        have hlow := HLw.out wr hB.out
        have c0 := (hlow.cell (p := ⟨g, off + k * 3, none⟩) hg).trans (hcc k hlt).1
        have c1' := (hlow.cell (p := ⟨g, off + k * 3 + 1, none⟩) hg).trans (hcc k hlt).2.1
        have c2' := (hlow.cell (p := ⟨g, off + k * 3 + 2, none⟩) hg).trans (hcc k hlt).2.2
        have hkI : (k : Int) < (m.vars.length : Int) := by omega
        have HR : Hid (Md.varsT (m.vars.take (k + 1)) = Md.varsT (m.vars.take k) ++ (Md.varT m.vars[k] ++ [10])) := Md.flatMap_take _ m.vars k hlt
        have HX : Hid (m.vars[k].name.data.toList.length ≤ 16 ∧ (-1000000000 ≤ m.vars[k].lo ∧ m.vars[k].lo ≤ 1000000000) ∧ (-1000000000 ≤ m.vars[k].hi ∧ m.vars[k].hi ≤ 1000000000)) := ⟨HNm.out _ (List.getElem_mem hlt), HVn.out _ (List.getElem_mem hlt)⟩
        obtain ⟨X, hX⟩ : ∃ X, X = m.vars[k] := ⟨_, rfl⟩
        rw [← hX] at c0 c1' c2' HR HX
        clear hX hcc hc hlow
        obtain ⟨W4, hW4⟩ : ∃ W, wr.alloc (.cells #[.string X.name, .int .i64 X.lo, .int .i64 X.hi] 61) = W := ⟨_, rfl⟩
        have HB4 : Hid (Below W1.heap.size W1 W4) := by show Below _ _ _; rw [← hW4]; exact hB.out.alloc hB.out.size _
        have HO4 : Hid (W4.heap[wr.heap.size]? = some (.cells #[.string X.name, .int .i64 X.lo, .int .i64 X.hi] 61 (0, 0))) := by show _ = _; rw [← hW4]; exact heap_alloc_new wr _
        obtain ⟨DL, hDL⟩ : ∃ D : ByteArray, D = ⟨(itoa X.lo).toArray⟩ := ⟨_, rfl⟩
        obtain ⟨DH, hDH⟩ : ∃ D : ByteArray, D = ⟨(itoa X.hi).toArray⟩ := ⟨_, rfl⟩
        have HCl : Hid (∀ w', Calls Tryz.prog 19 #[.int .i64 X.lo] w' fun e w'' => e = .returned (.string DL) ∧ Below w'.heap.size w' w'') := fun w' => by rw [hDL]; exact digits_any X.lo w' HX.out.2.1
        have HCh : Hid (∀ w', Calls Tryz.prog 19 #[.int .i64 X.hi] w' fun e w'' => e = .returned (.string DH) ∧ Below w'.heap.size w' w'') := fun w' => by rw [hDH]; exact digits_any X.hi w' HX.out.2.2
        have zl : DL.size ≤ 21 := by rw [hDL, size_mk]; exact Md.itoa_len HX.out.2.1
        have zh : DH.size ≤ 21 := by rw [hDH, size_mk]; exact Md.itoa_len HX.out.2.2
        have zn : X.name.size ≤ 16 := by rw [size_toList]; exact HX.out.1
        have HDL : Hid (DL.data.toList = itoa X.lo) := by rw [hDL]; show _ = _; simp
        have HDH : Hid (DH.data.toList = itoa X.hi) := by rw [hDH]; show _ = _; simp
        have b4 : (⟨#[118, 97, 114, 32]⟩ : ByteArray).size = 4 := rfl
        have b1 : (⟨#[10]⟩ : ByteArray).size = 1 := rfl
        have b0 := blank_size
        obtain ⟨s1, hs1⟩ : ∃ s1, s1 = s ++ (⟨#[118, 97, 114, 32]⟩ : ByteArray) := ⟨_, rfl⟩
        have z1 : s1.size ≤ 3204 := by rw [hs1, ByteArray.size_append]; omega
        have a1 := add_str hs1 (by omega)
        obtain ⟨s2, hs2⟩ : ∃ s2, s2 = s1 ++ X.name := ⟨_, rfl⟩
        have z2 : s2.size ≤ 3220 := by rw [hs2, ByteArray.size_append]; omega
        have a2 := add_str hs2 (by omega)
        obtain ⟨s3, hs3⟩ : ∃ s3, s3 = s2 ++ (⟨#[32]⟩ : ByteArray) := ⟨_, rfl⟩
        have z3 : s3.size ≤ 3221 := by rw [hs3, ByteArray.size_append]; omega
        have a3 := add_str hs3 (by omega)
        obtain ⟨s4, hs4⟩ : ∃ s4, s4 = s3 ++ DL := ⟨_, rfl⟩
        have z4 : s4.size ≤ 3242 := by rw [hs4, ByteArray.size_append]; omega
        have a4 := add_str hs4 (by omega)
        obtain ⟨s5, hs5⟩ : ∃ s5, s5 = s4 ++ (⟨#[32]⟩ : ByteArray) := ⟨_, rfl⟩
        have z5 : s5.size ≤ 3243 := by rw [hs5, ByteArray.size_append]; omega
        have a5 := add_str hs5 (by omega)
        obtain ⟨s6, hs6⟩ : ∃ s6, s6 = s5 ++ DH := ⟨_, rfl⟩
        have z6 : s6.size ≤ 3264 := by rw [hs6, ByteArray.size_append]; omega
        have a6 := add_str hs6 (by omega)
        obtain ⟨s7, hs7⟩ : ∃ s7, s7 = s6 ++ (⟨#[10]⟩ : ByteArray) := ⟨_, rfl⟩
        have a7 := add_str hs7 (by omega)
        have HE : Hid (s7.data.toList = Md.varsT (m.vars.take (k + 1))) := by
          show _ = _
          rw [HR.out, ← hS.out, hs7, hs6, hs5, hs4, hs3, hs2, hs1]
          simp [Md.varT, HDL.out, HDH.out]
        have HSc : Hid (∀ w', Below W4.heap.size W4 w' → w'.cell? ⟨wr.heap.size, 0, none⟩ = some (.string X.name) ∧ w'.cell? ⟨wr.heap.size, 1, none⟩ = some (.int .i64 X.lo) ∧ w'.cell? ⟨wr.heap.size, 2, none⟩ = some (.int .i64 X.hi) ∧ Below W4.heap.size W4 w') := fun w' h => by
          have h1 := (h.block wr.heap.size (Array.getElem?_eq_some_iff.1 HO4.out).1).trans HO4.out
          refine ⟨?_, ?_, ?_, h⟩ <;> (rw [Lib.cell_of_heap h1]; rfl)
        clear hs1 hs2 hs3 hs4 hs5 hs6 hs7 hDL hDH b0 b1 b4
        go_wp2_with fail
        try rw [hW4]
        clear hW4 c0 c1' c2' p0 p1 p2 p3
        go_region_held3 (fun w' => w'.cell? ⟨wr.heap.size, 0, none⟩ = some (.string X.name) ∧ w'.cell? ⟨wr.heap.size, 1, none⟩ = some (.int .i64 X.lo) ∧ w'.cell? ⟨wr.heap.size, 2, none⟩ = some (.int .i64 X.hi) ∧ Below W4.heap.size W4 w')
          (first | exact HSc.out _ (Below.refl _ _).drew | exact HSc.out _ (Below.trans (And.right (And.right (And.right (by assumption)))) (Below.mono (by assumption) (Below.size (And.right (And.right (And.right (by assumption))))))) | assumption)
          (first | (go_at_call 19; refine calls_at (HCl.out _) (by with_reducible rfl) (by with_reducible rfl) ?_; rintro e w5 ⟨rfl, hb5⟩) | (go_at_call 19; refine calls_at (HCh.out _) (by with_reducible rfl) (by with_reducible rfl) ?_; rintro e w6 ⟨rfl, hb6⟩))
        all_goals
          have HB6 : Hid (Below W1.heap.size W1 w6) := HB4.out.trans (Below.mono (And.right (And.right (And.right (by assumption)))) HB4.out.size)
          clear hb5 hb6
          go_wp2_with fail
          go_roundw
          case rel =>
            refine ⟨k + 1, s7, by rfl, by go_num, by omega, ?_, HE, HB6⟩
            rw [size_toList, HE.out]
            exact HVL.out _
          case measure => simp [intOf]; omega
      · have hkI : ¬ (k : Int) < (m.vars.length : Int) := by omega
        have HS5 : Hid (s.data.toList = Md.varsT m.vars ++ Md.consT m.vars (m.cons.take 0)) := by
          have := hS.out
          rw [List.take_of_length_le (by omega)] at this
          show _ = _
          rw [this]
          simp [Md.consT]
        rename World => wv
        have HBv : Hid (Below W1.heap.size W1 wv) := hB.out
        have hsz : s.size ≤ 19203200 := by omega
        clear hS hB hs
        go_wp2_with fail
        clear p0 p1 p2 p3
        go_loopw [6, 9] (fun sv iv wr => ∃ (n : Nat) (s : ByteArray), sv = .string s ∧ iv = .int .i64 (n : Int) ∧ n ≤ m.cons.length ∧ s.size ≤ 19203200 ∧ Hid (s.data.toList = Md.varsT m.vars ++ Md.consT m.vars (m.cons.take n)) ∧ Hid (Below W1.heap.size W1 wr)) (fun _ iv _ => m.cons.length - (intOf iv).toNat)
        case atStart => exact ⟨0, s, rfl, rfl, Nat.zero_le _, hsz, HS5, HBv⟩
        case round =>
          obtain ⟨n, s2, rfl, rfl, hn1, hs2, hS2, hB⟩ := hrel
          clear HS5 hsz
          obtain ⟨p0, p1, p2, p3⟩ := HBx.out wr hB.out
          by_cases hlt2 : n < m.cons.length
          · obtain ⟨a', cap', hv, _, hc⟩ := HM.out.c
            injection hv with e1 _ e3
            subst e3
            subst e1
            obtain ⟨g, off, rfl, hg, hcc⟩ := hc (by omega)
            obtain ⟨vt, vx, vb, vr, hCn, hCc⟩ := hcc n hlt2
            obtain ⟨k0, k1, k2, k3, k4, k5, k6, k7, k8, k9⟩ := hCc
            have hnI : (n : Int) < (m.cons.length : Int) := by omega
            have HR : Hid (Md.consT m.vars (m.cons.take (n + 1)) = Md.consT m.vars (m.cons.take n) ++ (Md.conT m.vars m.cons[n] ++ [10])) := Md.flatMap_take _ m.cons n hlt2
            have HX : Hid (Md.Fit m.cons[n] m.vars.length ∧ Nums m.cons[n]) := HFt.out _ (List.getElem_mem hlt2)
            have HXl : Hid ((Md.conT m.vars m.cons[n]).length ≤ 300000) := HCe.out _ (List.getElem_mem hlt2)
            have HCn : Hid (CnAt w m.cons[n] vt vx vb vr) := hCn
            obtain ⟨X, hX⟩ : ∃ X, X = m.cons[n] := ⟨_, rfl⟩
            rw [← hX] at k0 k1 k3 k4 k5 k6 HR HX HCn HXl
            clear hX hcc hc hCn
            obtain ⟨ta, tc, hvt, _⟩ := HCn.out.t.form
            obtain ⟨xa, xc, hvx, _⟩ := HCn.out.x.form
            obtain ⟨ba, bc, hvb, _⟩ := HCn.out.b.form
            obtain ⟨ra, rc, hvr, _⟩ := HCn.out.r.form
            subst hvt
            subst hvx
            subst hvb
            subst hvr
            have HSc : Hid (∀ w', Below W1.heap.size W1 w' → w'.cell? ⟨w.heap.size, 0, none⟩ = some (.slice va m.vars.length vp) ∧ w'.cell? ⟨w.heap.size, 1, none⟩ = some (.slice (some ⟨g, off, none⟩) m.cons.length cp) ∧ w'.cell? ⟨w.heap.size, 2, none⟩ = some (.bool m.has) ∧ w'.cell? ⟨w.heap.size, 3, none⟩ = some (.slice ga m.goal.length gp) ∧ w'.cell? ⟨g, off + n * 10, none⟩ = some (.int .i64 X.kind) ∧ w'.cell? ⟨g, off + n * 10 + 1, none⟩ = some (.int .i64 X.op) ∧ w'.cell? ⟨g, off + n * 10 + 2, none⟩ = some (.slice ta X.terms.length tc) ∧ w'.cell? ⟨g, off + n * 10 + 3, none⟩ = some (.int .i64 X.k) ∧ w'.cell? ⟨g, off + n * 10 + 4, none⟩ = some (.int .i64 X.v) ∧ w'.cell? ⟨g, off + n * 10 + 5, none⟩ = some (.int .i64 X.x) ∧ w'.cell? ⟨g, off + n * 10 + 6, none⟩ = some (.int .i64 X.y) ∧ w'.cell? ⟨g, off + n * 10 + 7, none⟩ = some (.slice xa X.xs.length xc) ∧ w'.cell? ⟨g, off + n * 10 + 8, none⟩ = some (.slice ba X.table.length bc) ∧ w'.cell? ⟨g, off + n * 10 + 9, none⟩ = some (.slice ra X.rows.length rc) ∧ Below W1.heap.size W1 w') := fun w' h => by
              have hl := HLw.out w' h
              obtain ⟨y0, y1, y2, y3⟩ := HBx.out w' h
              exact ⟨y0, y1, y2, y3, (hl.cell (p := ⟨g, off + n * 10, none⟩) hg).trans k0, (hl.cell (p := ⟨g, off + n * 10 + 1, none⟩) hg).trans k1, (hl.cell (p := ⟨g, off + n * 10 + 2, none⟩) hg).trans k2, (hl.cell (p := ⟨g, off + n * 10 + 3, none⟩) hg).trans k3, (hl.cell (p := ⟨g, off + n * 10 + 4, none⟩) hg).trans k4, (hl.cell (p := ⟨g, off + n * 10 + 5, none⟩) hg).trans k5, (hl.cell (p := ⟨g, off + n * 10 + 6, none⟩) hg).trans k6, (hl.cell (p := ⟨g, off + n * 10 + 7, none⟩) hg).trans k7, (hl.cell (p := ⟨g, off + n * 10 + 8, none⟩) hg).trans k8, (hl.cell (p := ⟨g, off + n * 10 + 9, none⟩) hg).trans k9, h⟩
            obtain ⟨CT, hCT⟩ : ∃ D : ByteArray, D = ⟨(Md.conT m.vars X).toArray⟩ := ⟨_, rfl⟩
            have zc : CT.size ≤ 300000 := by rw [hCT, size_mk]; exact HXl.out
            have HCT : Hid (CT.data.toList = Md.conT m.vars X) := by rw [hCT]; show _ = _; simp
            have HCc : Hid (∀ w', Below W1.heap.size W1 w' → Calls Tryz.prog 20 #[.agg #[.slice va m.vars.length vp, .slice (some ⟨g, off, none⟩) m.cons.length cp, .bool m.has, .slice ga m.goal.length gp], .agg #[.int .i64 X.kind, .int .i64 X.op, .slice ta X.terms.length tc, .int .i64 X.k, .int .i64 X.v, .int .i64 X.x, .int .i64 X.y, .slice xa X.xs.length xc, .slice ba X.table.length bc, .slice ra X.rows.length rc]] w' fun e w'' => e = .returned (.string CT) ∧ Below w'.heap.size w' w'') := fun w' h => by
              rw [hCT]
              exact HDoc.out m.vars _ _ _ m.has X _ _ _ _ w' (HM.out.v.below (HLw.out w' h)) HNm.out (HCn.out.below (HLw.out w' h)) HX.out.1 HX.out.2
            have b1 : (⟨#[10]⟩ : ByteArray).size = 1 := rfl
            obtain ⟨s3, hs3⟩ : ∃ s3, s3 = s2 ++ CT := ⟨_, rfl⟩
            have z3 : s3.size ≤ 19503200 := by rw [hs3, ByteArray.size_append]; omega
            have a3 := add_str hs3 (by omega)
            obtain ⟨s4, hs4⟩ : ∃ s4, s4 = s3 ++ (⟨#[10]⟩ : ByteArray) := ⟨_, rfl⟩
            have a4 := add_str hs4 (by omega)
            have HE : Hid (s4.data.toList = Md.varsT m.vars ++ Md.consT m.vars (m.cons.take (n + 1))) := by
              show _ = _
              rw [HR.out, hs4, hs3]
              have h := hS2.out
              simp only [ByteArray.data_append, Array.toList_append]
              rw [h, HCT.out]
              simp
            have HEl : Hid ((Md.varsT m.vars ++ Md.consT m.vars (m.cons.take (n + 1))).length ≤ 19203200) := by
              have h1 := HCL.out (n + 1)
              have h2 := HVL.out m.vars.length
              rw [List.take_of_length_le (Nat.le_refl _)] at h2
              show _ ≤ _
              rw [List.length_append]
              omega
            clear hs3 hs4 hCT b1 k0 k1 k2 k3 k4 k5 k6 k7 k8 k9
            go_wp2_with fail
            clear p0 p1 p2 p3
            go_region_held3 (fun w' => w'.cell? ⟨w.heap.size, 0, none⟩ = some (.slice va m.vars.length vp) ∧ w'.cell? ⟨w.heap.size, 1, none⟩ = some (.slice (some ⟨g, off, none⟩) m.cons.length cp) ∧ w'.cell? ⟨w.heap.size, 2, none⟩ = some (.bool m.has) ∧ w'.cell? ⟨w.heap.size, 3, none⟩ = some (.slice ga m.goal.length gp) ∧ w'.cell? ⟨g, off + n * 10, none⟩ = some (.int .i64 X.kind) ∧ w'.cell? ⟨g, off + n * 10 + 1, none⟩ = some (.int .i64 X.op) ∧ w'.cell? ⟨g, off + n * 10 + 2, none⟩ = some (.slice ta X.terms.length tc) ∧ w'.cell? ⟨g, off + n * 10 + 3, none⟩ = some (.int .i64 X.k) ∧ w'.cell? ⟨g, off + n * 10 + 4, none⟩ = some (.int .i64 X.v) ∧ w'.cell? ⟨g, off + n * 10 + 5, none⟩ = some (.int .i64 X.x) ∧ w'.cell? ⟨g, off + n * 10 + 6, none⟩ = some (.int .i64 X.y) ∧ w'.cell? ⟨g, off + n * 10 + 7, none⟩ = some (.slice xa X.xs.length xc) ∧ w'.cell? ⟨g, off + n * 10 + 8, none⟩ = some (.slice ba X.table.length bc) ∧ w'.cell? ⟨g, off + n * 10 + 9, none⟩ = some (.slice ra X.rows.length rc) ∧ Below W1.heap.size W1 w')
              (first | exact HSc.out _ hB.out.drew | exact HSc.out _ (hB.out.drew.trans (hb5.mono hB.out.size)) | assumption)
              (first | (go_at_call 20; refine calls_at (HCc.out _ (And.right (And.right (And.right (And.right (And.right (And.right (And.right (And.right (And.right (And.right (And.right (And.right (And.right (And.right (by assumption)))))))))))))))) (by with_reducible rfl) (by with_reducible rfl) ?_; rintro e w5 ⟨rfl, hb5⟩))
            all_goals
              have HB5 : Hid (Below W1.heap.size W1 w5) := And.right (And.right (And.right (And.right (And.right (And.right (And.right (And.right (And.right (And.right (And.right (And.right (And.right (And.right (by assumption))))))))))))))
              clear hb5
              go_wp2_with fail
              go_roundw
              case rel =>
                refine ⟨n + 1, s4, by rfl, by go_num, by omega, ?_, HE, HB5⟩
                rw [size_toList, HE.out]
                exact HEl.out
              case measure => simp [intOf]; omega
          · have hnI : ¬ (n : Int) < (m.cons.length : Int) := by omega
            have HS6 : Hid (s2.data.toList = Md.varsT m.vars ++ Md.consT m.vars m.cons) := by
              have := hS2.out
              rw [List.take_of_length_le (by omega)] at this
              exact this
            rename World => wc
            have HBc : Hid (Below W1.heap.size W1 wc) := hB.out
            clear hS2 hB
            cases hh : m.has
            · have HTT : Hid (s2.data.toList = Md.textT m) := by
                show _ = _
                unfold Md.textT Md.goalT
                rw [hh, HS6.out]
                simp
              rw [hh] at p2
              have HTs : Hid (s2.data.toList = Md.textT m) := HTT.out
              have HF0 : Hid (Below w.heap.size w wc) := HLw.out _ HBc.out
              have HLn : Hid (s2.size = (Md.textT m).length) := (size_toList s2).trans (congrArg List.length HTs.out)
              by_cases hlong : 65536 < (Md.textT m).length
              · have HE : Hid (Md.print m = ([], 50)) := HP1.out hlong
                have hlI : (65536 : Int) < (s2.size : Int) := by have := HLn.out; omega
                clear hlong
                go_wp2_with fail
                go_ret2
                exact ⟨(by rw [HE.out]; rfl), HF0.out⟩
              · have HE : Hid (Md.print m = (Md.textT m, 0)) := HP2.out hlong
                have hlI : ¬ (65536 : Int) < (s2.size : Int) := by have := HLn.out; omega
                have HFs : Hid (s2 = ⟨(Md.textT m).toArray⟩) := mk_toList s2 HTs.out
                clear hlong
                go_wp2_with fail
                go_ret2
                exact ⟨(by rw [HE.out, HFs.out]; rfl), HF0.out⟩
            · have HG : Hid (m.goal.length ≤ 64 ∧ (∀ t ∈ m.goal, 0 ≤ t.2 ∧ t.2 < (m.vars.length : Int)) ∧ ∀ t ∈ m.goal, -1000000 ≤ t.1 ∧ t.1 ≤ 1000000) := by
                have h1 := Md.goal_of HRi.out.goal
                exact ⟨h1.2.1, h1.2.2.1, fun t ht => (h1.2.2.2 t ht).2⟩
              obtain ⟨SM, hSM⟩ : ∃ D : ByteArray, D = ⟨(Md.sumT m.vars m.goal).toArray⟩ := ⟨_, rfl⟩
              have zm : SM.size ≤ 2816 := by rw [hSM, size_mk]; have h1 := sumT_len HNm.out HG.out.2.1 HG.out.2.2; have h2 := HG.out.1; omega
              have HSM : Hid (SM.data.toList = Md.sumT m.vars m.goal) := by rw [hSM]; show _ = _; simp
              have HCs : Hid (Calls Tryz.prog 21 #[.agg #[.slice va m.vars.length vp, .slice ca m.cons.length cp, .bool true, .slice ga m.goal.length gp], .slice ga m.goal.length gp] wc fun e w'' => e = .returned (.string SM) ∧ Below wc.heap.size wc w'') := by
                rw [hSM]
                exact tqSum_any m.vars _ _ _ true _ m.goal wc (HM.out.v.below (HLw.out wc HBc.out)) HNm.out (HM.out.g.below (HLw.out wc HBc.out)) HG.out.2.1 HG.out.2.2 HG.out.1
              have b8 : (⟨#[109, 105, 110, 105, 109, 105, 122, 101]⟩ : ByteArray).size = 8 := rfl
              have b1 : (⟨#[10]⟩ : ByteArray).size = 1 := rfl
              obtain ⟨s3, hs3⟩ : ∃ s3, s3 = s2 ++ (⟨#[109, 105, 110, 105, 109, 105, 122, 101]⟩ : ByteArray) := ⟨_, rfl⟩
              have z3 : s3.size ≤ 19203208 := by rw [hs3, ByteArray.size_append]; omega
              have a3 := add_str hs3 (by omega)
              obtain ⟨s4, hs4⟩ : ∃ s4, s4 = s3 ++ SM := ⟨_, rfl⟩
              have z4 : s4.size ≤ 19206100 := by rw [hs4, ByteArray.size_append]; omega
              have a4 := add_str hs4 (by omega)
              obtain ⟨s5, hs5⟩ : ∃ s5, s5 = s4 ++ (⟨#[10]⟩ : ByteArray) := ⟨_, rfl⟩
              have a5 := add_str hs5 (by omega)
              have HTT : Hid (s5.data.toList = Md.textT m) := by
                show _ = _
                unfold Md.textT Md.goalT
                rw [hh, hs5, hs4, hs3]
                have h := HS6.out
                simp only [ByteArray.data_append, Array.toList_append]
                rw [h, HSM.out]
                simp
              have z5 : s5.size ≤ 19206200 := by rw [hs5, ByteArray.size_append]; omega
              clear hs3 hs4 hs5 hSM b8 b1
              rw [hh] at p2
              go_upto_region 16 with (go_at_call 21; refine calls_at HCs.out (by with_reducible rfl) (by with_reducible rfl) ?_; rintro e w7 ⟨rfl, hb7⟩)
              have HB7 : Hid (Below W1.heap.size W1 w7) := HBc.out.trans (hb7.mono HBc.out.size)
              clear hb7
              have HTs : Hid (s5.data.toList = Md.textT m) := HTT.out
              have HF0 : Hid (Below w.heap.size w w7) := HLw.out _ HB7.out
              have HLn : Hid (s5.size = (Md.textT m).length) := (size_toList s5).trans (congrArg List.length HTs.out)
              by_cases hlong : 65536 < (Md.textT m).length
              · have HE : Hid (Md.print m = ([], 50)) := HP1.out hlong
                have hlI : (65536 : Int) < (s5.size : Int) := by have := HLn.out; omega
                clear hlong
                go_wp2_with fail
                go_ret2
                exact ⟨(by rw [HE.out]; rfl), HF0.out⟩
              · have HE : Hid (Md.print m = (Md.textT m, 0)) := HP2.out hlong
                have hlI : ¬ (65536 : Int) < (s5.size : Int) := by have := HLn.out; omega
                have HFs : Hid (s5 = ⟨(Md.textT m).toArray⟩) := mk_toList s5 HTs.out
                clear hlong
                go_wp2_with fail
                go_ret2
                exact ⟨(by rw [HE.out, HFs.out]; rfl), HF0.out⟩
end Go.Proofs.YtjanpglnahagdaaGreatDoor
