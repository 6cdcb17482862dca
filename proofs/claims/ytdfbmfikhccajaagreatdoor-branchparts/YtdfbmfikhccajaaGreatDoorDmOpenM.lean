/-
  A problem as it comes in, with the room that its lists take; a script as it comes in.
-/
import Derived.Test.YtdfbmfikhccajaaGreatDoorJ26
import Derived.Test.YtdfbmfikhccajaaGreatDoorJ25
import Derived.SizedLaws
namespace Go.Proofs.YtdfbmfikhccajaaGreatDoor
open Go.ChangeShapes Go.WideShapes Go.ChangeAt Go.RowKit Go.Deep

/-- What was read is within reach. -/
def Fits {H : Type} (t : TypeId) (d : DataW H) : Prop := ∀ x ∈ d.weights Tryz.prog t, x ≤ reachBytes
theorem mem_all {H : Type} {P : Program} {e : TypeId} {l : List (DataW H)} {d : DataW H} (h : d ∈ l) : ∀ x ∈ d.weights P e, x ∈ DataW.weightsAll P e l := by
  induction l with
  | nil => cases h
  | cons a l ih =>
    intro x hx
    unfold DataW.weightsAll
    rcases List.mem_cons.1 h with rfl | h
    · exact List.mem_append_left _ hx
    · exact List.mem_append_right _ (ih h x hx)
theorem fits_each {H : Type} {P : Program} {ts : List TypeId} {ds : List (DataW H)} (h : ∀ x ∈ DataW.weightsEach P ts ds, x ≤ reachBytes) {j : Nat} {t : TypeId} {d : DataW H} (ht : ts[j]? = some t) (hd : ds[j]? = some d) : ∀ x ∈ d.weights P t, x ≤ reachBytes := by
  induction ts generalizing ds j with
  | nil => simp at ht
  | cons a ts ih =>
    cases ds with
    | nil => simp at hd
    | cons b ds =>
      unfold DataW.weightsEach at h
      cases j with
      | zero =>
        simp at ht hd
        subst ht hd
        exact fun x hx => h x (List.mem_append_left _ hx)
      | succ j => exact ih (fun x hx => h x (List.mem_append_right _ hx)) (by simpa using ht) (by simpa using hd)
section
variable {H : Type} {enc : TypeId × Value → H} {w : World} {base : Nat} {spare : Nat → Bool} {held : Bool} {fuel : Nat} {cs : List Value} {x : DataW H × List MemPlace}
theorem row_fit {t e : TypeId} {k : Nat} {v : Value} (ht : Tryz.prog.underlying t = some (.slice e)) (hk : Tryz.prog.bytesOf e = k) (h : DataW.trod enc Tryz.prog w base spare held fuel t [v] = some x) (hf : Fits t x.1) : ∀ a n cp, v = .slice a n cp → n * k ≤ reachBytes := by
  intro a' n' cp' hv
  rcases open_slice ht h with ⟨he, _⟩ | ⟨a, len, cap, m, n, D, Pl, he, _, hl, hm, hmm, hx, _⟩
  · simp only [List.cons.injEq, and_true] at he
    rw [he] at hv
    injection hv with h1 h2 h3
    rw [← h2, Nat.zero_mul]
    exact Nat.zero_le _
  · simp only [List.cons.injEq, and_true] at he
    rw [he] at hv
    injection hv with h1 h2 h3
    have := hf ((((List.range len).map D).length + ((List.range (m - len)).map fun j => D (len + j)).length) * Tryz.prog.bytesOf e) (by rw [hx]; unfold DataW.weights; rw [ht]; exact List.mem_cons_self)
    rw [hk, List.length_map, List.length_range] at this
    have h4 := Nat.mul_le_mul_right k (Nat.le_add_right len ((List.range (m - len)).map fun j => D (len + j)).length)
    rw [← h2]
    omega
theorem elem_fit {t e : TypeId} (ht : Tryz.prog.underlying t = some (.slice e)) {xs sp : List (DataW H)} (hf : Fits t (.slice xs sp)) : ∀ d ∈ xs, Fits e d := fun d hd y hy => hf y (by
  unfold DataW.weights
  rw [ht]
  exact List.mem_cons_of_mem _ (List.mem_append_left _ (mem_all hd y hy)))
theorem bytes113 : Tryz.prog.bytesOf 120 = 16 := by kernel_rfl
theorem bytes3 : Tryz.prog.bytesOf 3 = 8 := by kernel_rfl
set_option maxRecDepth 100000 in
theorem con_fit {v0 v1 v2 v3 v4 v5 v6 v7 v8 v9 : Value} (h : DataW.trod enc Tryz.prog w base spare held fuel 61 [v0, v1, v2, v3, v4, v5, v6, v7, v8, v9] = some x) (hf : Fits 61 x.1) : (∀ a n cp, v2 = .slice a n cp → n * 16 ≤ reachBytes) ∧ (∀ a n cp, v7 = .slice a n cp → n * 8 ≤ reachBytes) ∧ (∀ a n cp, v8 = .slice a n cp → n * 8 ≤ reachBytes) := by
  obtain ⟨xs, k, _, he, _, hxl, hg⟩ := DataW.trod_struct und62 h
  have hx : ∀ i, i < 10 → ∃ y, xs[i]? = some y := fun i hi => ⟨xs[i]'(by rw [hxl]; exact hi), List.getElem?_eq_getElem _⟩
  have g2 := hg 2 _ rfl
  have g7 := hg 7 _ rfl
  have g8 := hg 8 _ rfl
  simp [cells24p, cells27p] at g2 g7 g8
  obtain ⟨y2, e2⟩ := hx 2 (by decide)
  obtain ⟨y7, e7⟩ := hx 7 (by decide)
  obtain ⟨y8, e8⟩ := hx 8 (by decide)
  rw [e2] at g2; rw [e7] at g7; rw [e8] at g8
  have hff : ∀ x ∈ DataW.weightsEach Tryz.prog [3, 3, 24, 3, 3, 3, 3, 38, 38, 59] (xs.map (·.1)), x ≤ reachBytes := fun y hy => hf y (by
    rw [he]
    unfold DataW.weights
    rw [und62]
    exact hy)
  exact ⟨row_fit und24 bytes113 g2 (fits_each hff (j := 2) rfl (by rw [List.getElem?_map, e2]; rfl)), row_fit und27 bytes3 g7 (fits_each hff (j := 7) rfl (by rw [List.getElem?_map, e7]; rfl)), row_fit und27 bytes3 g8 (fits_each hff (j := 8) rfl (by rw [List.getElem?_map, e8]; rfl))⟩
/-- A constraint's lists have room. -/
def CnRoom (c : Md.Cn) : Prop := c.terms.length * 16 ≤ 140737488355328 ∧ c.xs.length * 8 ≤ 140737488355328 ∧ c.table.length * 8 ≤ 140737488355328

theorem cons_open3 (h : DataW.trod enc Tryz.prog w base spare held fuel 23 cs = some x) (hf : Fits 23 x.1) : ∃ v l, cs = [v] ∧ ConsAt w v l ∧ ∀ c ∈ l, CnRoom c := by
  rcases open_slice und23 h with ⟨rfl, _⟩ | ⟨a, len, cap, m, n, D, Pl, rfl, _, hl, hm, hmm, hxe, hx⟩
  · exact ⟨_, [], rfl, ⟨none, 0, rfl, Nat.zero_le _, fun h => absurd h (by decide)⟩, fun c hc => by cases hc⟩
  · have hlm : len ≤ m := by rw [hmm]; split <;> omega
    rw [hxe] at hf
    have each : ∀ i, i < len → ∃ c : Md.Cn, ∃ vt vx vb vr, CnAt w c vt vx vb vr ∧ CnRoom c ∧ ∀ j u, [.int .i64 c.kind, .int .i64 c.op, vt, .int .i64 c.k, .int .i64 c.v, .int .i64 c.x, .int .i64 c.y, vx, vb, vr][j]? = some u → w.cell? (a.add (i * 10 + j)) = some u := fun i hi => by
      obtain ⟨cs', h1, h2⟩ := hx i (by omega)
      rw [cells62] at h1
      obtain ⟨c, vt, vx, vb, vr, hc, hC⟩ := con_open h2
      subst hc
      obtain ⟨_, _, hcell⟩ := World.cells?_some h1
      have hfi : Fits 61 (D i) := elem_fit und23 hf (D i) (List.mem_map.2 ⟨i, List.mem_range.2 hi, rfl⟩)
      obtain ⟨r2, r7, r8⟩ := con_fit h2 hfi
      obtain ⟨t1, t2, ht, _⟩ := hC.t.form
      obtain ⟨x1, x2, hx', _⟩ := hC.x.form
      obtain ⟨b1, b2, hb', _⟩ := hC.b.form
      have hR : CnRoom c := by
        have q2 := r2 _ _ _ ht
        have q7 := r7 _ _ _ hx'
        have q8 := r8 _ _ _ hb'
        unfold reachBytes at q2 q7 q8
        unfold CnRoom
        omega
      refine ⟨c, vt, vx, vb, vr, hC, hR, fun j u hj => ?_⟩
      have := hcell j (List.getElem?_eq_some_iff.1 hj).1
      rw [add_add] at this
      rw [this]; exact hj
    haveI : Inhabited Md.Cn := ⟨⟨0, 0, [], 0, 0, 0, 0, [], [], []⟩⟩
    obtain ⟨l, hll, hl2⟩ := list_of each
    refine ⟨_, l, rfl, ⟨some a, cap, by rw [hll], by omega, fun h0 => ?_⟩, fun c hc => ?_⟩
    · obtain ⟨b, off, spot⟩ := a
      obtain ⟨_, _, _, _, _, _, e0⟩ := hl2 0 h0
      have e0' := e0 0 _ rfl
      have hspot : spot = none := World.cell?_spot e0'
      subst hspot
      refine ⟨b, off, rfl, World.block_lt_of_cell? w _ e0', fun j hj => ?_⟩
      obtain ⟨vt, vx, vb, vr, hC, _, he⟩ := hl2 j hj
      have he' : ∀ i u, [.int .i64 l[j].kind, .int .i64 l[j].op, vt, .int .i64 l[j].k, .int .i64 l[j].v, .int .i64 l[j].x, .int .i64 l[j].y, vx, vb, vr][i]? = some u → w.cell? ⟨b, off + j * 10 + i, none⟩ = some u := fun i u hu => by
        have := he i u hu
        rw [addr_none] at this
        rw [Nat.add_assoc]; exact this
      exact ⟨vt, vx, vb, vr, hC, he' 0 _ rfl, he' 1 _ rfl, he' 2 _ rfl, he' 3 _ rfl, he' 4 _ rfl, he' 5 _ rfl, he' 6 _ rfl, he' 7 _ rfl, he' 8 _ rfl, he' 9 _ rfl⟩
    · obtain ⟨i, hi, rfl⟩ := List.getElem_of_mem hc
      obtain ⟨_, _, _, _, _, hR, _⟩ := hl2 i hi
      exact hR

set_option maxRecDepth 100000 in
theorem mo_open3 (h : DataW.trod enc Tryz.prog w base spare held fuel 26 cs = some x) (hfx : Fits 26 x.1) : ∃ m vv vc vg, cs = [vv, vc, .bool m.has, vg] ∧ MoAt w m vv vc vg ∧ ∀ c ∈ m.cons, CnRoom c := by
  obtain ⟨xs, k, _, he, hl, hxl, hf⟩ := DataW.trod_struct und26 h
  replace hl : cs.length = 4 := hl.trans cells26p
  have hff : ∀ x ∈ DataW.weightsEach Tryz.prog [22, 23, 4, 24] (xs.map (·.1)), x ≤ reachBytes := fun y hy => hfx y (by
    rw [he]
    unfold DataW.weights
    rw [und26]
    exact hy)
  match cs, hl with
  | [v0, v1, v2, v3], _ =>
    have g0 := hf 0 _ rfl
    have g1 := hf 1 _ rfl
    have g2 := hf 2 _ rfl
    have g3 := hf 3 _ rfl
    simp [cells22p, cells23p, cells24p, cells4p] at g0 g1 g2 g3
    have hx : ∀ i, i < 4 → ∃ y, xs[i]? = some y := fun i hi => ⟨xs[i]'(by rw [hxl]; exact hi), List.getElem?_eq_getElem _⟩
    obtain ⟨y0, e0⟩ := hx 0 (by decide)
    obtain ⟨y1, e1⟩ := hx 1 (by decide)
    obtain ⟨y2, e2⟩ := hx 2 (by decide)
    obtain ⟨y3, e3⟩ := hx 3 (by decide)
    rw [e0] at g0; rw [e1] at g1; rw [e2] at g2; rw [e3] at g3
    obtain ⟨u0, l0, h0, A0, C0⟩ := vars_open g0
    obtain ⟨u1, l1, h1, A1, R1⟩ := cons_open3 g1 (fits_each hff (j := 1) rfl (by rw [List.getElem?_map, e1]; rfl))
    obtain ⟨b2, h2, _⟩ := DataW.trod_bool Tryz.underlying4 g2
    obtain ⟨u3, l3, h3, A3⟩ := terms_open g3
    simp at h0 h1 h2 h3
    subst h0 h1 h2 h3
    exact ⟨⟨l0, l1, b2, l3⟩, _, _, _, rfl, ⟨A0, C0, A1, A3⟩, R1⟩

theorem und34 : Tryz.prog.underlying 44 = some (.struct #[⟨"Kind", 3, 0, false, "", "", 0⟩, ⟨"X", 3, 1, false, "", "", 8⟩, ⟨"V", 3, 2, false, "", "", 16⟩]) := by kernel_rfl
theorem cells34p : Tryz.prog.cellsOf 44 = 3 := by kernel_rfl
end
end Go.Proofs.YtdfbmfikhccajaaGreatDoor
