/-
  Put together: PpMe, PpStM.
-/
import Derived.Test.YtlcegpnnanhloaaGreatDoorJ44
import Derived.Test.YtlcegpnnanhloaaGreatDoorJ32
import Derived.Test.YtlcegpnnanhloaaGreatDoorJ37
import Derived.Test.YtlcegpnnanhloaaGreatDoorJ40
namespace Go.Proofs.YtlcegpnnanhloaaGreatDoor

theorem hold_1 {c : Md.Cn} {vs : List Int} (h : c.kind = 1) : Md.hold c vs = Md.linB c vs := by unfold Md.hold; rw [if_pos h]
theorem hold_k {c : Md.Cn} {vs : List Int} (k : Int) (h : c.kind = k) : Md.hold c vs = if k = 1 then Md.linB c vs else if k = 2 then Md.neB c vs else if k = 3 then Md.adB c vs else if k = 4 then Md.elB c vs else if k = 5 then Md.mxB c vs else if k = 6 then Md.mnB c vs else if k = 7 then Md.rfB c vs else if k = 8 then Md.tbB c vs else Md.ctB c vs := by
  unfold Md.hold
  rw [h]
theorem rule_k {D : List Dm} {c : Md.Cn} {Q : List Sq} (k : Int) (h : c.kind = k) : ruleQ D c Q = if k = 1 then linQ D c Q else if k = 2 then neQ D c Q else if k = 3 then some Q else if k = 4 then some (elemQ D c Q) else if k = 5 then maxQ false D c Q else if k = 6 then maxQ true D c Q else if k = 7 then reifQ D c Q else if k = 8 then tableQ D c Q else countQ D c Q := by
  unfold ruleQ
  rw [h]
theorem rule_safe (c : Md.Cn) (n : Nat) (hc : Md.Fit c n) : Safe (fun D Q => ruleQ D c Q) n (fun vs => Md.hold c vs = true) := by
  intro D vs Q hn hf hl hh
  have hk : c.kind = 1 ∨ c.kind = 2 ∨ c.kind = 3 ∨ c.kind = 4 ∨ c.kind = 5 ∨ c.kind = 6 ∨ c.kind = 7 ∨ c.kind = 8 ∨ c.kind = 9 := by have := hc.kind; omega
  have hh : Md.hold c vs = true := hh
  show ∃ Q', ruleQ D c Q = some Q' ∧ _
  rcases hk with e | e | e | e | e | e | e | e | e <;> (rw [rule_k _ e]; rw [hold_k _ e] at hh)
  · exact lin_safe c n hc.k (hc.op (by rw [e]; rfl)) hc.tx D vs Q hn hf hl hh
  · exact ne_safe c n hc.x hc.y D vs Q hn hf hl hh
  · exact ⟨Q, rfl, fun _ _ _ h => h⟩
  · exact elem_safe c n hc.x hc.y D vs Q hn hf hl hh
  · exact max_safe false c n (hc.xp (by rw [e]; rfl)) hc.y hc.xs D vs Q hn hf hl ((mx_v c vs).1 hh)
  · exact max_safe true c n (hc.xp (by rw [e]; rfl)) hc.y hc.xs D vs Q hn hf hl ((mn_v c vs).1 hh)
  · exact reif_safe c n hc.k hc.x hc.tx D vs Q hn hf hl hh
  · exact table_safe c n hc.xs D vs Q hn hf hl hh
  · exact count_safe c n (hc.op (by rw [e]; rfl)) hc.xs D vs Q hn hf hl hh
theorem rule_tells (c : Md.Cn) (n : Nat) (hc : Md.Fit c n) (h3 : c.kind ≠ 3) : Tells (fun D Q => ruleQ D c Q) n (fun vs => Md.hold c vs = true) := by
  intro D vs Q Q' hn hf hl h1 h hq
  have hk : c.kind = 1 ∨ c.kind = 2 ∨ c.kind = 4 ∨ c.kind = 5 ∨ c.kind = 6 ∨ c.kind = 7 ∨ c.kind = 8 ∨ c.kind = 9 := by have := hc.kind; omega
  have h : ruleQ D c Q = some Q' := h
  show Md.hold c vs = true
  rcases hk with e | e | e | e | e | e | e | e <;> (rw [rule_k _ e] at h; rw [hold_k _ e])
  · exact lin_tells c n hc.k (hc.op (by rw [e]; rfl)) hc.tx D vs Q Q' hn hf hl h1 h hq
  · exact ne_tells c n hc.x hc.y D vs Q Q' hn hf hl h1 h hq
  · exact elem_tells c n hc.x hc.y D vs Q Q' hn hf hl h1 h hq
  · exact (mx_v c vs).2 (max_tells false c n (hc.xp (by rw [e]; rfl)) hc.y hc.xs D vs Q Q' hn hf hl h1 h hq)
  · exact (mn_v c vs).2 (max_tells true c n (hc.xp (by rw [e]; rfl)) hc.y hc.xs D vs Q Q' hn hf hl h1 h hq)
  · exact reif_tells c n hc.k hc.x hc.tx D vs Q Q' hn hf hl h1 h hq
  · exact table_tells c n hc.xs hc.rr D vs Q Q' hn hf hl h1 h hq
  · exact count_tells c n hc.xs D vs Q Q' hn hf hl h1 h hq
theorem rule_less (c : Md.Cn) (n : Nat) (hc : Md.Fit (c0 c) n) : Less (fun D Q => ruleQ D c Q) n := by
  intro D' D Q1' Q1 Q' hn hf' hf hs h
  obtain ⟨e1, e2, e3, e4, e5, e6⟩ := c0_k c
  obtain ⟨l1, l2, l3, l4⟩ := c0_lists c
  have fk := hc.kind
  have fx := hc.x
  have fy := hc.y
  have fxs := hc.xs
  have fxp := hc.xp
  rw [e1] at fk fxp
  rw [e4] at fx
  rw [e5] at fy
  rw [l2] at fxs fxp
  have hk : c.kind = 1 ∨ c.kind = 2 ∨ c.kind = 3 ∨ c.kind = 4 ∨ c.kind = 5 ∨ c.kind = 6 ∨ c.kind = 7 ∨ c.kind = 8 ∨ c.kind = 9 := by omega
  have h : ruleQ D' c Q1' = some Q' := h
  show ∃ Q, ruleQ D c Q1 = some Q ∧ _
  rcases hk with e | e | e | e | e | e | e | e | e <;> (rw [rule_k _ e] at h; rw [rule_k _ e])
  · exact lin_less c n D' D Q1' Q1 Q' hn hf' hf hs h
  · exact ne_less c n fx fy D' D Q1' Q1 Q' hn hf' hf hs h
  · have h : some Q1' = some Q' := h
    injection h with h
    subst h
    exact ⟨Q1, rfl, fun _ _ _ _ _ h h2 => h h2⟩
  · exact elem_less c n fx fy D' D Q1' Q1 Q' hn hf' hf hs h
  · exact max_less false c n (fxp (by rw [e]; rfl)) fy fxs D' D Q1' Q1 Q' hn hf' hf hs h
  · exact max_less true c n (fxp (by rw [e]; rfl)) fy fxs D' D Q1' Q1 Q' hn hf' hf hs h
  · exact reif_less c n fx D' D Q1' Q1 Q' hn hf' hf hs h
  · exact table_less c n fxs D' D Q1' Q1 Q' hn hf' hf hs h
  · exact count_less c n D' D Q1' Q1 Q' hn hf' hf hs h

/-! What goes. -/
theorem first_le {l : List Int} (h : l.Pairwise (· < ·)) {v : Int} (hv : v ∈ l) : l.getD 0 0 ≤ v ∧ l.getD 0 0 ∈ l := by
  cases l with
  | nil => cases hv
  | cons a l =>
    show a ≤ v ∧ a ∈ a :: l
    refine ⟨?_, by simp⟩
    rcases List.mem_cons.1 hv with rfl | hv
    · exact Int.le_refl _
    · exact Int.le_of_lt (List.rel_of_pairwise_cons h hv)
theorem le_last {l : List Int} (h : l.Pairwise (· < ·)) {v : Int} (hv : v ∈ l) : v ≤ l.getD (l.length - 1) 0 ∧ l.getD (l.length - 1) 0 ∈ l := by
  have hpos := List.length_pos_of_mem hv
  have hi : l.length - 1 < l.length := by omega
  have e : l.getD (l.length - 1) 0 = l[l.length - 1] := by rw [List.getD_eq_getElem?_getD, List.getElem?_eq_getElem hi]; rfl
  rw [e]
  refine ⟨?_, List.getElem_mem hi⟩
  obtain ⟨i, hil, rfl⟩ := List.getElem_of_mem hv
  by_cases h2 : i = l.length - 1
  · subst h2
    exact Int.le_refl _
  · exact Int.le_of_lt (List.pairwise_iff_getElem.1 h i (l.length - 1) hil hi (by omega))
def cutsK (q : Sq) (d : Dm) (k : Nat) : List Ct := if passB q d = true then [] else q.cutsL (k : Int) d.all
theorem stB_other {q : Ct} {x v : Int} (h : q.x ≠ x) : stB q x v = true := by
  unfold stB
  simp [h]
theorem stB_1 (x v a : Int) : stB ⟨1, x, a⟩ x v = true ↔ a ≤ v := by unfold stB; simp
theorem stB_2 (x v a : Int) : stB ⟨2, x, a⟩ x v = true ↔ v ≤ a := by unfold stB; simp
theorem stB_3 (x v a : Int) : stB ⟨3, x, a⟩ x v = true ↔ v ≠ a := by unfold stB; simp
theorem cutsK_x {q : Sq} {d : Dm} {k : Nat} {c : Ct} (h : c ∈ cutsK q d k) : c.x = (k : Int) := by
  unfold cutsK at h
  split at h
  · cases h
  · unfold Sq.cutsL at h
    split at h
    · unfold endsL at h
      rw [List.mem_append] at h
      rcases h with h | h
      · split at h
        · rw [List.mem_singleton.1 h]
        · cases h
      · split at h
        · rw [List.mem_singleton.1 h]
        · cases h
    · unfold Sq.gone at h
      obtain ⟨v, _, rfl⟩ := List.mem_map.1 h
      rfl
theorem cutsK_is {q : Sq} {d : Dm} (hf : d.Fine) (k : Nat) {v : Int} (hv : d.has v = true) : (∀ c ∈ cutsK q d k, stB c (k : Int) v = true) ↔ q.has v = true := by
  have hva := (hf.all v).2 hv
  unfold cutsK
  split
  · rename_i hp
    have hp : q.ts.length = 0 ∧ (q.lo ≤ d.lo ∧ d.lo ≤ q.hi) ∧ (q.lo ≤ d.hi ∧ d.hi ≤ q.hi) := by simpa [passB, inB] using hp
    have ht : q.ts = [] := List.length_eq_zero_iff.1 hp.1
    have a := hf.least v hv
    have b := hf.most v hv
    refine ⟨fun _ => ?_, fun _ c hc => by cases hc⟩
    unfold Sq.has inB
    rw [ht]
    simp
    omega
  · unfold Sq.cutsL
    split
    · rename_i hp
      have hp : q.ts.length = 0 ∧ 0 < (q.kept d.all).length := by simpa using hp
      have ht : q.ts = [] := List.length_eq_zero_iff.1 hp.1
      have hhas : ∀ u, q.has u = true ↔ q.lo ≤ u ∧ u ≤ q.hi := fun u => by unfold Sq.has inB; rw [ht]; simp
      have hkp : (q.kept d.all).Pairwise (· < ·) := hf.up.sublist List.filter_sublist
      obtain ⟨u0, hu0⟩ := List.exists_mem_of_length_pos hp.2
      have hf0 := first_le hkp hu0
      have hl0 := le_last hkp hu0
      have hmem : ∀ u, u ∈ q.kept d.all ↔ u ∈ d.all ∧ q.has u = true := fun u => by unfold Sq.kept; rw [List.mem_filter]
      have hF := first_le hf.up hva
      have hL := le_last hf.up hva
      generalize hfe : (q.kept d.all).getD 0 0 = f at *
      generalize hle : (q.kept d.all).getD ((q.kept d.all).length - 1) 0 = l at *
      have hff := (hhas f).1 ((hmem f).1 hf0.2).2
      have hll := (hhas l).1 ((hmem l).1 hl0.2).2
      have key : (∀ c ∈ endsL (k : Int) d.all (q.kept d.all), stB c (k : Int) v = true) ↔ f ≤ v ∧ v ≤ l := by
        unfold endsL
        rw [hfe, hle]
        constructor
        · intro h
          constructor
          · by_cases e : f = d.all.getD 0 0
            · omega
            · exact (stB_1 _ _ _).1 (h ⟨1, (k : Int), f⟩ (by rw [if_pos e]; simp))
          · by_cases e : l = d.all.getD (d.all.length - 1) 0
            · omega
            · exact (stB_2 _ _ _).1 (h ⟨2, (k : Int), l⟩ (by rw [if_pos e]; simp))
        · rintro ⟨h1, h2⟩ c hc
          rw [List.mem_append] at hc
          rcases hc with hc | hc
          · split at hc
            · rw [List.mem_singleton.1 hc]
              exact (stB_1 _ _ _).2 h1
            · cases hc
          · split at hc
            · rw [List.mem_singleton.1 hc]
              exact (stB_2 _ _ _).2 h2
            · cases hc
      rw [key, hhas]
      constructor
      · rintro ⟨h1, h2⟩
        omega
      · intro h
        have hm := (hmem v).2 ⟨hva, (hhas v).2 h⟩
        have a := (first_le hkp hm).1
        have b := (le_last hkp hm).1
        rw [hfe] at a
        rw [hle] at b
        exact ⟨a, b⟩
    · unfold Sq.gone
      constructor
      · intro h
        apply Classical.byContradiction
        intro hn
        have := h ⟨3, (k : Int), v⟩ (List.mem_map.2 ⟨v, List.mem_filter.2 ⟨hva, by simpa using hn⟩, rfl⟩)
        exact (stB_3 _ _ _).1 this rfl
      · intro h c hc
        obtain ⟨u, hu, rfl⟩ := List.mem_map.1 hc
        refine (stB_3 _ _ _).2 fun e => ?_
        subst e
        have := (List.mem_filter.1 hu).2
        rw [h] at this
        cases this
theorem upto_mem {Q : List Sq} {D : List Dm} {n : Nat} {c : Ct} : c ∈ cutsUpto Q D n ↔ ∃ k, k < n ∧ ∃ q d, Q[k]? = some q ∧ D[k]? = some d ∧ c ∈ cutsK q d k := by
  induction n with
  | zero => simp [cutsUpto]
  | succ n ih =>
    unfold cutsUpto
    rw [List.mem_append, ih]
    constructor
    · rintro (⟨k, hk, h⟩ | h)
      · exact ⟨k, by omega, h⟩
      · refine ⟨n, by omega, ?_⟩
        unfold cutOf at h
        split at h
        · rename_i q d h1 h2
          exact ⟨q, d, h1, h2, h⟩
        · cases h
    · rintro ⟨k, hk, q, d, h1, h2, h3⟩
      by_cases e : k = n
      · subst e
        right
        unfold cutOf
        rw [h1, h2]
        exact h3
      · exact .inl ⟨k, by omega, q, d, h1, h2, h3⟩
theorem some_is {Q : List Sq} {D : List Dm} (hf : Fines D) (hq : Q.length = D.length) {x : Nat} {d : Dm} (hd : D[x]? = some d) {v : Int} (hv : d.has v = true) : someB (cutsUpto Q D D.length) (x : Int) v = true ↔ qH Q x v := by
  have hx : x < D.length := (List.getElem?_eq_some_iff.1 hd).1
  unfold someB qH
  rw [List.all_eq_true]
  have hQ : Q[x]? = some Q[x] := List.getElem?_eq_getElem (by omega)
  constructor
  · intro h
    refine ⟨_, hQ, (cutsK_is (hf.get x d hd) x hv).1 fun c hc => h c (upto_mem.2 ⟨x, hx, _, _, hQ, hd, hc⟩)⟩
  · rintro ⟨q, h1, h2⟩ c hc
    obtain ⟨k, hk, q', d', h3, h4, h5⟩ := upto_mem.1 hc
    by_cases e : k = x
    · subst e
      rw [h1] at h3
      rw [hd] at h4
      injection h3 with h3
      injection h4 with h4
      subst h3 h4
      exact (cutsK_is (hf.get k d hd) k hv).2 h2 c h5
    · exact stB_other (by rw [cutsK_x h5]; omega)

/-- A cut leaves the values. -/
def lf1 (ins : List Int) (q : Ct) : Bool := decide (0 ≤ q.x) && (decide (q.x < (ins.length : Int)) && stB q q.x (ins.getD q.x.toNat 0))
def leftB (L : List Ct) (ins : List Int) : Bool := L.all (lf1 ins)
theorem left_is {Q : List Sq} {D : List Dm} {vs : List Int} (hf : Fines D) (hq : Q.length = D.length) (hl : Lies D vs) : leftB (cutsUpto Q D D.length) vs = true ↔ ∀ x v, vs[x]? = some v → qH Q x v := by
  unfold leftB
  rw [List.all_eq_true]
  constructor
  · intro h x v hv
    have hx : x < D.length := by rw [← hl.len]; exact (List.getElem?_eq_some_iff.1 hv).1
    have hd : D[x]? = some D[x] := List.getElem?_eq_getElem hx
    obtain ⟨v', hv', h1⟩ := hl.get x _ hd
    rw [hv] at hv'
    injection hv' with hv'
    subst hv'
    refine (some_is hf hq hd h1).1 ?_
    unfold someB
    rw [List.all_eq_true]
    intro c hc
    by_cases e : c.x = (x : Int)
    · have := h c hc
      unfold lf1 at this
      rw [Bool.and_eq_true, Bool.and_eq_true] at this
      have h3 := this.2.2
      rw [e, Int.toNat_natCast, List.getD_eq_getElem?_getD, hv] at h3
      exact h3
    · exact stB_other e
  · intro h c hc
    obtain ⟨k, hk, q, d, h3, h4, h5⟩ := upto_mem.1 hc
    have ex := cutsK_x h5
    obtain ⟨v, hv, h1⟩ := hl.get k d h4
    have h2 := (some_is hf hq h4 h1).2 (h k v hv)
    unfold someB at h2
    rw [List.all_eq_true] at h2
    have h6 := h2 c hc
    have hln := hl.len
    unfold lf1
    rw [ex, Int.toNat_natCast, List.getD_eq_getElem?_getD, hv, Bool.and_eq_true, Bool.and_eq_true]
    exact ⟨by simp, by simp; omega, h6⟩
theorem all_one {d : Dm} (hf : d.Fine) (h : d.one = true) : d.all = [d.lo] := by
  have hm := (hf.all d.lo).2 hf.loIn
  have hu := hf.up
  have he : ∀ v ∈ d.all, v = d.lo := fun v hv => hf.only h ((hf.all v).1 hv)
  revert hm hu he
  cases d.all with
  | nil => intro hm; cases hm
  | cons a l =>
    intro hm hu he
    have e1 := he a (by simp)
    cases l with
    | nil => rw [e1]
    | cons b l =>
      have e2 := he b (by simp)
      have := List.rel_of_pairwise_cons hu (List.mem_cons_self (a := b) (l := l))
      omega
theorem nil_is {Q : List Sq} {D : List Dm} {vs : List Int} (hf : Fines D) (hq : Q.length = D.length) (hl : Lies D vs) (h1 : Ones D) : cutsUpto Q D D.length = [] ↔ ∀ x v, vs[x]? = some v → qH Q x v := by
  constructor
  · intro h
    refine (left_is hf hq hl).1 ?_
    rw [h]
    rfl
  · intro h
    apply List.eq_nil_iff_forall_not_mem.2
    intro c hc
    obtain ⟨k, hk, q, d, h3, h4, h5⟩ := upto_mem.1 hc
    obtain ⟨v, hv, hd⟩ := hl.get k d h4
    have hfd := hf.get k d h4
    have ho := h1 k d h4
    have e := hfd.only ho hd
    obtain ⟨q', hq1, hq2⟩ := h k v hv
    rw [h3] at hq1
    injection hq1 with hq1
    subst hq1
    rw [e] at hq2
    unfold cutsK at h5
    split at h5
    · cases h5
    · rw [all_one hfd ho] at h5
      unfold Sq.cutsL Sq.kept Sq.gone at h5
      have ek : [d.lo].filter q.has = [d.lo] := by simp [hq2]
      have eg : [d.lo].filter (fun v => !q.has v) = [] := by simp [hq2]
      rw [ek, eg] at h5
      split at h5
      · unfold endsL at h5
        simp at h5
      · cases h5
theorem keepQ_l (Q : List Sq) (y : Nat) (a b : Int) : (keepQ Q y a b).length = Q.length := by
  unfold keepQ
  split
  · rw [List.length_set]
  · rfl
theorem someQ_l (Q : List Sq) (y : Nat) (t : Int → Bool) : (someQ Q y t).length = Q.length := by
  unfold someQ
  split
  · rw [List.length_set]
  · rfl
theorem sKeepQ_l (t : Bool) (Q : List Sq) (y : Nat) (a b : Int) : (sKeepQ t Q y a b).length = Q.length := by
  unfold sKeepQ
  split <;> exact keepQ_l _ _ _ _
theorem amQ_l (t : Bool) (sp : Int) (zs : List (Int × Dm)) (Q : List Sq) (n : Nat) : (amQ t sp zs Q n).length = Q.length := by
  induction n with
  | zero => rfl
  | succ n ih =>
    unfold amQ
    split
    · unfold amStep
      split
      · rw [sKeepQ_l, ih]
      · split
        · rw [sKeepQ_l, ih]
        · exact ih
    · exact ih
theorem atMost_l {t : Bool} {D : List Dm} {cs : List Int} {k : Int} {Q Q' : List Sq} (h : atMostQ t D cs k Q = some Q') : Q'.length = Q.length := by
  unfold atMostQ at h
  split at h
  · cases h
  · injection h with h
    rw [← h, amQ_l]
theorem rf3_l (D : List Dm) (cs : List Int) (k : Int) (x : Nat) (Q : List Sq) : (rf3Q D cs k x Q).length = Q.length := by
  unfold rf3Q
  split <;> split <;> simp only [keepQ_l]
theorem grs_l (t : Bool) (D : List Dm) (xs : List Int) (a b : Int) (ys : List Int) (Q : List Sq) : (ys.foldl (grStep t D xs a b) Q).length = Q.length := by
  induction ys generalizing Q with
  | nil => rfl
  | cons y ys ih =>
    rw [List.foldl_cons, ih]
    unfold grStep
    split <;> simp only [sKeepQ_l]
theorem ctQ_l (am al : Bool) (v k sure may : Int) (zs : List (Int × Dm)) (Q : List Sq) (n : Nat) : (ctQ am al v k sure may zs Q n).length = Q.length := by
  induction n with
  | zero => rfl
  | succ n ih =>
    unfold ctQ
    split
    · unfold ctStep
      split
      · exact ih
      · split
        · rw [keepQ_l]
          split
          · rw [someQ_l, ih]
          · exact ih
        · split
          · rw [someQ_l, ih]
          · exact ih
    · exact ih
theorem tab_l (D : List Dm) (c : Md.Cn) (Q : List Sq) (n : Nat) : (tabF D c Q n).length = Q.length := by
  unfold tabF
  induction n with
  | zero => rfl
  | succ n ih =>
    rw [List.range_succ, List.foldl_append]
    show (someQ _ _ _).length = _
    rw [someQ_l, ih]
theorem rule_l {D : List Dm} {c : Md.Cn} {Q Q' : List Sq} (h : ruleQ D c Q = some Q') : Q'.length = Q.length := by
  unfold ruleQ at h
  split at h
  · unfold linQ at h
    generalize hg : (if c.op = 3 then some Q else atMostQ false D (coefL c.terms D.length) c.k Q) = g at h
    cases g with
    | none => cases h
    | some P =>
      have e1 : P.length = Q.length := by
        split at hg
        · injection hg with hg; rw [hg]
        · exact atMost_l hg
      have h : (if c.op = 1 then some P else atMostQ true D (coefL c.terms D.length) c.k P) = some Q' := h
      split at h
      · have h := Option.some.inj h; rw [← h, e1]
      · rw [atMost_l h, e1]
  split at h
  · unfold neQ at h
    split at h
    · split at h
      · cases h
      · have h := Option.some.inj h; rw [h]
    · have h := Option.some.inj h
      rw [← h]
      split <;> split <;> simp only [someQ_l]
  split at h
  · have h := Option.some.inj h; rw [h]
  split at h
  · have h := Option.some.inj h
    rw [← h]
    unfold elemQ
    rw [someQ_l, someQ_l]
  split at h
  · unfold maxQ greatQ at h
    split at h
    · cases h
    · have h := Option.some.inj h
      rw [← h, grs_l, sKeepQ_l]
  split at h
  · unfold maxQ greatQ at h
    split at h
    · cases h
    · have h := Option.some.inj h
      rw [← h, grs_l, sKeepQ_l]
  split at h
  · unfold reifQ at h
    split at h
    · cases h
    · split at h
      · have h := Option.some.inj h
        rw [← h, rf3_l]
      · split at h
        · rw [atMost_l h, rf3_l]
        · rw [atMost_l h, rf3_l]
  split at h
  · unfold tableQ at h
    split at h
    · have h := Option.some.inj h
      rw [← h, tab_l]
    · cases h
  · unfold countQ at h
    split at h
    · cases h
    · have h := Option.some.inj h
      rw [← h, ctQ_l]
theorem all_qH {n x : Nat} {v : Int} (hx : x < n) (hv : Sml v) : qH (List.replicate n sqA) x v := by
  refine ⟨sqA, ?_, ?_⟩
  · rw [List.getElem?_replicate, if_pos hx]
  · unfold Sml at hv
    unfold Sq.has sqA inB
    simp
    exact hv
theorem Lies.sml {D : List Dm} {vs : List Int} (hf : Fines D) (hl : Lies D vs) {x : Nat} {v : Int} (hv : vs[x]? = some v) : x < D.length ∧ Sml v := by
  have hx : x < D.length := by rw [← hl.len]; exact (List.getElem?_eq_some_iff.1 hv).1
  have hd : D[x]? = some D[x] := List.getElem?_eq_getElem hx
  obtain ⟨v', hv', h1⟩ := hl.get x _ hd
  rw [hv] at hv'
  injection hv' with hv'
  subst hv'
  exact ⟨hx, (hf.get x _ hd).sml h1⟩

/-- P12.10. -/
theorem cutR_safe {D : List Dm} {vs : List Int} {c : Md.Cn} (hf : Fines D) (hl : Lies D vs) (hc : Md.fault c (D.length : Int) = 0) (hh : Md.hold c vs = true) : (cutR D c).2 = true ∧ leftB (cutR D c).1 vs = true := by
  unfold cutR
  split
  · obtain ⟨Q, e, hq⟩ := rule_safe c D.length (Md.fit_of hc) D vs (List.replicate D.length sqA) rfl hf hl hh
    have e : ruleQ D c (List.replicate D.length sqA) = some Q := e
    rw [e]
    refine ⟨rfl, (left_is hf ?_ hl).2 fun x v hv => hq x v hv (all_qH (hl.sml hf hv).1 (hl.sml hf hv).2)⟩
    rw [rule_l e, List.length_replicate]
  · exact ⟨rfl, rfl⟩
/-- P12.12. -/
theorem cutR_less {D' D : List Dm} {c : Md.Cn} (hf' : Fines D') (hf : Fines D) (hs : Fewer D' D) : ((cutR D' c).2 = true → (cutR D c).2 = true) ∧ ((cutR D' c).2 = true → ∀ (x : Nat) (d' : Dm) (v : Int), D'[x]? = some d' → d'.has v = true → someB (cutR D' c).1 (x : Int) v = true → someB (cutR D c).1 (x : Int) v = true) := by
  have hlen := hs.len
  unfold cutR
  rw [hlen]
  split
  · rename_i hck
    cases e' : ruleQ D' c (List.replicate D.length sqA) with
    | none => exact ⟨fun h => (by cases h), fun h => (by cases h)⟩
    | some Q' =>
      obtain ⟨Q, e, hq⟩ := rule_less c D.length (fit_check hck) D' D (List.replicate D.length sqA) (List.replicate D.length sqA) Q' rfl hf' hf hs e'
      have e : ruleQ D c (List.replicate D.length sqA) = some Q := e
      rw [e]
      refine ⟨fun _ => rfl, fun _ x d' v hd' hv h => ?_⟩
      have hx : x < D.length := by rw [← hlen]; exact (List.getElem?_eq_some_iff.1 hd').1
      have hd : D[x]? = some D[x] := List.getElem?_eq_getElem hx
      have hvd := hs.get x d' _ hd' hd v hv
      have q' : qH Q' x v := by
        have h : someB (cutsUpto Q' D' D.length) (x : Int) v = true := h
        rw [← hlen] at h
        exact (some_is hf' (by rw [rule_l e', List.length_replicate, hlen]) hd' hv).1 h
      exact (some_is hf (by rw [rule_l e, List.length_replicate]) hd hvd).2 (hq x v d' hd' hv (fun h => h) q')
  · exact ⟨fun _ => rfl, fun _ _ _ _ _ _ h => h⟩
/-- P12.11: what is no constraint that may stand, and AllDiff. -/
theorem cutR_none {D : List Dm} {c : Md.Cn} (h : (Md.check (stM c D.length)).2 ≠ 0) : cutR D c = ([], true) := by
  unfold cutR
  rw [if_neg h]
theorem cutR_diff {D : List Dm} {vs : List Int} {c : Md.Cn} (hf : Fines D) (hl : Lies D vs) (h1 : Ones D) (h : c.kind = 3) : cutR D c = ([], true) := by
  unfold cutR
  split
  · rw [rule_k 3 h]
    show (cutsUpto (List.replicate D.length sqA) D D.length, true) = _
    rw [(nil_is hf (by rw [List.length_replicate]) hl h1).2 fun x v hv => all_qH (hl.sml hf hv).1 (hl.sml hf hv).2]
  · rfl
theorem cutR_tells {D : List Dm} {vs : List Int} {c : Md.Cn} (hf : Fines D) (hl : Lies D vs) (h1 : Ones D) (h3 : c.kind ≠ 3) (hck : (Md.check (stM c D.length)).2 = 0) (hc : Md.fault c (D.length : Int) = 0) : ((cutR D c).2 && decide ((cutR D c).1 = [])) = Md.hold c vs := by
  have hfit := Md.fit_of hc
  unfold cutR
  rw [if_pos hck]
  cases e : ruleQ D c (List.replicate D.length sqA) with
  | none =>
    cases hh : Md.hold c vs
    · rfl
    · obtain ⟨Q, e2, _⟩ := rule_safe c D.length hfit D vs (List.replicate D.length sqA) rfl hf hl hh
      have e2 : ruleQ D c (List.replicate D.length sqA) = some Q := e2
      rw [e] at e2
      cases e2
  | some Q =>
    have hql : Q.length = D.length := by rw [rule_l e, List.length_replicate]
    show (true && decide (cutsUpto Q D D.length = [])) = _
    rw [Bool.true_and, Bool.eq_iff_iff, decide_eq_true_eq, nil_is hf hql hl h1]
    constructor
    · exact fun h => rule_tells c D.length hfit h3 D vs _ Q rfl hf hl h1 e h
    · intro hh
      obtain ⟨Q2, e2, hq⟩ := rule_safe c D.length hfit D vs (List.replicate D.length sqA) rfl hf hl hh
      have e2 : ruleQ D c (List.replicate D.length sqA) = some Q2 := e2
      rw [e] at e2
      injection e2 with e2
      subst e2
      exact fun x v hv => hq x v hv (all_qH (hl.sml hf hv).1 (hl.sml hf hv).2)
end Go.Proofs.YtlcegpnnanhloaaGreatDoor

namespace Go.Proofs.YtlcegpnnanhloaaGreatDoor
open Go.RowKit

theorem lies_of : ∀ {D : List Dm} {vs : List Int}, vs.length = D.length → (∀ (x : Nat) (d : Dm), D[x]? = some d → ∃ v, vs[x]? = some v ∧ d.has v = true) → Lies D vs
  | [], [], _, _ => trivial
  | [], _ :: _, h, _ => by simp at h
  | _ :: _, [], h, _ => by simp at h
  | d :: D, v :: vs, h, hg => by
    obtain ⟨v', e, h1⟩ := hg 0 d rfl
    have e : v = v' := by simpa using e
    subst e
    exact ⟨h1, lies_of (by simpa using h) fun x d' hd => by simpa using hg (x + 1) d' (by simpa using hd)⟩
theorem fewer_of : ∀ {D' D : List Dm}, D'.length = D.length → (∀ (x : Nat) (d' d : Dm), D'[x]? = some d' → D[x]? = some d → ∀ v, d'.has v = true → d.has v = true) → Fewer D' D
  | [], [], _, _ => trivial
  | [], _ :: _, h, _ => by simp at h
  | _ :: _, [], h, _ => by simp at h
  | d' :: D', d :: D, h, hg => ⟨hg 0 d' d rfl rfl, fewer_of (by simpa using h) fun x e' e h1 h2 => hg (x + 1) e' e (by simpa using h1) (by simpa using h2)⟩
theorem fines_alls {s : St} (h : Alls s) : Fines s.now := fines_of fun d hd => fine_of (h d hd).1 (h d hd).2
theorem Fewer.trans {D1 D2 D3 : List Dm} (h1 : Fewer D1 D2) (h2 : Fewer D2 D3) : Fewer D1 D3 := fewer_of (h1.len.trans h2.len) fun x d1 d3 e1 e3 v hv => by
  have hx : x < D2.length := by rw [← h1.len]; exact (List.getElem?_eq_some_iff.1 e1).1
  exact h2.get x D2[x] d3 (List.getElem?_eq_getElem hx) e3 v (h1.get x d1 D2[x] e1 (List.getElem?_eq_getElem hx) v hv)
theorem cut_less {s : St} (h : Alls s) (k x v : Int) : Fewer (s.cut k x v).now s.now := fewer_of (stcut_len s k x v) fun y d' d h1 h2 u hu => by
  obtain ⟨hy, e2⟩ := List.getElem?_eq_some_iff.1 h2
  obtain ⟨hy', e1⟩ := List.getElem?_eq_some_iff.1 h1
  obtain ⟨_, h3 | ⟨h3, _⟩⟩ := cut_get (s := s) k x v y hy
  · rw [e1, e2] at h3
    rw [← h3]
    exact hu
  · rw [e1, e2] at h3
    rw [h3] at hu
    have ho := (h d (by rw [← e2]; exact List.getElem_mem hy)).1
    exact (cut_fewer ho k v u hu).1
theorem fewer_refl (D : List Dm) : Fewer D D := fewer_of rfl fun x d' d h1 h2 v hv => by
  rw [h1] at h2
  injection h2 with h2
  rw [← h2]
  exact hv
theorem fold_less (L : List Ct) : ∀ {s : St}, Alls s → Alls (foldC s L) ∧ Fewer (foldC s L).now s.now := by
  induction L with
  | nil => exact fun {s} h => ⟨h, fewer_refl _⟩
  | cons c L ih =>
    intro s h
    have h1 := alls_cut h c.k c.x c.v
    obtain ⟨a, b⟩ := ih h1
    exact ⟨a, b.trans (cut_less h c.k c.x c.v)⟩

/-! Values out of the domains. -/
theorem plc_lt (k : Int) (n : Nat) (hn : 0 < n) : (plc k n).toNat < n := by
  unfold plc
  have h1 := Int.tmod_lt_of_pos k (b := (n : Int)) (by omega)
  have h2 := Int.lt_tmod_of_pos k (b := (n : Int)) (by omega)
  split <;> omega
theorem wi1_has {d : Dm} (hf : d.Fine) (ins : List Int) (k : Nat) : ∃ v, wi1 d ins k = [v] ∧ d.has v = true := by
  have hpos : 0 < d.all.length := List.length_pos_of_mem ((hf.all d.lo).2 hf.loIn)
  unfold wi1
  rw [if_pos hpos]
  refine ⟨_, rfl, (hf.all _).1 ?_⟩
  have hi : (if k < ins.length then (plc (ins.getD k 0) d.all.length).toNat else 0) < d.all.length := by
    split
    · exact plc_lt _ _ hpos
    · exact hpos
  rw [List.getD_eq_getElem?_getD, List.getElem?_eq_getElem hi]
  exact List.getElem_mem hi
theorem wi_all {D : List Dm} (hf : Fines D) (ins : List Int) : ∀ k, k ≤ D.length → (wiL D ins k).length = k ∧ ∀ (x : Nat) (d : Dm), x < k → D[x]? = some d → ∃ v, (wiL D ins k)[x]? = some v ∧ d.has v = true := by
  intro k
  induction k with
  | zero => exact fun _ => ⟨rfl, fun x d hx => absurd hx (by omega)⟩
  | succ k ih =>
    intro hk
    obtain ⟨h1, h2⟩ := ih (by omega)
    have hd : D[k]? = some D[k] := List.getElem?_eq_getElem (by omega)
    obtain ⟨v, e, hv⟩ := wi1_has (hf.get k _ hd) ins k
    have e2 : wiL D ins (k + 1) = wiL D ins k ++ [v] := by
      show wiL D ins k ++ (match D[k]? with | some d => wi1 d ins k | none => []) = _
      rw [hd]
      show wiL D ins k ++ wi1 D[k] ins k = _
      rw [e]
    rw [e2]
    refine ⟨by simp [h1], fun x d hx hxd => ?_⟩
    by_cases hxk : x = k
    · subst hxk
      rw [hd] at hxd
      injection hxd with hxd
      subst hxd
      exact ⟨v, by rw [List.getElem?_append_right (by omega), h1]; simp, hv⟩
    · obtain ⟨u, hu, h3⟩ := h2 x d (by omega) hxd
      exact ⟨u, by rw [List.getElem?_append_left (by omega)]; exact hu, h3⟩
theorem wi_lies {D : List Dm} (hf : Fines D) (ins : List Int) : Lies D (wiL D ins D.length) := by
  obtain ⟨h1, h2⟩ := wi_all hf ins D.length (Nat.le_refl _)
  exact lies_of h1 fun x d hd => h2 x d (List.getElem?_eq_some_iff.1 hd).1 hd

/-! One value each. -/
theorem has_nonzero {d : Dm} (h : d.Ok) {v : Int} (hv : d.has v = true) : d.eqB ⟨0, 0, 0⟩ = false := by
  obtain ⟨k, hk, _, hb⟩ := (d.has_is h v).1 hv
  cases e : d.eqB ⟨0, 0, 0⟩
  · rfl
  · unfold Dm.eqB at e
    have e : d.a = 0 ∧ d.b = 0 := by simpa using e
    rw [e.1, e.2] at hb
    unfold bt wb at hb
    split at hb
    · rw [show (0 : Int).toNat = 0 from rfl, Nat.zero_testBit] at hb; cases hb
    · rw [show (0 : Int).toNat = 0 from rfl, Nat.zero_testBit] at hb; cases hb
/-- A cut at a value that stays. -/
theorem cut_at {s : St} (h : Alls s) {k : Int} {x : Nat} {v : Int} {d : Dm} (hd : s.now[x]? = some d) (hv : d.has v = true) (ht : takesB k v v = false) : ∃ d', (s.cut k (x : Int) v).now[x]? = some d' ∧ (∀ u, d'.has u = true ↔ d.has u = true ∧ takesB k v u = false) ∧ ∀ y, y ≠ x → (s.cut k (x : Int) v).now[y]? = s.now[y]? := by
  obtain ⟨hx, ed⟩ := List.getElem?_eq_some_iff.1 hd
  have ho := (h d (by rw [← ed]; exact List.getElem_mem hx)).1
  have hcv := cut_has ho k v v hv ht
  have hnz := has_nonzero (ho.cut k v) hcv
  have hmay : s.may k (x : Int) v = true := by
    unfold St.may
    rw [Int.toNat_natCast, hd]
    show (!isB s.now.length (x : Int) || d.may k v) = true
    unfold Dm.may
    rw [hnz]
    simp
  refine ⟨d.cut k v, ?_, fun u => ⟨fun hu => cut_fewer ho k v u hu, fun hu => cut_has ho k v u hu.1 hu.2⟩, fun y hy => ?_⟩
  · obtain ⟨h2, e⟩ := may_cut (s := s) ⟨k, (x : Int), v⟩ hmay x hx
    rw [List.getElem?_eq_getElem h2, e]
    simp [ed]
  · by_cases hyl : y < s.now.length
    · obtain ⟨h2, e⟩ := may_cut (s := s) ⟨k, (x : Int), v⟩ hmay y hyl
      rw [List.getElem?_eq_getElem h2, e, List.getElem?_eq_getElem hyl]
      have : ¬ (x : Int) = (y : Int) := by omega
      simp [this]
    · rw [List.getElem?_eq_none (by rw [stcut_len]; omega), List.getElem?_eq_none (by omega)]
/-- Each variable has been cut to its value. -/
def oneS (s : St) (vs : List Int) : Nat → St
  | 0 => s
  | k + 1 => ((oneS s vs k).cut 1 (k : Int) (vs.getD k 0)).cut 2 (k : Int) (vs.getD k 0)
theorem takes_self (k v : Int) (h : k = 1 ∨ k = 2) : takesB k v v = false := by
  rcases h with rfl | rfl <;> simp [takesB]
theorem one_all {s : St} {vs : List Int} (h : Alls s) (hl : Lies s.now vs) : ∀ k, k ≤ s.now.length → Alls (oneS s vs k) ∧ (oneS s vs k).now.length = s.now.length ∧ (∀ x, k ≤ x → (oneS s vs k).now[x]? = s.now[x]?) ∧ ∀ x, x < k → ∃ d, (oneS s vs k).now[x]? = some d ∧ ∀ u, d.has u = true ↔ u = vs.getD x 0 := by
  intro k
  induction k with
  | zero => exact fun _ => ⟨h, rfl, fun _ _ => rfl, fun x hx => absurd hx (by omega)⟩
  | succ k ih =>
    intro hk
    obtain ⟨a1, a2, a3, a4⟩ := ih (by omega)
    have hd : s.now[k]? = some s.now[k] := List.getElem?_eq_getElem (by omega)
    obtain ⟨v, hv, hhas⟩ := hl.get k _ hd
    have ev : vs.getD k 0 = v := by rw [List.getD_eq_getElem?_getD, hv]; rfl
    have hd0 : (oneS s vs k).now[k]? = some s.now[k] := (a3 k (Nat.le_refl _)).trans hd
    show Alls (((oneS s vs k).cut 1 (k : Int) (vs.getD k 0)).cut 2 (k : Int) (vs.getD k 0)) ∧ (((oneS s vs k).cut 1 (k : Int) (vs.getD k 0)).cut 2 (k : Int) (vs.getD k 0)).now.length = _ ∧ (∀ x, k + 1 ≤ x → (((oneS s vs k).cut 1 (k : Int) (vs.getD k 0)).cut 2 (k : Int) (vs.getD k 0)).now[x]? = _) ∧ ∀ x, x < k + 1 → ∃ d, (((oneS s vs k).cut 1 (k : Int) (vs.getD k 0)).cut 2 (k : Int) (vs.getD k 0)).now[x]? = some d ∧ _
    rw [ev]
    obtain ⟨d1, e1, h1, o1⟩ := cut_at a1 hd0 hhas (takes_self 1 v (.inl rfl))
    have b1 := alls_cut a1 1 (k : Int) v
    have hd1v : d1.has v = true := (h1 v).2 ⟨hhas, takes_self 1 v (.inl rfl)⟩
    obtain ⟨d2, e2, h2, o2⟩ := cut_at b1 e1 hd1v (takes_self 2 v (.inr rfl))
    refine ⟨alls_cut b1 2 (k : Int) v, by rw [stcut_len, stcut_len, a2], fun x hx => ?_, fun x hx => ?_⟩
    · rw [o2 x (by omega), o1 x (by omega)]
      exact a3 x (by omega)
    · by_cases hxk : x = k
      · subst hxk
        refine ⟨d2, e2, fun u => ?_⟩
        rw [h2 u, h1 u, ev]
        constructor
        · rintro ⟨⟨_, t1⟩, t2⟩
          have t1 : ¬ u < v := by simpa [takesB] using t1
          have t2 : ¬ v < u := by simpa [takesB] using t2
          omega
        · rintro rfl
          exact ⟨⟨hhas, takes_self 1 u (.inl rfl)⟩, takes_self 2 u (.inr rfl)⟩
      · obtain ⟨d, e, hu⟩ := a4 x (by omega)
        exact ⟨d, by rw [o2 x hxk, o1 x hxk]; exact e, hu⟩
theorem one_lies {s : St} {vs : List Int} (h : Alls s) (hl : Lies s.now vs) : Lies (oneS s vs s.now.length).now vs ∧ Ones (oneS s vs s.now.length).now ∧ Alls (oneS s vs s.now.length) ∧ (oneS s vs s.now.length).now.length = s.now.length := by
  obtain ⟨a1, a2, a3, a4⟩ := one_all h hl s.now.length (Nat.le_refl _)
  refine ⟨lies_of (by rw [a2]; exact hl.len) fun x d hd => ?_, fun x d hd => ?_, a1, a2⟩
  · have hx : x < s.now.length := by rw [← a2]; exact (List.getElem?_eq_some_iff.1 hd).1
    obtain ⟨d', e, hu⟩ := a4 x hx
    rw [hd] at e
    have e := Option.some.inj e
    subst e
    obtain ⟨v, hv, _⟩ := hl.get x s.now[x] (List.getElem?_eq_getElem hx)
    exact ⟨v, hv, (hu v).2 (by rw [List.getD_eq_getElem?_getD, hv]; rfl)⟩
  · have hx : x < s.now.length := by rw [← a2]; exact (List.getElem?_eq_some_iff.1 hd).1
    obtain ⟨d', e, hu⟩ := a4 x hx
    rw [hd] at e
    have e := Option.some.inj e
    subst e
    have hf := (fines_alls a1).get x d hd
    have e1 := (hu _).1 hf.loIn
    have e2 := (hu _).1 hf.hiIn
    exact hf.one.2 (by rw [e1, e2])
/-- Values of a right problem's domains are numbers of a problem. -/
theorem new_nums {m : Md.Mo} {vs : List Int} (hl : Lies (newS m).now vs) : vs.all Md.numB = true := by
  rw [List.all_eq_true]
  intro v hv
  obtain ⟨x, hx, rfl⟩ := List.getElem_of_mem hv
  have hxl : x < (newS m).now.length := by rw [← hl.len]; exact hx
  obtain ⟨v', e, h1⟩ := hl.get x _ (List.getElem?_eq_getElem hxl)
  rw [List.getElem?_eq_getElem hx] at e
  have e := Option.some.inj e
  subst e
  have hmem := List.getElem_mem hxl
  generalize (newS m).now[x] = d at h1 hmem
  unfold newS at hmem
  split at hmem
  · rename_i hck
    obtain ⟨v, hv2, rfl⟩ := List.mem_map.1 hmem
    have hb := ((Md.right_of hck).var v hv2).2
    have h2 := (new_has hb _).1 h1
    have h3 := Md.bounds_of hb
    unfold Md.numB
    rw [decide_eq_true_eq]
    omega
  · cases hmem
end Go.Proofs.YtlcegpnnanhloaaGreatDoor
