/-
  Put together: PpMc, PpMd.
-/
import Derived.Test.YtlcegpnnanhloaaGreatDoorJ43
namespace Go.Proofs.YtlcegpnnanhloaaGreatDoor

/-! Max, Min. -/
theorem foldmax_le (f : Int → Int) (l : List Int) (a b : Int) : l.foldl (fun m x => max m (f x)) a ≤ b ↔ a ≤ b ∧ ∀ x ∈ l, f x ≤ b := by
  induction l generalizing a with
  | nil => simp
  | cons y l ih =>
    rw [List.foldl_cons, ih]
    constructor
    · rintro ⟨h1, h2⟩
      refine ⟨by omega, fun x hx => ?_⟩
      rcases List.mem_cons.1 hx with rfl | hx
      · omega
      · exact h2 x hx
    · rintro ⟨h1, h2⟩
      have := h2 y (by simp)
      exact ⟨by omega, fun x hx => h2 x (by simp [hx])⟩
theorem le_foldmax (f : Int → Int) (l : List Int) (a b : Int) : b ≤ l.foldl (fun m x => max m (f x)) a ↔ b ≤ a ∨ ∃ x ∈ l, b ≤ f x := by
  induction l generalizing a with
  | nil => simp
  | cons y l ih =>
    rw [List.foldl_cons, ih]
    constructor
    · rintro (h | ⟨x, hx, h⟩)
      · by_cases h2 : b ≤ a
        · exact .inl h2
        · exact .inr ⟨y, by simp, by omega⟩
      · exact .inr ⟨x, by simp [hx], h⟩
    · rintro (h | ⟨x, hx, h⟩)
      · exact .inl (by omega)
      · rcases List.mem_cons.1 hx with rfl | hx
        · exact .inl (by omega)
        · exact .inr ⟨x, hx, h⟩
theorem canLo_le {t : Bool} {D : List Dm} {xs : List Int} {b : Int} (hx : 0 < xs.length) : canLo t D (xs.headD 0) xs ≤ b ↔ ∀ x ∈ xs, spLo t (dAt D x) ≤ b := by
  unfold canLo
  rw [foldmax_le]
  constructor
  · exact fun h => h.2
  · refine fun h => ⟨?_, h⟩
    cases xs with
    | nil => simp at hx
    | cons a l => exact h a (by simp)
theorem le_canHi {t : Bool} {D : List Dm} {xs : List Int} {b : Int} (hx : 0 < xs.length) : b ≤ canHi t D (xs.headD 0) xs ↔ ∃ x ∈ xs, b ≤ spHi t (dAt D x) := by
  unfold canHi
  rw [le_foldmax]
  constructor
  · rintro (h | h)
    · cases xs with
      | nil => simp at hx
      | cons a l => exact ⟨a, by simp, h⟩
    · exact h
  · exact fun h => .inr h
/-- What is asked of a value of one of the list. -/
def grC (t : Bool) (D : List Dm) (xs : List Int) (a b : Int) (o : Int) (v : Int) : Prop := sg t v ≤ b ∧ ((∀ p ∈ xs, p ≠ o → spHi t (dAt D p) < a) → a ≤ sg t v)
theorem rch_is {t : Bool} {D : List Dm} {xs : List Int} {a o : Int} : xs.any (rchB t D o a) = true ↔ ∃ p ∈ xs, p ≠ o ∧ a ≤ spHi t (dAt D p) := by
  rw [List.any_eq_true]
  unfold rchB
  simp only [Bool.and_eq_true, bne_iff_ne, decide_eq_true_eq]
theorem qH_gr {t : Bool} {D : List Dm} {xs : List Int} {a b : Int} (Q : List Sq) (o : Int) (x : Nat) (v : Int) (hv : Sml v) : qH (grStep t D xs a b Q o) x v ↔ qH Q x v ∧ (x = o.toNat → grC t D xs a b o v) := by
  have hs := hv.sg t
  unfold Sml at hs
  unfold grStep grC
  split
  · rename_i h
    obtain ⟨p, hp, h1, h2⟩ := rch_is.1 h
    rw [qH_sKeep]
    constructor
    · rintro ⟨h3, h4⟩
      refine ⟨h3, fun e => ⟨(h4 e).2, fun h5 => ?_⟩⟩
      have := h5 p hp h1
      omega
    · rintro ⟨h3, h4⟩
      exact ⟨h3, fun e => ⟨hs.1, (h4 e).1⟩⟩
  · rename_i h
    have h5 : ∀ p ∈ xs, p ≠ o → spHi t (dAt D p) < a := fun p hp h1 => by
      rcases Int.lt_or_le (spHi t (dAt D p)) a with h2 | h2
      · exact h2
      · exact absurd (rch_is.2 ⟨p, hp, h1, h2⟩) h
    rw [qH_sKeep, qH_sKeep]
    constructor
    · rintro ⟨⟨h3, h4⟩, h6⟩
      exact ⟨h3, fun e => ⟨(h4 e).2, fun _ => (h6 e).1⟩⟩
    · rintro ⟨h3, h4⟩
      exact ⟨⟨h3, fun e => ⟨hs.1, (h4 e).1⟩⟩, fun e => ⟨(h4 e).2 h5, hs.2⟩⟩
theorem qH_grs {t : Bool} {D : List Dm} {xs : List Int} {a b : Int} (ys : List Int) (Q : List Sq) (x : Nat) (v : Int) (hv : Sml v) : qH (ys.foldl (grStep t D xs a b) Q) x v ↔ qH Q x v ∧ ∀ o ∈ ys, x = o.toNat → grC t D xs a b o v := by
  induction ys generalizing Q with
  | nil => simp
  | cons y ys ih =>
    rw [List.foldl_cons, ih, qH_gr _ _ _ _ hv]
    constructor
    · rintro ⟨⟨h1, h2⟩, h3⟩
      refine ⟨h1, fun o ho => ?_⟩
      rcases List.mem_cons.1 ho with rfl | ho
      · exact h2
      · exact h3 o ho
    · rintro ⟨h1, h2⟩
      exact ⟨⟨h1, h2 y (by simp)⟩, fun o ho => h2 o (by simp [ho])⟩
/-- It can be. -/
def mxOk (t : Bool) (D : List Dm) (c : Md.Cn) : Prop := (∃ x ∈ c.xs, spLo t (dAt D c.y) ≤ spHi t (dAt D x)) ∧ ∀ x ∈ c.xs, spLo t (dAt D x) ≤ spHi t (dAt D c.y)
def mxC (t : Bool) (D : List Dm) (c : Md.Cn) (x : Nat) (v : Int) : Prop := (x = c.y.toNat → (∀ o ∈ c.xs, spLo t (dAt D o) ≤ sg t v) ∧ ∃ o ∈ c.xs, sg t v ≤ spHi t (dAt D o)) ∧ ∀ o ∈ c.xs, x = o.toNat → grC t D c.xs (spLo t (dAt D c.y)) (spHi t (dAt D c.y)) o v
theorem max_is_l (t : Bool) (D : List Dm) (c : Md.Cn) (Q : List Sq) (hx : 0 < c.xs.length) : (¬ mxOk t D c → maxQ t D c Q = none) ∧ (mxOk t D c → ∃ Q', maxQ t D c Q = some Q' ∧ ∀ x v, Sml v → (qH Q' x v ↔ qH Q x v ∧ mxC t D c x v)) := by
  have hok : (canHi t D (c.xs.headD 0) c.xs < spLo t (dAt D c.y) ∨ spHi t (dAt D c.y) < canLo t D (c.xs.headD 0) c.xs) ↔ ¬ mxOk t D c := by
    unfold mxOk
    rw [← le_canHi hx, ← canLo_le hx]
    omega
  unfold maxQ greatQ
  constructor
  · intro h
    rw [if_pos (hok.2 h)]
  · intro h
    rw [if_neg (fun h2 => hok.1 h2 h)]
    refine ⟨_, rfl, fun x v hv => ?_⟩
    rw [qH_grs _ _ _ _ hv, qH_sKeep, canLo_le hx, le_canHi hx]
    unfold mxC
    exact ⟨fun h => ⟨h.1.1, h.1.2, h.2⟩, fun h => ⟨⟨h.1, h.2.1⟩, h.2.2⟩⟩
def mxV (t : Bool) (c : Md.Cn) (vs : List Int) : Prop := (∀ x ∈ c.xs, sg t (Md.val vs x) ≤ sg t (Md.val vs c.y)) ∧ ∃ x ∈ c.xs, sg t (Md.val vs x) = sg t (Md.val vs c.y)
theorem max_safe (t : Bool) (c : Md.Cn) (n : Nat) (hp : 0 < c.xs.length) (hy : 0 ≤ c.y ∧ c.y < (n : Int)) (hx : ∀ x ∈ c.xs, 0 ≤ x ∧ x < (n : Int)) : Safe (fun D Q => maxQ t D c Q) n (mxV t c) := by
  intro D vs Q hn hf hl hc
  rw [← hn] at hy hx
  obtain ⟨fy, ly, vy⟩ := hl.at hf hy
  have sy := sp_of (t := t) fy ly
  have sx : ∀ x ∈ c.xs, spLo t (dAt D x) ≤ sg t (Md.val vs x) ∧ sg t (Md.val vs x) ≤ spHi t (dAt D x) := fun x h => sp_of (hl.at hf (hx x h)).1 (hl.at hf (hx x h)).2.1
  obtain ⟨h1, m, hm, h2⟩ := hc
  have hmm := sx m hm
  obtain ⟨Q', e, hq⟩ := (max_is_l t D c Q hp).2 ⟨⟨m, hm, by omega⟩, fun x h => by have := sx x h; have := h1 x h; omega⟩
  refine ⟨Q', e, fun x v hv hq0 => ?_⟩
  have hxl : x < D.length := by
    rw [← hl.len]
    exact (List.getElem?_eq_some_iff.1 hv).1
  obtain ⟨v', hv', hd⟩ := hl.get x D[x] (List.getElem?_eq_getElem hxl)
  rw [hv] at hv'
  injection hv' with hv'
  subst hv'
  refine (hq x v ((hf.get x _ (List.getElem?_eq_getElem hxl)).sml hd)).2 ⟨hq0, fun ex => ?_, fun o ho ex => ⟨?_, fun h3 => ?_⟩⟩
  · subst ex
    rw [vy] at hv
    injection hv with hv
    subst hv
    exact ⟨fun o ho => by have := sx o ho; have := h1 o ho; omega, m, hm, by omega⟩
  · subst ex
    rw [(hl.at hf (hx o ho)).2.2] at hv
    injection hv with hv
    subst hv
    have := h1 o ho
    omega
  · subst ex
    rw [(hl.at hf (hx o ho)).2.2] at hv
    injection hv with hv
    subst hv
    by_cases e2 : m = o
    · subst e2
      omega
    · have := h3 m hm e2
      omega
theorem max_less (t : Bool) (c : Md.Cn) (n : Nat) (hp : 0 < c.xs.length) (hy : 0 ≤ c.y ∧ c.y < (n : Int)) (hx : ∀ x ∈ c.xs, 0 ≤ x ∧ x < (n : Int)) : Less (fun D Q => maxQ t D c Q) n := by
  intro D' D Q1' Q1 Q' hn hf' hf hs h
  rw [← hn] at hy hx
  have h : maxQ t D' c Q1' = some Q' := h
  have ay := hs.at hf' hf hy
  have sy := sp_fewer (t := t) ay.1 ay.2.1 ay.2.2
  have sx : ∀ x ∈ c.xs, spLo t (dAt D x) ≤ spLo t (dAt D' x) ∧ spHi t (dAt D' x) ≤ spHi t (dAt D x) ∧ _ := fun x hh => sp_fewer (t := t) (hs.at hf' hf (hx x hh)).1 (hs.at hf' hf (hx x hh)).2.1 (hs.at hf' hf (hx x hh)).2.2
  have hok : mxOk t D' c := by
    apply Classical.byContradiction
    intro hno
    rw [(max_is_l t D' c Q1' hp).1 hno] at h
    cases h
  obtain ⟨P', e', hq'⟩ := (max_is_l t D' c Q1' hp).2 hok
  rw [h] at e'
  injection e' with e'
  subst e'
  obtain ⟨⟨m, hm, o1⟩, o2⟩ := hok
  have sm := sx m hm
  obtain ⟨Q, e, hq⟩ := (max_is_l t D c Q1 hp).2 ⟨⟨m, hm, by omega⟩, fun x hh => by have := sx x hh; have := o2 x hh; omega⟩
  refine ⟨Q, e, fun x v d' hd' hv hi hx0 => ?_⟩
  have hsm := (hf'.get x d' hd').sml hv
  obtain ⟨a, b1, b2⟩ := (hq' x v hsm).1 hx0
  refine (hq x v hsm).2 ⟨hi a, fun ex => ⟨fun o ho => ?_, ?_⟩, fun o ho ex => ⟨?_, fun h3 => ?_⟩⟩
  · have := (b1 ex).1 o ho
    have := sx o ho
    omega
  · obtain ⟨o, ho, h5⟩ := (b1 ex).2
    have := sx o ho
    exact ⟨o, ho, by omega⟩
  · have := (b2 o ho ex).1
    omega
  · have := (b2 o ho ex).2 (fun p hp2 hne => by have := h3 p hp2 hne; have := sx p hp2; omega)
    omega
theorem max_tells (t : Bool) (c : Md.Cn) (n : Nat) (hp : 0 < c.xs.length) (hy : 0 ≤ c.y ∧ c.y < (n : Int)) (hx : ∀ x ∈ c.xs, 0 ≤ x ∧ x < (n : Int)) : Tells (fun D Q => maxQ t D c Q) n (mxV t c) := by
  intro D vs Q Q' hn hf hl h1 h hq
  rw [← hn] at hy hx
  have h : maxQ t D c Q = some Q' := h
  have one : ∀ x : Int, 0 ≤ x ∧ x < (D.length : Int) → spLo t (dAt D x) = sg t (Md.val vs x) ∧ spHi t (dAt D x) = sg t (Md.val vs x) := fun x hx => by
    obtain ⟨f, l, _⟩ := hl.at hf hx
    have ho := h1 _ _ (dAt_is hx)
    have e1 := f.only ho l
    have e2 := f.one.1 ho
    unfold spLo spHi sg
    cases t <;> simp <;> omega
  have hok : mxOk t D c := by
    apply Classical.byContradiction
    intro hno
    rw [(max_is_l t D c Q hp).1 hno] at h
    cases h
  obtain ⟨⟨m, hm, o1⟩, o2⟩ := hok
  have ym := one c.y hy
  have mm := one m (hx m hm)
  refine ⟨fun x hh => ?_, m, hm, ?_⟩
  · have := o2 x hh
    have := one x (hx x hh)
    omega
  · have := o2 m hm
    omega
theorem mx_v (c : Md.Cn) (vs : List Int) : Md.mxB c vs = true ↔ mxV false c vs := by
  unfold Md.mxB mxV sg
  rw [Bool.and_eq_true, List.all_eq_true, List.any_eq_true]
  simp
theorem mn_v (c : Md.Cn) (vs : List Int) : Md.mnB c vs = true ↔ mxV true c vs := by
  unfold Md.mnB mxV sg
  rw [Bool.and_eq_true, List.all_eq_true, List.any_eq_true]
  simp only [decide_eq_true_eq, if_true]
  constructor
  · rintro ⟨h1, x, hx, h2⟩
    exact ⟨fun y hy => by have := h1 y hy; omega, x, hx, by omega⟩
  · rintro ⟨h1, x, hx, h2⟩
    exact ⟨fun y hy => by have := h1 y hy; omega, x, hx, by omega⟩

/-! Reif. -/
def rfC (D : List Dm) (cs : List Int) (k : Int) (v : Int) : Prop := (0 ≤ v ∧ v ≤ 1) ∧ (-(leastZ true (cs.zip D)) ≤ k → v = 1) ∧ (k < leastZ false (cs.zip D) → v = 0)
theorem rf3_is (D : List Dm) (cs : List Int) (k : Int) (y : Nat) (Q : List Sq) (x : Nat) (v : Int) : qH (rf3Q D cs k y Q) x v ↔ qH Q x v ∧ (x = y → rfC D cs k v) := by
  have h1 : qH (if -(leastZ true (cs.zip D)) ≤ k then keepQ (keepQ Q y 0 1) y 1 1 else keepQ Q y 0 1) x v ↔ qH Q x v ∧ (x = y → (0 ≤ v ∧ v ≤ 1) ∧ (-(leastZ true (cs.zip D)) ≤ k → v = 1)) := by
    split
    · rename_i h
      rw [qH_keep, qH_keep]
      constructor
      · rintro ⟨⟨a, b⟩, e⟩
        exact ⟨a, fun hx => ⟨b hx, fun _ => by have := e hx; omega⟩⟩
      · rintro ⟨a, b⟩
        exact ⟨⟨a, fun hx => (b hx).1⟩, fun hx => by have := (b hx).2 h; omega⟩
    · rename_i h
      rw [qH_keep]
      constructor
      · rintro ⟨a, b⟩
        exact ⟨a, fun hx => ⟨b hx, fun h2 => absurd h2 h⟩⟩
      · rintro ⟨a, b⟩
        exact ⟨a, fun hx => (b hx).1⟩
  unfold rf3Q rfC
  split
  · rename_i h
    rw [qH_keep, h1]
    constructor
    · rintro ⟨⟨a, b⟩, e⟩
      exact ⟨a, fun hx => ⟨(b hx).1, (b hx).2, fun _ => by have := e hx; omega⟩⟩
    · rintro ⟨a, b⟩
      exact ⟨⟨a, fun hx => ⟨(b hx).1, (b hx).2.1⟩⟩, fun hx => by have := (b hx).2.2 h; omega⟩
  · rename_i h
    rw [h1]
    constructor
    · rintro ⟨a, b⟩
      exact ⟨a, fun hx => ⟨(b hx).1, (b hx).2, fun h2 => absurd h2 h⟩⟩
    · rintro ⟨a, b⟩
      exact ⟨a, fun hx => ⟨(b hx).1, (b hx).2.1⟩⟩
theorem rf_v (c : Md.Cn) (vs : List Int) : Md.rfB c vs = true ↔ (Md.sum c.terms vs ≤ c.k ∧ Md.val vs c.x = 1) ∨ (c.k < Md.sum c.terms vs ∧ Md.val vs c.x = 0) := by
  unfold Md.rfB
  split
  · simp only [decide_eq_true_eq]
    omega
  · simp only [decide_eq_true_eq]
    omega
theorem reif_safe (c : Md.Cn) (n : Nat) (hk : -1000000000 ≤ c.k ∧ c.k ≤ 1000000000) (hx : 0 ≤ c.x ∧ c.x < (n : Int)) (ht : ∀ q ∈ c.terms, 0 ≤ q.2 ∧ q.2 < (n : Int)) : Safe (fun D Q => reifQ D c Q) n (fun vs => Md.rfB c vs = true) := by
  intro D vs Q hn hf hl hc
  rw [← hn] at hx
  have hc := (rf_v c vs).1 hc
  have hd := dot_coef c.terms vs D.length hl.len (fun q hq => (ht q hq).1)
  obtain ⟨fx, lx, vx⟩ := hl.at hf hx
  have l0 := least_le false (coefL c.terms D.length) hf hl
  have l1 := least_le true (coefL c.terms D.length) hf hl
  rw [hd] at l0 l1
  have l0 : leastZ false ((coefL c.terms D.length).zip D) ≤ Md.sum c.terms vs := l0
  have l1 : leastZ true ((coefL c.terms D.length).zip D) ≤ -Md.sum c.terms vs := l1
  have hr : ∀ x v, vs[x]? = some v → qH Q x v → qH (rf3Q D (coefL c.terms D.length) c.k c.x.toNat Q) x v := fun x v hv hq => by
    refine (rf3_is _ _ _ _ _ _ _).2 ⟨hq, fun e => ?_⟩
    subst e
    rw [vx] at hv
    injection hv with hv
    subst hv
    unfold rfC
    omega
  show ∃ Q', reifQ D c Q = some Q' ∧ _
  unfold reifQ
  rw [if_neg (by
    rintro ⟨h0, h1⟩
    rcases hc with ⟨_, e⟩ | ⟨_, e⟩
    · rw [e, h1] at lx; cases lx
    · rw [e, h0] at lx; cases lx)]
  split
  · exact ⟨_, rfl, hr⟩
  · rename_i h1
    have ho : (dAt D c.x).one = true := by simpa using h1
    have e := fx.only ho lx
    split
    · obtain ⟨Q2, e2, h2⟩ := atMost_safe (t := false) (k := c.k) (cs := coefL c.terms D.length) (rf3Q D (coefL c.terms D.length) c.k c.x.toNat Q) hf hl (by
        rw [hd, turnK_in_l (by omega)]
        show Md.sum c.terms vs ≤ c.k
        omega)
      exact ⟨Q2, e2, fun x v hv hx => h2 x v hv (hr x v hv hx)⟩
    · obtain ⟨Q2, e2, h2⟩ := atMost_safe (t := true) (k := c.k + 1) (cs := coefL c.terms D.length) (rf3Q D (coefL c.terms D.length) c.k c.x.toNat Q) hf hl (by
        rw [hd, turnK_in_l (by omega)]
        show -Md.sum c.terms vs ≤ -(c.k + 1)
        omega)
      exact ⟨Q2, e2, fun x v hv hx => h2 x v hv (hr x v hv hx)⟩
theorem atMost_sub {t : Bool} {D : List Dm} {cs : List Int} {k : Int} {Q Q' : List Sq} (h : atMostQ t D cs k Q = some Q') {x : Nat} {v : Int} (hv : Sml v) (hq : qH Q' x v) : qH Q x v := (((atMost_some h).2 x v hv).1 hq).1
theorem reif_less (c : Md.Cn) (n : Nat) (hx : 0 ≤ c.x ∧ c.x < (n : Int)) : Less (fun D Q => reifQ D c Q) n := by
  intro D' D Q1' Q1 Q' hn hf' hf hs h
  rw [← hn] at hx
  have h : reifQ D' c Q1' = some Q' := h
  obtain ⟨fx', fx, sx⟩ := hs.at hf' hf hx
  have l0 := least_fewer false (coefL c.terms D.length) hf' hf hs
  have l1 := least_fewer true (coefL c.terms D.length) hf' hf hs
  have hr : ∀ x v, (qH Q1' x v → qH Q1 x v) → qH (rf3Q D' (coefL c.terms D.length) c.k c.x.toNat Q1') x v → qH (rf3Q D (coefL c.terms D.length) c.k c.x.toNat Q1) x v := fun x v hi hq => by
    obtain ⟨a, b⟩ := (rf3_is _ _ _ _ _ _ _).1 hq
    refine (rf3_is _ _ _ _ _ _ _).2 ⟨hi a, fun e => ?_⟩
    have := b e
    unfold rfC at this ⊢
    exact ⟨this.1, fun h2 => this.2.1 (by omega), fun h2 => this.2.2 (by omega)⟩
  unfold reifQ at h
  rw [hs.len] at h
  split at h
  · cases h
  rename_i h01
  have h01' : ¬ ((dAt D c.x).has 0 = false ∧ (dAt D c.x).has 1 = false) := by
    rintro ⟨a, b⟩
    refine h01 ⟨?_, ?_⟩
    · cases e : (dAt D' c.x).has 0
      · rfl
      · rw [sx 0 e] at a; cases a
    · cases e : (dAt D' c.x).has 1
      · rfl
      · rw [sx 1 e] at b; cases b
  show ∃ Q, reifQ D c Q1 = some Q ∧ _
  unfold reifQ
  rw [if_neg h01']
  by_cases ho : (dAt D c.x).one = false
  · rw [if_pos ho]
    refine ⟨_, rfl, fun x v d' hd' hv hi hq => hr x v hi ?_⟩
    have hsm := (hf'.get x d' hd').sml hv
    split at h
    · injection h with h
      rw [h]
      exact hq
    · split at h
      · exact atMost_sub h hsm hq
      · exact atMost_sub h hsm hq
  · rw [if_neg ho]
    have ho1 : (dAt D c.x).one = true := by simpa using ho
    obtain ⟨o1, o2⟩ := one_fewer fx' fx sx ho1
    rw [if_neg (by rw [o1]; simp), o2] at h
    split
    · rename_i hl
      rw [if_pos hl] at h
      obtain ⟨Q, e, hq⟩ := atMost_less (rf3Q D (coefL c.terms D.length) c.k c.x.toNat Q1) hf' hf hs h
      exact ⟨Q, e, fun x v d' hd' hv hi hq2 => hq x v ((hf'.get x d' hd').sml hv) (hr x v hi) hq2⟩
    · rename_i hl
      rw [if_neg hl] at h
      obtain ⟨Q, e, hq⟩ := atMost_less (rf3Q D (coefL c.terms D.length) c.k c.x.toNat Q1) hf' hf hs h
      exact ⟨Q, e, fun x v d' hd' hv hi hq2 => hq x v ((hf'.get x d' hd').sml hv) (hr x v hi) hq2⟩
theorem reif_tells (c : Md.Cn) (n : Nat) (hk : -1000000000 ≤ c.k ∧ c.k ≤ 1000000000) (hx : 0 ≤ c.x ∧ c.x < (n : Int)) (ht : ∀ q ∈ c.terms, 0 ≤ q.2 ∧ q.2 < (n : Int)) : Tells (fun D Q => reifQ D c Q) n (fun vs => Md.rfB c vs = true) := by
  intro D vs Q Q' hn hf hl h1 h hq
  rw [← hn] at hx
  have hd := dot_coef c.terms vs D.length hl.len (fun q hq => (ht q hq).1)
  obtain ⟨fx, lx, vx⟩ := hl.at hf hx
  have ho := h1 _ _ (dAt_is hx)
  have e := fx.only ho lx
  have l0 := least_one false (coefL c.terms D.length) hf hl h1
  have l1 := least_one true (coefL c.terms D.length) hf hl h1
  rw [hd] at l0 l1
  have l0 : Md.sum c.terms vs ≤ leastZ false ((coefL c.terms D.length).zip D) := l0
  have l1 : -Md.sum c.terms vs ≤ leastZ true ((coefL c.terms D.length).zip D) := l1
  have h : reifQ D c Q = some Q' := h
  show Md.rfB c vs = true
  rw [rf_v]
  unfold reifQ at h
  split at h
  · cases h
  rename_i h01
  rw [if_neg (by rw [ho]; simp)] at h
  split at h
  · have := (atMost_some h).1
    rw [turnK_in_l (by omega)] at this
    have this : leastZ false ((coefL c.terms D.length).zip D) ≤ c.k := this
    omega
  · rename_i hlo
    have := (atMost_some h).1
    rw [turnK_in_l (by omega)] at this
    have this : leastZ true ((coefL c.terms D.length).zip D) ≤ -(c.k + 1) := this
    have : (dAt D c.x).lo = 0 := by
      by_cases h0 : (dAt D c.x).has 0 = true
      · exact (fx.only ho h0).symm
      · by_cases h3 : (dAt D c.x).has 1 = true
        · exact absurd (fx.only ho h3).symm hlo
        · exact absurd ⟨by simpa using h0, by simpa using h3⟩ h01
    omega

/-! Table. -/
theorem tab_is (D : List Dm) (c : Md.Cn) (Q : List Sq) (n : Nat) (x : Nat) (v : Int) : qH (tabF D c Q n) x v ↔ qH Q x v ∧ ∀ k, k < n → x = (c.xs.getD k 0).toNat → (aliveL D c).any (rowB k v) = true := by
  unfold tabF
  induction n with
  | zero => simp
  | succ n ih =>
    rw [List.range_succ, List.foldl_append]
    show qH (someQ _ _ _) x v ↔ _
    rw [qH_some, ih]
    constructor
    · rintro ⟨⟨h1, h2⟩, h3⟩
      refine ⟨h1, fun k hk e => ?_⟩
      by_cases hkn : k = n
      · subst hkn
        exact h3 e
      · exact h2 k (by omega) e
    · rintro ⟨h1, h2⟩
      exact ⟨⟨h1, fun k hk => h2 k (by omega)⟩, fun e => h2 n (by omega) e⟩
theorem alive_is {D : List Dm} {c : Md.Cn} {r : List Int} : r ∈ aliveL D c ↔ r ∈ c.rows ∧ ∀ k, k < c.xs.length → (dAt D (c.xs.getD k 0)).has (r.getD k 0) = true := by
  unfold aliveL alB
  rw [List.mem_filter, List.all_eq_true]
  simp only [List.mem_range]
theorem getD_in {l : List Int} {k : Nat} (h : k < l.length) : l.getD k 0 ∈ l := by
  rw [List.getD_eq_getElem?_getD, List.getElem?_eq_getElem h]
  exact List.getElem_mem h
theorem getD_map {l : List Int} {k : Nat} (f : Int → Int) (h : k < l.length) : (l.map f).getD k 0 = f (l.getD k 0) := by
  rw [List.getD_eq_getElem?_getD, List.getD_eq_getElem?_getD, List.getElem?_map, List.getElem?_eq_getElem h]
  rfl
theorem table_safe (c : Md.Cn) (n : Nat) (hx : ∀ x ∈ c.xs, 0 ≤ x ∧ x < (n : Int)) : Safe (fun D Q => tableQ D c Q) n (fun vs => Md.tbB c vs = true) := by
  intro D vs Q hn hf hl hc
  rw [← hn] at hx
  unfold Md.tbB at hc
  obtain ⟨r, hr, e⟩ := List.any_eq_true.1 hc
  have e := of_decide_eq_true e
  have ha : r ∈ aliveL D c := alive_is.2 ⟨hr, fun k hk => by
    rw [← e, getD_map _ hk]
    exact (hl.at hf (hx _ (getD_in hk))).2.1⟩
  show ∃ Q', tableQ D c Q = some Q' ∧ _
  unfold tableQ
  rw [if_pos (List.length_pos_of_mem ha)]
  refine ⟨_, rfl, fun x v hv hq => (tab_is _ _ _ _ _ _).2 ⟨hq, fun k hk ex => ?_⟩⟩
  subst ex
  rw [(hl.at hf (hx _ (getD_in hk))).2.2] at hv
  injection hv with hv
  subst hv
  refine List.any_eq_true.2 ⟨r, ha, ?_⟩
  unfold rowB
  rw [← e, getD_map _ hk]
  simp
theorem table_less (c : Md.Cn) (n : Nat) (hx : ∀ x ∈ c.xs, 0 ≤ x ∧ x < (n : Int)) : Less (fun D Q => tableQ D c Q) n := by
  intro D' D Q1' Q1 Q' hn hf' hf hs h
  rw [← hn] at hx
  have hsub : ∀ r, r ∈ aliveL D' c → r ∈ aliveL D c := fun r hr => by
    obtain ⟨h1, h2⟩ := alive_is.1 hr
    exact alive_is.2 ⟨h1, fun k hk => (hs.at hf' hf (hx _ (getD_in hk))).2.2 _ (h2 k hk)⟩
  have h : tableQ D' c Q1' = some Q' := h
  unfold tableQ at h
  split at h
  · rename_i hp
    injection h with h
    subst h
    obtain ⟨r, hr⟩ := List.exists_mem_of_length_pos hp
    show ∃ Q, tableQ D c Q1 = some Q ∧ _
    unfold tableQ
    rw [if_pos (List.length_pos_of_mem (hsub r hr))]
    refine ⟨_, rfl, fun x v d' hd' hv hi hq => ?_⟩
    obtain ⟨a, b⟩ := (tab_is _ _ _ _ _ _).1 hq
    refine (tab_is _ _ _ _ _ _).2 ⟨hi a, fun k hk e => ?_⟩
    obtain ⟨r, hr, h2⟩ := List.any_eq_true.1 (b k hk e)
    exact List.any_eq_true.2 ⟨r, hsub r hr, h2⟩
  · cases h
theorem table_tells (c : Md.Cn) (n : Nat) (hx : ∀ x ∈ c.xs, 0 ≤ x ∧ x < (n : Int)) (hr : ∀ r ∈ c.rows, r.length = c.xs.length) : Tells (fun D Q => tableQ D c Q) n (fun vs => Md.tbB c vs = true) := by
  intro D vs Q Q' hn hf hl h1 h hq
  rw [← hn] at hx
  have h : tableQ D c Q = some Q' := h
  unfold tableQ at h
  split at h
  · rename_i hp
    obtain ⟨r, hra⟩ := List.exists_mem_of_length_pos hp
    obtain ⟨hr1, hr2⟩ := alive_is.1 hra
    show Md.tbB c vs = true
    unfold Md.tbB
    refine List.any_eq_true.2 ⟨r, hr1, decide_eq_true ?_⟩
    have hlen := hr r hr1
    apply List.ext_getElem
    · rw [List.length_map, hlen]
    · intro k hk1 hk2
      have hk : k < c.xs.length := by simpa using hk1
      have e1 := hr2 k hk
      have hxk := hx _ (getD_in hk)
      obtain ⟨f, l, _⟩ := hl.at hf hxk
      have ho := h1 _ _ (dAt_is hxk)
      have e2 := f.only ho l
      have e3 := f.only ho e1
      have g1 : r.getD k 0 = r[k] := by rw [List.getD_eq_getElem?_getD, List.getElem?_eq_getElem hk2]; rfl
      have g2 : c.xs.getD k 0 = c.xs[k] := by rw [List.getD_eq_getElem?_getD, List.getElem?_eq_getElem hk]; rfl
      rw [List.getElem_map, ← g1, ← g2, e2, e3]
  · cases h
end Go.Proofs.YtlcegpnnanhloaaGreatDoor

namespace Go.Proofs.YtlcegpnnanhloaaGreatDoor

/-! Count. -/
def ctC (am al : Bool) (v k sure may : Int) (z : Int × Dm) (u : Int) : Prop := z.1 ≠ 0 → z.2.has v = true → (al = true → may - z.1 < k → u = v) ∧ (am = true → 1 < z.2.size → k < sure + z.1 → u ≠ v)
theorem ctS_is {am al : Bool} {v k sure may : Int} (Q : List Sq) (n : Nat) (z : Int × Dm) (x : Nat) (u : Int) : qH (ctStep am al v k sure may Q n z) x u ↔ qH Q x u ∧ (x = n → ctC am al v k sure may z u) := by
  have h1 : qH (if (am && decide (1 < z.2.size) && decide (k < sure + z.1)) = true then someQ Q n (fun u => u != v) else Q) x u ↔ qH Q x u ∧ (x = n → am = true → 1 < z.2.size → k < sure + z.1 → u ≠ v) := by
    rw [qH_if]
    simp only [Bool.and_eq_true, decide_eq_true_eq, bne_iff_ne]
    exact ⟨fun h => ⟨h.1, fun e a b c => h.2 ⟨⟨a, b⟩, c⟩ e⟩, fun h => ⟨h.1, fun a e => h.2 e a.1.1 a.1.2 a.2⟩⟩
  unfold ctStep ctC
  split
  · rename_i h
    constructor
    · refine fun hq => ⟨hq, fun _ a b => ?_⟩
      rcases h with h | h
      · exact absurd h a
      · rw [h] at b; cases b
    · exact fun hq => hq.1
  · rename_i h
    have hz : z.1 ≠ 0 ∧ z.2.has v = true := by
      constructor
      · exact fun e => h (.inl e)
      · cases e : z.2.has v
        · exact absurd (.inr e) h
        · rfl
    split
    · rename_i h2
      have h2 : al = true ∧ may - z.1 < k := by simpa using h2
      rw [qH_keep, h1]
      constructor
      · rintro ⟨⟨a, b⟩, e⟩
        exact ⟨a, fun hx _ _ => ⟨fun _ _ => by have := e hx; omega, b hx⟩⟩
      · rintro ⟨a, b⟩
        exact ⟨⟨a, fun hx => (b hx hz.1 hz.2).2⟩, fun hx => by have := (b hx hz.1 hz.2).1 h2.1 h2.2; omega⟩
    · rename_i h2
      rw [h1]
      constructor
      · rintro ⟨a, b⟩
        exact ⟨a, fun hx _ _ => ⟨fun p q => absurd (by simpa using ⟨p, q⟩) h2, b hx⟩⟩
      · rintro ⟨a, b⟩
        exact ⟨a, fun hx => (b hx hz.1 hz.2).2⟩
theorem ctQ_is {am al : Bool} {v k sure may : Int} (zs : List (Int × Dm)) (Q : List Sq) (n : Nat) (x : Nat) (u : Int) : qH (ctQ am al v k sure may zs Q n) x u ↔ qH Q x u ∧ (x < n → ∀ z, zs[x]? = some z → ctC am al v k sure may z u) := by
  induction n with
  | zero => simp [ctQ]
  | succ n ih =>
    unfold ctQ
    split
    · rename_i z hz
      refine (ctS_is _ _ _ _ _).trans ?_
      constructor
      · rintro ⟨h12, h3⟩
        obtain ⟨h1, h2⟩ := ih.1 h12
        refine ⟨h1, fun hx z' hz' => ?_⟩
        by_cases e : x = n
        · subst e
          rw [hz] at hz'
          injection hz' with hz'
          rw [← hz']
          exact h3 rfl
        · exact h2 (by omega) z' hz'
      · rintro ⟨h1, h2⟩
        exact ⟨ih.2 ⟨h1, fun hx => h2 (by omega)⟩, fun e => h2 (by omega) z (by rw [e]; exact hz)⟩
    · rename_i hz
      constructor
      · intro h12
        obtain ⟨h1, h2⟩ := ih.1 h12
        refine ⟨h1, fun hx z' hz' => ?_⟩
        by_cases e : x = n
        · subst e
          rw [hz] at hz'
          cases hz'
        · exact h2 (by omega) z' hz'
      · rintro ⟨h1, h2⟩
        exact ih.2 ⟨h1, fun hx => h2 (by omega)⟩
def ind (v u : Int) : Int := if u = v then 1 else 0
theorem sumZ_cons (f : Int × Dm → Int) (z : Int × Dm) (l : List (Int × Dm)) : sumZ f (z :: l) = f z + sumZ f l := by
  unfold sumZ
  simp
/-- How often a value is there, between what is sure and what may be. -/
theorem one_between {v : Int} {p : Int} {d : Dm} {u : Int} (hp : 0 ≤ p) (hf : d.Fine) (hl : d.has u = true) : sure1 v (p, d) ≤ p * ind v u ∧ p * ind v u ≤ may1 v (p, d) := by
  unfold sure1 may1 ind
  constructor
  · split
    · rename_i h
      have h : d.has v = true ∧ d.size = 1 := by simpa using h
      have ho : d.one = true := by unfold Dm.one; rw [decide_eq_true_eq]; omega
      have e1 := hf.only ho hl
      have e2 := hf.only ho h.1
      rw [if_pos (by omega)]
      show p ≤ p * 1
      omega
    · split <;> simp [hp]
  · by_cases h : d.has v = true
    · rw [if_pos (show (p, d).2.has v = true from h)]
      show p * _ ≤ p
      split <;> omega
    · rw [if_neg (show ¬ (p, d).2.has v = true from h), if_neg (fun e => h (by rw [← e]; exact hl))]
      simp
theorem cnt_between (v : Int) : ∀ (ps : List Int) {D : List Dm} {vs : List Int}, (∀ p ∈ ps, 0 ≤ p) → Fines D → Lies D vs → sumZ (sure1 v) (ps.zip D) ≤ dot ps (vs.map (ind v)) ∧ dot ps (vs.map (ind v)) ≤ sumZ (may1 v) (ps.zip D)
  | [], D, vs, _, _, _ => by simp [sumZ, dot]
  | c :: cs, [], [], _, _, _ => by simp [sumZ, dot]
  | c :: cs, d :: D, u :: vs, hp, hf, hl => by
    rw [List.zip_cons_cons, sumZ_cons, sumZ_cons, List.map_cons]
    unfold dot
    have := one_between (v := v) (hp c (by simp)) hf.1 hl.1
    have := cnt_between v cs (fun p h => hp p (by simp [h])) hf.2 hl.2
    omega
  | _ :: _, [], _ :: _, _, _, h => h.elim
  | _ :: _, _ :: _, [], _, _, h => h.elim
theorem cnt_at (v : Int) : ∀ (ps : List Int) {D : List Dm} {vs : List Int} (x : Nat) (z : Int × Dm) (u : Int), (∀ p ∈ ps, 0 ≤ p) → Fines D → Lies D vs → (ps.zip D)[x]? = some z → vs[x]? = some u → sumZ (sure1 v) (ps.zip D) - sure1 v z + z.1 * ind v u ≤ dot ps (vs.map (ind v)) ∧ dot ps (vs.map (ind v)) ≤ sumZ (may1 v) (ps.zip D) - may1 v z + z.1 * ind v u
  | [], D, vs, x, z, u, _, _, _, h, _ => by simp at h
  | c :: cs, [], [], x, z, u, _, _, _, h, _ => by simp at h
  | c :: cs, d :: D, w :: vs, 0, z, u, hp, hf, hl, h, hv => by
    simp at h hv
    subst h hv
    rw [List.zip_cons_cons, sumZ_cons, sumZ_cons, List.map_cons]
    unfold dot
    have := cnt_between v cs (fun p h => hp p (by simp [h])) hf.2 hl.2
    show sure1 v (c, d) + sumZ (sure1 v) (cs.zip D) - sure1 v (c, d) + c * ind v w ≤ _ ∧ _ ≤ may1 v (c, d) + sumZ (may1 v) (cs.zip D) - may1 v (c, d) + c * ind v w
    omega
  | c :: cs, d :: D, w :: vs, x + 1, z, u, hp, hf, hl, h, hv => by
    rw [List.zip_cons_cons, sumZ_cons, sumZ_cons, List.map_cons]
    unfold dot
    have := one_between (v := v) (hp c (by simp)) hf.1 hl.1
    have := cnt_at v cs x z u (fun p h => hp p (by simp [h])) hf.2 hl.2 (by simpa using h) (by simpa using hv)
    omega
  | _ :: _, [], _ :: _, _, _, _, _, _, h, _, _ => h.elim
  | _ :: _, _ :: _, [], _, _, _, _, _, h, _, _ => h.elim
theorem size_fewer {d' d : Dm} (h' : d'.Fine) (h : d.Fine) (hs : ∀ v, d'.has v = true → d.has v = true) {v : Int} (hv : d.has v = true) (h1 : d.size = 1) : d'.has v = true ∧ d'.size = 1 := by
  have ho : d.one = true := by unfold Dm.one; rw [decide_eq_true_eq]; omega
  obtain ⟨o1, o2⟩ := one_fewer h' h hs ho
  have e := h.only ho hv
  have hz := h'.sz
  unfold Dm.one at o1
  rw [decide_eq_true_eq] at o1
  exact ⟨by rw [e, ← o2]; exact h'.loIn, by omega⟩
theorem one_cnt {v : Int} {p : Int} {d' d : Dm} (hp : 0 ≤ p) (h' : d'.Fine) (h : d.Fine) (hs : ∀ v, d'.has v = true → d.has v = true) : sure1 v (p, d) ≤ sure1 v (p, d') ∧ may1 v (p, d') ≤ may1 v (p, d) := by
  unfold sure1 may1
  constructor
  · split
    · rename_i hh
      have hh : d.has v = true ∧ d.size = 1 := by simpa using hh
      obtain ⟨a, b⟩ := size_fewer h' h hs hh.1 hh.2
      rw [if_pos (by simp [a, b])]
      exact Int.le_refl _
    · split
      · exact hp
      · exact Int.le_refl _
  · split
    · rename_i hh
      rw [if_pos (hs v hh)]
      exact Int.le_refl _
    · split
      · exact hp
      · exact Int.le_refl _
theorem cnt_fewer (v : Int) : ∀ (ps : List Int) {D' D : List Dm}, (∀ p ∈ ps, 0 ≤ p) → Fines D' → Fines D → Fewer D' D → sumZ (sure1 v) (ps.zip D) ≤ sumZ (sure1 v) (ps.zip D') ∧ sumZ (may1 v) (ps.zip D') ≤ sumZ (may1 v) (ps.zip D)
  | [], D', D, _, _, _, _ => by simp [sumZ]
  | c :: cs, [], [], _, _, _, _ => by simp [sumZ]
  | c :: cs, d' :: D', d :: D, hp, hf', hf, hs => by
    rw [List.zip_cons_cons, List.zip_cons_cons, sumZ_cons, sumZ_cons, sumZ_cons, sumZ_cons]
    have := one_cnt (v := v) (hp c (by simp)) hf'.1 hf.1 hs.1
    have := cnt_fewer v cs (fun p h => hp p (by simp [h])) hf'.2 hf.2 hs.2
    omega
  | _ :: _, [], _ :: _, _, _, _, h => h.elim
  | _ :: _, _ :: _, [], _, _, _, h => h.elim
theorem cnt_rest (v : Int) : ∀ (ps : List Int) {D' D : List Dm} (x : Nat) (z' z : Int × Dm), (∀ p ∈ ps, 0 ≤ p) → Fines D' → Fines D → Fewer D' D → (ps.zip D')[x]? = some z' → (ps.zip D)[x]? = some z → sumZ (sure1 v) (ps.zip D) - sure1 v z ≤ sumZ (sure1 v) (ps.zip D') - sure1 v z' ∧ sumZ (may1 v) (ps.zip D') - may1 v z' ≤ sumZ (may1 v) (ps.zip D) - may1 v z
  | [], D', D, x, z', z, _, _, _, _, h, _ => by simp at h
  | c :: cs, [], [], x, z', z, _, _, _, _, h, _ => by simp at h
  | c :: cs, d' :: D', d :: D, 0, z', z, hp, hf', hf, hs, h', h => by
    simp at h h'
    subst h h'
    rw [List.zip_cons_cons, List.zip_cons_cons, sumZ_cons, sumZ_cons, sumZ_cons, sumZ_cons]
    have := cnt_fewer v cs (fun p h => hp p (by simp [h])) hf'.2 hf.2 hs.2
    omega
  | c :: cs, d' :: D', d :: D, x + 1, z', z, hp, hf', hf, hs, h', h => by
    rw [List.zip_cons_cons, List.zip_cons_cons, sumZ_cons, sumZ_cons, sumZ_cons, sumZ_cons]
    have := one_cnt (v := v) (hp c (by simp)) hf'.1 hf.1 hs.1
    have := cnt_rest v cs x z' z (fun p h => hp p (by simp [h])) hf'.2 hf.2 hs.2 (by simpa using h') (by simpa using h)
    omega
  | _ :: _, [], _ :: _, _, _, _, _, _, _, h, _, _ => h.elim
  | _ :: _, _ :: _, [], _, _, _, _, _, _, h, _, _ => h.elim
theorem csum_nonneg (xs : List Int) (x : Nat) : 0 ≤ csum (xs.map fun x => ((1 : Int), x)) x := by
  induction xs with
  | nil => simp [csum]
  | cons y l ih =>
    rw [List.map_cons, csum_cons]
    split <;> omega
theorem plc_nonneg (xs : List Int) (n : Nat) : ∀ p ∈ plcL xs n, 0 ≤ p := by
  intro p hp
  unfold plcL coefL at hp
  obtain ⟨x, _, rfl⟩ := List.mem_map.1 hp
  rw [coef_fold]
  have := csum_nonneg xs x
  omega
theorem cnt_count (xs : List Int) (v : Int) (vs : List Int) (hx : ∀ x ∈ xs, 0 ≤ x ∧ x < (vs.length : Int)) : Md.sum (xs.map fun x => ((1 : Int), x)) (vs.map (ind v)) = ((xs.countP fun x => decide (Md.val vs x = v) : Nat) : Int) := by
  induction xs with
  | nil => simp [Md.sum]
  | cons y l ih =>
    rw [List.map_cons, sum_cons, ih (fun x h => hx x (by simp [h])), List.countP_cons]
    have hy := hx y (by simp)
    have e : Md.val (vs.map (ind v)) y = ind v (Md.val vs y) := by
      unfold Md.val
      have hl : y.toNat < vs.length := by omega
      rw [List.getD_eq_getElem?_getD, List.getD_eq_getElem?_getD, List.getElem?_map, List.getElem?_eq_getElem hl]
      rfl
    show 1 * Md.val (vs.map (ind v)) y + _ = _
    rw [e]
    unfold ind
    by_cases h : Md.val vs y = v
    · simp [h]; omega
    · simp [h]
theorem plc_dot (xs : List Int) (v : Int) (vs : List Int) (n : Nat) (hn : vs.length = n) (hx : ∀ x ∈ xs, 0 ≤ x ∧ x < (n : Int)) : dot (plcL xs n) (vs.map (ind v)) = ((xs.countP fun x => decide (Md.val vs x = v) : Nat) : Int) := by
  unfold plcL
  rw [dot_coef _ _ n (by rw [List.length_map]; exact hn) (fun q hq => by
    obtain ⟨x, h, rfl⟩ := List.mem_map.1 hq
    exact (hx x h).1)]
  exact cnt_count xs v vs (by rw [hn]; exact hx)
/-- It can be. -/
def ctOk (D : List Dm) (c : Md.Cn) : Prop := (c.op ≠ 3 → sumZ (sure1 c.v) ((plcL c.xs D.length).zip D) ≤ c.k) ∧ (c.op ≠ 1 → c.k ≤ sumZ (may1 c.v) ((plcL c.xs D.length).zip D))
theorem count_is (D : List Dm) (c : Md.Cn) (Q : List Sq) : (¬ ctOk D c → countQ D c Q = none) ∧ (ctOk D c → ∃ Q', countQ D c Q = some Q' ∧ ∀ x u, (qH Q' x u ↔ qH Q x u ∧ ∀ z, ((plcL c.xs D.length).zip D)[x]? = some z → ctC (c.op != 3) (c.op != 1) c.v c.k (sumZ (sure1 c.v) ((plcL c.xs D.length).zip D)) (sumZ (may1 c.v) ((plcL c.xs D.length).zip D)) z u)) := by
  have hok : ((c.op != 3) && decide (c.k < sumZ (sure1 c.v) ((plcL c.xs D.length).zip D)) || (c.op != 1) && decide (sumZ (may1 c.v) ((plcL c.xs D.length).zip D) < c.k)) = true ↔ ¬ ctOk D c := by
    unfold ctOk
    simp only [Bool.or_eq_true, Bool.and_eq_true, bne_iff_ne, decide_eq_true_eq]
    constructor
    · rintro (⟨h1, h2⟩ | ⟨h1, h2⟩) ⟨h3, h4⟩
      · have := h3 h1; omega
      · have := h4 h1; omega
    · intro h
      by_cases h1 : c.op ≠ 3 ∧ c.k < sumZ (sure1 c.v) ((plcL c.xs D.length).zip D)
      · exact .inl h1
      · refine .inr (Classical.byContradiction fun h2 => h ⟨fun h3 => ?_, fun h3 => ?_⟩)
        · have : ¬ c.k < sumZ (sure1 c.v) ((plcL c.xs D.length).zip D) := fun h4 => h1 ⟨h3, h4⟩
          omega
        · have : ¬ sumZ (may1 c.v) ((plcL c.xs D.length).zip D) < c.k := fun h4 => h2 ⟨h3, h4⟩
          omega
  unfold countQ
  constructor
  · intro h
    rw [if_pos (hok.2 h)]
  · intro h
    rw [if_neg (fun h2 => hok.1 h2 h)]
    refine ⟨_, rfl, fun x u => ?_⟩
    rw [ctQ_is]
    constructor
    · rintro ⟨h1, h2⟩
      exact ⟨h1, fun z hz => h2 (List.getElem?_eq_some_iff.1 hz).1 z hz⟩
    · rintro ⟨h1, h2⟩
      exact ⟨h1, fun _ z hz => h2 z hz⟩
theorem count_safe (c : Md.Cn) (n : Nat) (ho : 1 ≤ c.op ∧ c.op ≤ 3) (hx : ∀ x ∈ c.xs, 0 ≤ x ∧ x < (n : Int)) : Safe (fun D Q => countQ D c Q) n (fun vs => Md.ctB c vs = true) := by
  intro D vs Q hn hf hl hc
  rw [← hn] at hx
  have hd := plc_dot c.xs c.v vs D.length hl.len hx
  have hb := cnt_between c.v (plcL c.xs D.length) (plc_nonneg _ _) hf hl
  have hc' : (c.op ≠ 3 → dot (plcL c.xs D.length) (vs.map (ind c.v)) ≤ c.k) ∧ (c.op ≠ 1 → c.k ≤ dot (plcL c.xs D.length) (vs.map (ind c.v))) := by
    rw [hd]
    have hc : Md.ctB c vs = true := hc
    unfold Md.ctB Md.cmpB at hc
    split at hc
    · have := of_decide_eq_true hc
      exact ⟨fun _ => this, fun h => absurd (by assumption) h⟩
    · split at hc
      · have := of_decide_eq_true hc
        exact ⟨fun _ => by omega, fun _ => by omega⟩
      · have := of_decide_eq_true hc
        exact ⟨fun h => by omega, fun _ => this⟩
  obtain ⟨Q', e, hq⟩ := (count_is D c Q).2 ⟨fun h => by have := hc'.1 h; omega, fun h => by have := hc'.2 h; omega⟩
  refine ⟨Q', e, fun x u hv hq0 => (hq x u).2 ⟨hq0, fun z hz h0 hh => ?_⟩⟩
  have hat := cnt_at c.v (plcL c.xs D.length) x z u (plc_nonneg _ _) hf hl hz hv
  have hz1 : 0 ≤ z.1 := plc_nonneg c.xs D.length z.1 (List.mem_of_getElem? (zip_get hz).2)
  have em : may1 c.v z = z.1 := by unfold may1; rw [if_pos hh]
  rw [em] at hat
  constructor
  · intro h1 h2
    have := hc'.2 (by simpa using h1)
    apply Classical.byContradiction
    intro hne
    have ei : ind c.v u = 0 := by unfold ind; rw [if_neg hne]
    rw [ei] at hat
    omega
  · intro h1 h2 h3 hue
    have := hc'.1 (by simpa using h1)
    have ei : ind c.v u = 1 := by unfold ind; rw [if_pos hue]
    have es : sure1 c.v z = 0 := by
      unfold sure1
      rw [if_neg]
      simp
      intro _
      omega
    rw [ei, es] at hat
    omega
theorem count_less (c : Md.Cn) (n : Nat) : Less (fun D Q => countQ D c Q) n := by
  intro D' D Q1' Q1 Q' hn hf' hf hs h
  have h : countQ D' c Q1' = some Q' := h
  have hok : ctOk D' c := by
    apply Classical.byContradiction
    intro hno
    rw [(count_is D' c Q1').1 hno] at h
    cases h
  obtain ⟨P', e', hq'⟩ := (count_is D' c Q1').2 hok
  rw [h] at e'
  injection e' with e'
  subst e'
  have hlen := hs.len
  unfold ctOk at hok
  rw [hlen] at hok hq'
  have hw := cnt_fewer c.v (plcL c.xs D.length) (plc_nonneg _ _) hf' hf hs
  obtain ⟨Q, e, hq⟩ := (count_is D c Q1).2 ⟨fun h => by have := hok.1 h; omega, fun h => by have := hok.2 h; omega⟩
  refine ⟨Q, e, fun x u d' hd' hv hi hx0 => ?_⟩
  obtain ⟨a, b⟩ := (hq' x u).1 hx0
  refine (hq x u).2 ⟨hi a, fun z hz h0 hh => ?_⟩
  have hz2 := zip_get hz
  have hz' : ((plcL c.xs D.length).zip D')[x]? = some (z.1, d') := by
    rw [List.getElem?_zip_eq_some]
    exact ⟨hz2.2, hd'⟩
  have hr := cnt_rest c.v (plcL c.xs D.length) x _ z (plc_nonneg _ _) hf' hf hs hz' hz
  have fd' := hf'.get x d' hd'
  have em : may1 c.v z = z.1 := by unfold may1; rw [if_pos hh]
  rw [em] at hr
  have hbz := b _ hz' h0
  by_cases hh' : d'.has c.v = true
  · have em' : may1 c.v (z.1, d') = z.1 := by unfold may1; rw [if_pos hh']
    rw [em'] at hr
    obtain ⟨b1, b2⟩ := hbz hh'
    refine ⟨fun h1 h2 => b1 h1 (by omega), fun h1 h2 h3 hue => ?_⟩
    have es : sure1 c.v z = 0 := by
      unfold sure1
      rw [if_neg]
      simp
      intro _
      omega
    rw [es] at hr
    by_cases h4 : 1 < d'.size
    · have es' : sure1 c.v (z.1, d') = 0 := by
        unfold sure1
        rw [if_neg]
        simp
        intro _
        omega
      rw [es'] at hr
      exact b2 h1 h4 (by omega) hue
    · have hsz := fd'.sz
      have es' : sure1 c.v (z.1, d') = z.1 := by
        unfold sure1
        rw [if_pos]
        have : d'.size = 1 := by omega
        simp [hh', this]
      rw [es'] at hr
      have := hok.1 (by simpa using h1)
      omega
  · have em' : may1 c.v (z.1, d') = 0 := by unfold may1; rw [if_neg hh']
    rw [em'] at hr
    refine ⟨fun h1 h2 => ?_, fun _ _ _ hue => hh' (by rw [← hue]; exact hv)⟩
    have := hok.2 (by simpa using h1)
    omega
theorem cnt_one (v : Int) : ∀ (ps : List Int) {D : List Dm} {vs : List Int}, Fines D → Lies D vs → Ones D → dot ps (vs.map (ind v)) ≤ sumZ (sure1 v) (ps.zip D) ∧ sumZ (may1 v) (ps.zip D) ≤ dot ps (vs.map (ind v))
  | [], D, vs, _, _, _ => by simp [sumZ, dot]
  | c :: cs, [], [], _, _, _ => by simp [sumZ, dot]
  | c :: cs, d :: D, u :: vs, hf, hl, ho => by
    rw [List.zip_cons_cons, sumZ_cons, sumZ_cons, List.map_cons]
    unfold dot
    have ih := cnt_one v cs hf.2 hl.2 (fun x d' h => ho (x + 1) d' (by simpa using h))
    have h1 := ho 0 d rfl
    have hz := hf.1.sz
    have hs : d.size = 1 := by
      unfold Dm.one at h1
      rw [decide_eq_true_eq] at h1
      omega
    have e1 := hf.1.only h1 hl.1
    have : sure1 v (c, d) = c * ind v u ∧ may1 v (c, d) = c * ind v u := by
      unfold sure1 may1 ind
      by_cases hh : d.has v = true
      · have e2 := hf.1.only h1 hh
        rw [if_pos (by simp [hh, hs]), if_pos hh, if_pos (by omega)]
        simp
      · rw [if_neg (by simp [hh]), if_neg hh, if_neg (fun e => hh (by rw [← e]; exact hl.1))]
        simp
    omega
  | _ :: _, [], _ :: _, _, h, _ => h.elim
  | _ :: _, _ :: _, [], _, h, _ => h.elim
theorem count_tells (c : Md.Cn) (n : Nat) (hx : ∀ x ∈ c.xs, 0 ≤ x ∧ x < (n : Int)) : Tells (fun D Q => countQ D c Q) n (fun vs => Md.ctB c vs = true) := by
  intro D vs Q Q' hn hf hl h1 h hq
  rw [← hn] at hx
  have hd := plc_dot c.xs c.v vs D.length hl.len hx
  have hb := cnt_one c.v (plcL c.xs D.length) hf hl h1
  have h : countQ D c Q = some Q' := h
  have hok : ctOk D c := by
    apply Classical.byContradiction
    intro hno
    rw [(count_is D c Q).1 hno] at h
    cases h
  unfold ctOk at hok
  rw [hd] at hb
  show Md.ctB c vs = true
  unfold Md.ctB Md.cmpB
  split
  · have := hok.1 (by omega)
    exact decide_eq_true (by omega)
  · split
    · have := hok.1 (by omega)
      have := hok.2 (by omega)
      exact decide_eq_true (by omega)
    · have := hok.2 (by omega)
      exact decide_eq_true (by omega)
end Go.Proofs.YtlcegpnnanhloaaGreatDoor
