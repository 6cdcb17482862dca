/-
  Package hall: what goes of a variable.
-/
import Derived.Test.YtemnbcilmbojhaaGreatDoorHlTaken
namespace Go.Proofs.YtemnbcilmbojhaaGreatDoor
open Go.RowKit

/-- A cause. -/
structure Cz where
  x : Nat
  v : Int
  lo : Int
  hi : Int
  xs : List Int
def Cz.cells (z : Cz) (u : Value) : List Value := [.int .i64 0, .int .i64 3, .int .i64 (z.x : Int), .int .i64 z.v, .int .i64 z.lo, .int .i64 z.hi, u]
def czs (Z : List Cz) (us : List Value) : List Value := (Z.zip us).flatMap fun p => p.1.cells p.2
theorem czs_append (Z Z' : List Cz) (us us' : List Value) (h : us.length = Z.length) : czs (Z ++ Z') (us ++ us') = czs Z us ++ czs Z' us' := by
  unfold czs
  rw [List.zip_append h.symm, List.flatMap_append]
theorem czs_len (Z : List Cz) (us : List Value) (h : us.length = Z.length) : (czs Z us).length = Z.length * 7 := by
  induction Z generalizing us with
  | nil => simp [czs]
  | cons z Z ih =>
    cases us with
    | nil => simp at h
    | cons u us =>
      have e : czs (z :: Z) (u :: us) = z.cells u ++ czs Z us := by simp [czs]
      rw [e, List.length_append, ih us (by simpa using h)]
      simp [Cz.cells]
      omega
structure CzAt (w : World) (B : Nat) (v : Value) (Z : List Cz) (us : List Value) : Prop where
  len : us.length = Z.length
  row : w.ownsRow B 44 7 v Z.length (czs Z us)
  each : ∀ j (h : j < us.length) (h2 : j < Z.length), w.ownsRow B 3 1 us[j] Z[j].xs.length (Z[j].xs.map (.int .i64))
theorem CzAt.below {w w' : World} {B : Nat} {v : Value} {Z : List Cz} {us : List Value} (h : CzAt w B v Z us) (hb : Below w.heap.size w w') : CzAt w' B v Z us := ⟨h.len, own_bl h.row hb, fun j h1 h2 => own_bl (h.each j h1 h2) hb⟩
def CzOut (Z : List Cz) (w : World) (e : Ending) (w' : World) : Prop := ∃ v us, e = .returned v ∧ CzAt w' w.heap.size v Z us ∧ Below w.heap.size w w'
theorem own_ty {w : World} {B : Nat} {e t : TypeId} {sz : Nat} {v : Value} {n : Nat} {xs : List Value} {k : Nat} {cs : Array Value} {f : Nat × Nat} (h : w.ownsRow B e sz v n xs) (hk : w.heap[k]? = some (.cells cs t f)) (hne : t ≠ e) : v.ownBlock ≠ some k := fun hg => by
  rcases h.2 with ⟨rfl, _⟩ | ⟨b, cap, cur, rfl, _, h3, _⟩
  · cases hg
  · have e1 : b = k := by simpa [Value.ownBlock] using hg
    rw [e1, hk] at h3
    injection h3 with h3
    injection h3 with _ h4 _
    exact hne h4
theorem cell_grown {w w' : World} {o : Option Nat} (hg : w.grownBy w' o) {b : Nat} (hb : b < w.heap.size) (hne : o ≠ some b) (k : Nat) : w'.cell? ⟨b, k, none⟩ = w.cell? ⟨b, k, none⟩ := by
  unfold World.cell?
  rw [hg.block b hb (fun e => hne e.symm)]
theorem CzAt.base {w : World} {B B' : Nat} {v : Value} {Z : List Cz} {us : List Value} (h : CzAt w B v Z us) (hB : B' ≤ B) : CzAt w B' v Z us := ⟨h.len, own_base2 h.row hB, fun j h1 h2 => own_base2 (h.each j h1 h2) hB⟩
theorem czAt_nil (w : World) (B : Nat) : CzAt w B (.slice none 0 0) [] [] := ⟨rfl, World.ownsRow_nil _ _ _ _, fun _ h => absurd h (Nat.not_lt_zero _)⟩
/-- Rows of two types lie apart. -/
theorem own_apart {w : World} {B B' : Nat} {e e' : TypeId} {s s' : Nat} {v v' : Value} {n n' : Nat} {xs xs' : List Value} (h : w.ownsRow B e s v n xs) (h' : w.ownsRow B' e' s' v' n' xs') (hne : e ≠ e') (g : Nat) (hg : v.ownBlock = some g) : v'.ownBlock ≠ some g := fun hg' => by
  rcases h.2 with ⟨rfl, _⟩ | ⟨b, cap, cur, rfl, _, h3, _⟩
  · cases hg
  · rcases h'.2 with ⟨rfl, _⟩ | ⟨b', cap', cur', rfl, _, h3', _⟩
    · cases hg'
    · have e1 : b = g := by simpa [Value.ownBlock] using hg
      have e2 : b' = g := by simpa [Value.ownBlock] using hg'
      rw [e1] at h3
      rw [e2, h3] at h3'
      injection h3' with h3'
      injection h3' with _ h4 _
      exact hne h4
/-- Causes more. -/
theorem CzAt.more {w w7 : World} {B : Nat} {v v7 : Value} {Z Z' : List Cz} {us us' : List Value} (h : CzAt w B v Z us) (hl : us'.length = Z'.length) (h7 : w7.ownsRow B 44 7 v7 (Z.length + Z'.length) (czs Z us ++ czs Z' us')) (hg : w.grownBy w7 v.ownBlock) (he : ∀ j (h : j < us'.length) (h2 : j < Z'.length), w.ownsRow B 3 1 us'[j] Z'[j].xs.length (Z'[j].xs.map (.int .i64))) : CzAt w7 B v7 (Z ++ Z') (us ++ us') := by
  have keep : ∀ {u : Value} {l : List Int}, w.ownsRow B 3 1 u l.length (l.map (.int .i64)) → w7.ownsRow B 3 1 u l.length (l.map (.int .i64)) := fun {u l} hu =>
    own_off hu (S := fun b => v.ownBlock = some b) (fun g hgg e => own_apart hu h.row (by decide) g hgg e) ⟨hg.size, fun k hk hne => hg.block k hk (fun e => hne e.symm)⟩
  refine ⟨by simp [h.len, hl], ?_, fun j h1 h2 => ?_⟩
  · rw [List.length_append, czs_append _ _ _ _ h.len]
    exact h7
  · by_cases hj : j < us.length
    · have hj2 : j < Z.length := by rw [← h.len]; exact hj
      rw [List.getElem_append_left hj, List.getElem_append_left hj2]
      exact keep (h.each j hj hj2)
    · have hlen := h.len
      have h1' : j - us.length < us'.length := by simp at h1; omega
      rw [List.getElem_append_right (by omega), List.getElem_append_right (by omega)]
      have := keep (he (j - us.length) h1' (by omega))
      simp only [hlen] at this ⊢
      exact this
def cz1 (xs : List Int) (g : Gr) (L : List Iv) (v : Int) : List Cz := match tkL g L 0 (v - g.lo).toNat with
  | none => []
  | some k => match L[k]? with
    | some i => [⟨g.x, v, i.lo, i.hi, xs.filter fun x => i.f x.toNat⟩]
    | none => []
def czL (xs : List Int) (g : Gr) (L : List Iv) (vs : List Int) : List Cz := vs.flatMap (cz1 xs g L)
theorem czL_next {xs : List Int} {g : Gr} {L : List Iv} {vs : List Int} {k : Nat} (hk : k < vs.length) : czL xs g L (vs.take (k + 1)) = czL xs g L (vs.take k) ++ cz1 xs g L vs[k] := by
  unfold czL
  rw [List.take_succ_eq_append_getElem hk, List.flatMap_append]
  simp
theorem tk_lt {g : Gr} {L : List Iv} {k j r : Nat} (h : tkL g L k j = some r) : k ≤ r ∧ r < k + L.length := by
  induction L generalizing k with
  | nil => cases h
  | cons i L ih =>
    have e : tkL g (i :: L) k j = if (!i.f g.x && (decide (i.lo ≤ g.lo + (j : Int)) && (decide (g.lo + (j : Int) ≤ i.hi) && decide (g.lo + (j : Int) ≤ g.hi)))) = true then some k else tkL g L (k + 1) j := rfl
    rw [e] at h
    split at h
    · injection h with h
      subst h
      simp
    · have := ih h
      simp
      omega
theorem cz1_none {xs : List Int} {g : Gr} {L : List Iv} {v : Int} (h : tkL g L 0 (v - g.lo).toNat = none) : cz1 xs g L v = [] := by
  unfold cz1
  rw [h]
theorem cz1_some {xs : List Int} {g : Gr} {L : List Iv} {v : Int} {k : Nat} (h : tkL g L 0 (v - g.lo).toNat = some k) (hk : k < L.length) : cz1 xs g L v = [⟨g.x, v, L[k].lo, L[k].hi, xs.filter fun x => L[k].f x.toNat⟩] := by
  unfold cz1
  rw [h]
  show (match L[k]? with | some i => _ | none => _) = _
  rw [List.getElem?_eq_getElem hk]
theorem pv_all {a : Option Addr} {t : Nat → Option Nat} {c : Array Value} (hs : c.size = 64) (hf : ∀ j, j < 64 → c[j]? = some (pv a (t j))) : c.all (·.oneCell') = true := by
  rw [Array.all_eq_true]
  intro j hj
  have := hf j (by omega)
  rw [Array.getElem?_eq_getElem hj] at this
  injection this with this
  rw [this]
  exact pv_one _ _
theorem cz1_len (xs : List Int) (g : Gr) (L : List Iv) (v : Int) : (cz1 xs g L v).length ≤ 1 := by
  unfold cz1
  split
  · simp
  · split <;> simp
theorem czL_len (xs : List Int) (g : Gr) (L : List Iv) (vs : List Int) : (czL xs g L vs).length ≤ vs.length := by
  unfold czL
  induction vs with
  | nil => simp
  | cons v vs ih =>
    rw [List.flatMap_cons, List.length_append, List.length_cons]
    have := cz1_len xs g L v
    omega
theorem src_cz {V : World} {b : Nat} {z : Cz} {u : Value} {a : Option Addr} {n cp : Nat} (hu : u = .slice a n cp := by rfl) (h : V.heap[b]? = some (.cells #[.int .i64 0, .int .i64 3, .int .i64 (z.x : Int), .int .i64 z.v, .int .i64 z.lo, .int .i64 z.hi, u] 44 (0, 0))) : SrcAt V (.slice (some ⟨b, 0, none⟩) 1 1) 1 7 (czs [z] [u]) := by
  subst hu
  refine ⟨_, 1, rfl, by simp [czs, Cz.cells], ?_, (fun h => by cases h), fun ad ha j y hj => ?_⟩
  · intro y hy
    simp only [czs, List.zip_cons_cons, List.zip_nil_left, List.flatMap_cons, List.flatMap_nil, List.append_nil, Cz.cells, List.mem_cons, List.not_mem_nil, or_false] at hy
    rcases hy with rfl | rfl | rfl | rfl | rfl | rfl | rfl <;> rfl
  · injection ha with ha
    subst ha
    rw [add_none, Nat.zero_add, cell_of h]
    simpa [czs, Cz.cells] using hj
theorem info44 : (Tryz.prog.info? 44).map (fun i => (i.zero, i.size, i.bytes)) = some (some (.agg #[.int .i64 0, .int .i64 0, .int .i64 0, .int .i64 0, .int .i64 0, .int .i64 0, .slice none 0 0]), 7, 72) := by kernel_rfl
theorem und33 : Tryz.prog.underlying 33 = some (.slice 44) := by kernel_rfl

set_option maxRecDepth 10000 in
set_option maxHeartbeats 4000000 in
theorem cutZ_any (xa : Option Addr) (xc : Nat) (xs : List Int) (vg : Value) (g : Gr) (va : Option Addr) (vcp : Nat) (vs : List Int) (a : Option Addr) (cap : Nat) (L : List Iv) (w : World) (hX : IntsAt w (.slice xa xs.length xc) xs) (hx : ∀ x ∈ xs, 0 ≤ x ∧ x < 32) (hxl : xs.length ≤ 1000000) (hg : g.Ok) (h64 : g.hi - g.lo < 64) (hV : IntsAt w (.slice va vs.length vcp) vs) (hvs : ∀ v ∈ vs, g.lo ≤ v ∧ v ≤ g.hi) (hvl : vs.length ≤ 1000) (hL : IvsAt w a L) (hok : ∀ i ∈ L, i.Ok) (hl : L.length ≤ 1000000) : Calls Tryz.prog 30 #[.agg #[.slice xa xs.length xc, vg], g.val, .slice va vs.length vcp, .slice a L.length cap] w (CzOut (czL xs g L vs) w) := by
  have HTk := fun w' (hb : Below w.heap.size w w') => taken_any g hg h64 a cap L w' (fun j hj => by
    obtain ⟨b, off, e, hlt, hI⟩ := hL j hj
    exact ⟨b, off, e, Nat.lt_of_lt_of_le hlt hb.size, hI.mono (hb.block b hlt)⟩) hok hl
  have HCn := fun (v : Int) => cz1_none (xs := xs) (g := g) (L := L) (v := v)
  have HCs := fun (v : Int) (k : Nat) => cz1_some (xs := xs) (g := g) (L := L) (v := v) (k := k)
  have HTl := fun j r => tk_lt (g := g) (L := L) (k := 0) (j := j) (r := r)
  have HNx := fun (k : Nat) (hk : k < vs.length) => czL_next (xs := xs) (g := g) (L := L) hk
  have HZl := fun (k : Nat) => czL_len xs g L (vs.take k)
  have HZf : czL xs g L (vs.take vs.length) = czL xs g L vs := by rw [List.take_length]
  have HO : Hid (∀ v us w', CzAt w' w.heap.size v (czL xs g L (vs.take vs.length)) us → Below w.heap.size w w' → CzOut (czL xs g L vs) w (.returned v) w') := fun v us w' h1 h2 => ⟨v, us, rfl, by rw [← HZf]; exact h1, h2⟩
  obtain ⟨t, ht⟩ : ∃ t, tkL g L 0 = t := ⟨_, rfl⟩
  obtain ⟨cl, hcl⟩ : ∃ cl, czL xs g L = cl := ⟨_, rfl⟩
  rw [hcl] at HNx HZl HO
  rw [hcl]
  obtain ⟨c1, hc1⟩ : ∃ c, cz1 xs g L = c := ⟨_, rfl⟩
  rw [hc1] at HNx
  simp only [hc1] at HCn HCs
  have h0 : cl (vs.take 0) = [] := by rw [← hcl]; rfl
  obtain ⟨lo, hi, x, n⟩ := g
  obtain ⟨l1, l2, h1, h2, hx32, n1, n2⟩ := hg
  simp only [ht] at HTk HCn HCs HTl
  unfold Gr.val at HTk ⊢
  dsimp only at h64 hvs l1 l2 h1 h2 hx32 n1 n2 HTk HCn HCs ⊢
  clear ht hcl hc1 HZf
  obtain ⟨W, hW⟩ : ∃ W, (w.alloc (.cells #[.slice xa xs.length xc, vg] 66)).alloc (.cells #[.int .i64 lo, .int .i64 hi, .int .i64 (x : Int), .int .i64 n] 79) = W := ⟨_, rfl⟩
  have hb0 : Below w.heap.size w W := by rw [← hW]; exact ((Below.refl _ _).alloc (Nat.le_refl _) _).alloc (by simp) _
  have g0 : W.heap[w.heap.size]? = some (.cells #[.slice xa xs.length xc, vg] 66 (0, 0)) := by rw [← hW, heap_alloc_old (w.alloc _) _ (by simp)]; exact heap_alloc_new w _
  have g1 : W.heap[w.heap.size + 1]? = some (.cells #[.int .i64 lo, .int .i64 hi, .int .i64 (x : Int), .int .i64 n] 79 (0, 0)) := by rw [← hW]; exact heap_alloc2_new w _ _
  have HB : Hid (Below w.heap.size w W) := hb0
  have HWs : Hid (∀ w', Below W.heap.size W w' → Below w.heap.size w w') := fun w' hb => hb0.trans (hb.mono hb0.size)
  have HTw : Hid (Calls Tryz.prog 53 #[.agg #[.int .i64 lo, .int .i64 hi, .int .i64 (x : Int), .int .i64 n], .slice a L.length cap] W fun e w' => ∃ c : Array Value, e = .returned (.agg c) ∧ c.size = 64 ∧ (∀ j, j < 64 → c[j]? = some (pv a (t j))) ∧ Below W.heap.size W w') := HTk W hb0
  have HHl : Hid (∀ (i : Iv) w', i.Ok → Below w.heap.size w w' → Calls Tryz.prog 32 #[.agg #[.slice xa xs.length xc, vg], i.val] w' fun e w2 => ∃ v, e = .returned (.agg #[.int .i64 i.lo, .int .i64 i.hi, v]) ∧ Hid (w2.ownsRow w'.heap.size 3 1 v (xs.filter fun x => i.f x.toNat).length ((xs.filter fun x => i.f x.toNat).map (.int .i64))) ∧ Below w'.heap.size w' w2) := fun i w' hi hb => hall_any xa xc xs vg i w' (hX.below hb) hx hi hxl
  have HV : Hid (∀ w', Below w.heap.size w w' → ∀ (k : Nat) (hk : k < vs.length), ∃ b off, va = some ⟨b, off, none⟩ ∧ w'.cell? ⟨b, off + k, none⟩ = some (.int .i64 vs[k])) := fun w' hb k hk => by
    obtain ⟨a', c', e, _, hcl⟩ := hV
    injection e with e1 _ _
    subst e1
    obtain ⟨b, off, e, hlt, hc⟩ := hcl (by omega)
    exact ⟨b, off, e, (hb.cell (p := ⟨b, _, none⟩) hlt).trans (hc k hk)⟩
  have HLi : Hid (∀ w', Below w.heap.size w w' → ∀ j (h : j < L.length), ∃ b off, a = some ⟨b, off, none⟩ ∧ b < w.heap.size ∧ IvAt w' b (off + j * 7) L[j]) := fun w' hb j hj => by
    obtain ⟨b, off, e, hlt, hI⟩ := hL j hj
    exact ⟨b, off, e, hlt, hI.mono (hb.block b hlt)⟩
  have HGb : Hid (∀ w', Below W.heap.size W w' → w'.heap[w.heap.size]? = some (.cells #[.slice xa xs.length xc, vg] 66 (0, 0)) ∧ w'.heap[w.heap.size + 1]? = some (.cells #[.int .i64 lo, .int .i64 hi, .int .i64 (x : Int), .int .i64 n] 79 (0, 0))) := fun w' hb => ⟨(hb.block _ (Array.getElem?_eq_some_iff.1 g0).1).trans g0, (hb.block _ (Array.getElem?_eq_some_iff.1 g1).1).trans g1⟩
  have Hok : Hid (∀ j (h : j < L.length), L[j].Ok) := fun j hj => hok _ (List.getElem_mem hj)
  have Hvs : Hid (∀ (k : Nat) (hk : k < vs.length), lo ≤ vs[k] ∧ vs[k] ≤ hi) := fun k hk => hvs _ (List.getElem_mem hk)
  have HGd : Hid (∀ w', Below W.heap.size W w' → (w'.cell? ⟨w.heap.size, 0, none⟩ = some (.slice xa xs.length xc) ∧ w'.cell? ⟨w.heap.size, 1, none⟩ = some vg) ∧ w'.cell? ⟨w.heap.size + 1, 0, none⟩ = some (.int .i64 lo) ∧ w'.cell? ⟨w.heap.size + 1, 1, none⟩ = some (.int .i64 hi) ∧ w'.cell? ⟨w.heap.size + 1, 2, none⟩ = some (.int .i64 (x : Int)) ∧ w'.cell? ⟨w.heap.size + 1, 3, none⟩ = some (.int .i64 n)) := fun w' hb => by
    have q0 := (hb.block _ (Array.getElem?_eq_some_iff.1 g0).1).trans g0
    have q1 := (hb.block _ (Array.getElem?_eq_some_iff.1 g1).1).trans g1
    exact ⟨⟨cell_of q0 0, cell_of q0 1⟩, cell_of q1 0, cell_of q1 1, cell_of q1 2, cell_of q1 3⟩
  have HCn' : Hid (∀ v : Int, t (v - lo).toNat = none → c1 v = []) := HCn
  have HCs' : Hid (∀ (v : Int) (k : Nat), t (v - lo).toNat = some k → ∀ hk : k < L.length, c1 v = [⟨x, v, L[k].lo, L[k].hi, xs.filter fun x => L[k].f x.toNat⟩]) := HCs
  have HTl' : Hid (∀ j r, t j = some r → r < L.length) := fun j r h => by have := (HTl j r h).2; omega
  have HNx' : Hid (∀ (k : Nat) (hk : k < vs.length), cl (vs.take (k + 1)) = cl (vs.take k) ++ c1 vs[k]) := HNx
  have HZl' : Hid (∀ k, (cl (vs.take k)).length ≤ 1000) := fun k => by
    have := HZl k
    have := List.length_take_le' k vs
    omega
  have H0 : Hid (cl (vs.take 0) = []) := h0
  obtain ⟨_, p0, p1, p2, p3⟩ := HGd.out W (Below.refl _ _)
  clear HTk HCn HCs HTl HNx HZl hX hx hV hvs hL hok hb0 g0 g1 h0
  go_enter Tryz.func30, Tryz.ntmps30
  go_upto_region 1 with fail
  try rw [hW]
  clear hW
  go_upto_region 2 with (first | (go_at_call 53; refine calls_at HTw.out (by with_reducible rfl) (by with_reducible rfl) ?_; rintro e w1 ⟨c, rfl, hcs, hcf, hb1⟩) | (refine wpList_store_row rfl 115 _ _ rfl w1.heap.size c rfl rfl 115 _ (heap_alloc_new w1 _) (by rw [hcs]; exact info115s) (by rw [hcs]; rfl) (pv_all hcs hcf) ?_; rw [setRow_alloc]))
  have HB2 : Hid (Below W.heap.size W (w1.alloc (.cells c 115))) := hb1.alloc hb1.size _
  have HC2 : Hid ((w1.alloc (.cells c 115)).heap[w1.heap.size]? = some (.cells c 115 (0, 0))) := heap_alloc_new w1 _
  have HWl : Hid (W.heap.size ≤ w1.heap.size) := hb1.size
  have HCf : Hid (∀ j, j < 64 → c[j]? = some (pv a (t j))) := hcf
  try simp only [Act.put]
  generalize w1.alloc (.cells c 115) = W2 at *
  have HI0 : Hid (CzAt W2 W2.heap.size (.slice none 0 0) (cl (vs.take 0)) []) := by
    have := H0.out
    show CzAt _ _ _ _ _
    rw [this]
    exact czAt_nil _ _
  have HC3 : Hid (∀ w', Below W2.heap.size W2 w' → ∀ j, j < 64 → w'.cell? ⟨w1.heap.size, j, none⟩ = some (pv a (t j))) := fun w' hb j hj => by
    have := (hb.block _ (Array.getElem?_eq_some_iff.1 HC2.out).1).trans HC2.out
    rw [cell_of this]
    exact HCf.out j hj
  clear hcs hcf hb1 HTw p0 p1 p2 p3 HC2 HCf
  go_upto_region 4 with fail
  go_loopw [19, 10] (fun iv ov wr => ∃ (k : Nat) (us : List Value), iv = .int .i64 (k : Int) ∧ k ≤ vs.length ∧ Hid (CzAt wr W2.heap.size ov (cl (vs.take k)) us) ∧ Hid (Below W2.heap.size W2 wr)) (fun iv _ _ => vs.length - (intOf iv).toNat)
  case atStart => exact ⟨0, [], rfl, Nat.zero_le _, HI0, Below.refl _ _⟩
  case round =>
  obtain ⟨k, us, rfl, hk, HZ, HBr⟩ := hrel
  have HBw : Hid (Below W.heap.size W wr) := HB2.out.trans (HBr.out.mono HB2.out.size)
  by_cases hkn : k < vs.length
  case neg =>
    have hke : k = vs.length := by omega
    subst hke
    have hkI : ¬ (vs.length : Int) < (vs.length : Int) := by omega
    go_wp2_with fail
    go_ret
    exact HO.out _ us _ (HZ.out.base (HWs.out _ HB2.out).size) (HWs.out _ HBw.out)
  case pos =>
  have hkI : (k : Int) < (vs.length : Int) := by omega
  obtain ⟨vb, voff, rfl, v0⟩ := HV.out wr (HWs.out _ HBw.out) k hkn
  have hvk := Hvs.out k hkn
  have HNk := HNx'.out k hkn
  obtain ⟨v, hv⟩ : ∃ v, vs[k] = v := ⟨_, rfl⟩
  rw [hv] at v0 hvk HNk
  obtain ⟨j, hj⟩ : ∃ j : Nat, v - lo = (j : Int) := ⟨(v - lo).toNat, by omega⟩
  have hj64 : (j : Int) < 64 := by omega
  have cj := HC3.out wr HBr.out j (by omega)
  have HCnv := HCn'.out v
  have HCsv := HCs'.out v
  rw [hj, Int.toNat_natCast] at HCnv HCsv
  obtain ⟨_, p0, p1, p2, p3⟩ := HGd.out wr HBw.out
  have HNk' : Hid (cl (vs.take (k + 1)) = cl (vs.take k) ++ c1 v) := HNk
  cases ht : t j with
  | none =>
    rw [ht] at cj
    have HNn : Hid (cl (vs.take (k + 1)) = cl (vs.take k)) := by show _ = _; rw [HNk'.out, HCnv ht, List.append_nil]
    have cj' : wr.cell? ⟨w1.heap.size, j, none⟩ = some (.pointer none) := cj
    clear cj HCnv HCsv HNk hv ht
    go_wp2_with fail
    go_roundw
    case rel => exact ⟨k + 1, us, by go_num, hkn, (by show CzAt _ _ _ _ _; rw [HNn.out]; exact HZ.out), HBr⟩
    case measure => simp [intOf]; omega
  | some m =>
    have hm := HTl'.out j m ht
    rw [ht] at cj
    obtain ⟨b, off, rfl, hblt, hI⟩ := HLi.out wr (HWs.out _ HBw.out) m hm
    have HBlt : Hid (b < w.heap.size) := hblt
    have HLm : Hid (∀ w', Below wr.heap.size wr w' → IvAt w' b (off + m * 7) L[m]) := fun w' hb => by
      obtain ⟨b', off', e, _, h⟩ := HLi.out w' (HWs.out _ (bl_next HBw.out hb)) m hm
      injection e with e
      injection e with e1 e2
      subst e1 e2
      exact h
    have hIok := Hok.out m hm
    have HCm := HCsv m ht hm
    have HHm := fun w' => HHl.out L[m] w' hIok
    have cj' : wr.cell? ⟨w1.heap.size, j, none⟩ = some (.pointer (some ⟨b, off + m * 7, none⟩)) := by
      rw [cj]
      show some (Value.pointer (some ((⟨b, off, none⟩ : Addr).add (m * 7)))) = _
      rw [add_none]
    obtain ⟨⟨ilo, ihi, f, inn⟩, hi'⟩ : ∃ i, L[m] = i := ⟨_, rfl⟩
    rw [hi'] at HLm HCm HHm hIok
    unfold Iv.val at HHm
    dsimp only at HCm HHm
    obtain ⟨fx, hfx⟩ : ∃ fx, (xs.filter fun x => f x.toNat) = fx := ⟨_, rfl⟩
    rw [hfx] at HCm HHm
    obtain ⟨o, ho⟩ : ∃ o, off + m * 7 = o := ⟨_, rfl⟩
    have HLm0 := HLm.out
    unfold IvAt at HLm0
    dsimp only at HLm0
    rw [ho] at HLm0 cj'
    generalize wd f 0 = b0 at HHm HLm0
    generalize wd f 1 = b1 at HHm HLm0
    generalize wd f 2 = b2 at HHm HLm0
    generalize wd f 3 = b3 at HHm HLm0
    have HHeld : Hid (∀ w', Below wr.heap.size wr w' → (w'.cell? ⟨w.heap.size, 0, none⟩ = some (.slice xa xs.length xc) ∧ w'.cell? ⟨w.heap.size, 1, none⟩ = some vg) ∧ (w'.cell? ⟨w.heap.size + 1, 0, none⟩ = some (.int .i64 lo) ∧ w'.cell? ⟨w.heap.size + 1, 1, none⟩ = some (.int .i64 hi) ∧ w'.cell? ⟨w.heap.size + 1, 2, none⟩ = some (.int .i64 (x : Int)) ∧ w'.cell? ⟨w.heap.size + 1, 3, none⟩ = some (.int .i64 n)) ∧ w'.cell? ⟨b, o, none⟩ = some (.int .i64 ilo) ∧ w'.cell? ⟨b, o + 1, none⟩ = some (.int .i64 ihi) ∧ w'.cell? ⟨b, o + 2, none⟩ = some (.int .u8 (b0 : Int)) ∧ w'.cell? ⟨b, o + 3, none⟩ = some (.int .u8 (b1 : Int)) ∧ w'.cell? ⟨b, o + 4, none⟩ = some (.int .u8 (b2 : Int)) ∧ w'.cell? ⟨b, o + 5, none⟩ = some (.int .u8 (b3 : Int)) ∧ w'.cell? ⟨b, o + 6, none⟩ = some (.int .i64 inn)) := fun w' hb => ⟨(HGd.out w' (bl_next HBw.out hb)).1, (HGd.out w' (bl_next HBw.out hb)).2, HLm0 w' hb⟩
    have HHr : Hid (∀ w', Below w.heap.size w w' → Calls Tryz.prog 32 #[.agg #[.slice xa xs.length xc, vg], .agg #[.int .i64 ilo, .int .i64 ihi, .int .u8 (b0 : Int), .int .u8 (b1 : Int), .int .u8 (b2 : Int), .int .u8 (b3 : Int), .int .i64 inn]] w' fun e w2 => ∃ v, e = .returned (.agg #[.int .i64 ilo, .int .i64 ihi, v]) ∧ Hid (w2.ownsRow w'.heap.size 3 1 v fx.length (fx.map (.int .i64))) ∧ Below w'.heap.size w' w2) := HHm
    have HCm' : Hid (c1 v = [⟨x, v, ilo, ihi, fx⟩]) := HCm
    obtain ⟨oa, oc, rfl⟩ := own_slice HZ.out.row
    have hzl := HZl'.out k
    clear HCnv HCsv HNk hv ht cj hI HLm HCm HHm hi' hfx ho HLm0 hIok hblt
    go_upto_region 8 with fail
    have HBd : Hid (Below wr.heap.size wr wr.drew) := (Below.refl _ _).drew
    have HZd : Hid (CzAt wr.drew W2.heap.size (.slice oa (cl (vs.take k)).length oc) (cl (vs.take k)) us) := HZ.out.below (Below.refl _ _).drew
    refine wp_region_T (fun w' => (w'.cell? ⟨w.heap.size, 0, none⟩ = some (.slice xa xs.length xc) ∧ w'.cell? ⟨w.heap.size, 1, none⟩ = some vg) ∧ (w'.cell? ⟨w.heap.size + 1, 0, none⟩ = some (.int .i64 lo) ∧ w'.cell? ⟨w.heap.size + 1, 1, none⟩ = some (.int .i64 hi) ∧ w'.cell? ⟨w.heap.size + 1, 2, none⟩ = some (.int .i64 (x : Int)) ∧ w'.cell? ⟨w.heap.size + 1, 3, none⟩ = some (.int .i64 n)) ∧ w'.cell? ⟨b, o, none⟩ = some (.int .i64 ilo) ∧ w'.cell? ⟨b, o + 1, none⟩ = some (.int .i64 ihi) ∧ w'.cell? ⟨b, o + 2, none⟩ = some (.int .u8 (b0 : Int)) ∧ w'.cell? ⟨b, o + 3, none⟩ = some (.int .u8 (b1 : Int)) ∧ w'.cell? ⟨b, o + 4, none⟩ = some (.int .u8 (b2 : Int)) ∧ w'.cell? ⟨b, o + 5, none⟩ = some (.int .u8 (b3 : Int)) ∧ w'.cell? ⟨b, o + 6, none⟩ = some (.int .i64 inn)) (fun _ => True) [12] (by kernel_rfl) ⟨HHeld.out _ HBd.out, trivial⟩ (fun hHeld => ?_)
    generalize wr.drew = U at HBd HZd hHeld ⊢
    refine wpAnyT_takeB (i := 0) (oi := ⟨some 32, .move (.tmp 10), _, _, _, _⟩) (v := ?vR8c1x0) rfl (by kernel_rfl) (by kernel_rfl) (by kernel_rfl) (by kernel_rfl) (fun _ _ _ h => h) (Or.inl ⟨by rfl, ?hyR8c1x0⟩) (by assumption) ?restR8c1x0
    case hyR8c1x0 => (intro w hSw; (try dsimp only at hSw); go_simp; try (with_reducible rfl))
    try simp only [Act.put, List.setIfInBounds_toArray, List.set_cons_zero, List.set_cons_succ]
    refine wpAnyT_takeB (i := 1) (oi := ⟨some 33, .fieldAddr 79 (.tmp 5) 1, _, _, _, _⟩) (v := ?vR8c1x1) rfl (by kernel_rfl) (by kernel_rfl) (by kernel_rfl) (by kernel_rfl) (fun _ _ _ h => h) (Or.inl ⟨by rfl, ?hyR8c1x1⟩) (by assumption) ?restR8c1x1
    case hyR8c1x1 => (intro w hSw; (try dsimp only at hSw); go_simp; try (with_reducible rfl))
    try simp only [Act.put, List.setIfInBounds_toArray, List.set_cons_zero, List.set_cons_succ]
    refine wpAnyT_takeB (i := 2) (oi := ⟨some 34, .load 3 (.tmp 33), _, _, _, _⟩) (v := ?vR8c1x2) rfl (by kernel_rfl) (by kernel_rfl) (by kernel_rfl) (by kernel_rfl) (fun _ _ _ h => h) (Or.inl ⟨by rfl, ?hyR8c1x2⟩) (by assumption) ?restR8c1x2
    case hyR8c1x2 => (intro w hSw; (try dsimp only at hSw); go_simp; try (with_reducible rfl))
    try simp only [Act.put, List.setIfInBounds_toArray, List.set_cons_zero, List.set_cons_succ]
    refine wpAnyT_takeB (i := 3) (oi := ⟨some 35, .move (.tmp 12), _, _, _, _⟩) (v := ?vR8c1x3) rfl (by kernel_rfl) (by kernel_rfl) (by kernel_rfl) (by kernel_rfl) (fun _ _ _ h => h) (Or.inl ⟨by rfl, ?hyR8c1x3⟩) (by assumption) ?restR8c1x3
    case hyR8c1x3 => (intro w hSw; (try dsimp only at hSw); go_simp; try (with_reducible rfl))
    try simp only [Act.put, List.setIfInBounds_toArray, List.set_cons_zero, List.set_cons_succ]
    refine wpAnyT_takeB (i := 4) (oi := ⟨some 36, .build 42 #[(0, (.const (.int .i64 3))), (1, (.tmp 34)), (2, (.tmp 35))], _, _, _, _⟩) (v := ?vR8c1x4) rfl (by kernel_rfl) (by kernel_rfl) (by kernel_rfl) (by kernel_rfl) (fun _ _ _ h => h) (Or.inl ⟨by rfl, ?hyR8c1x4⟩) (by assumption) ?restR8c1x4
    case hyR8c1x4 => (intro w hSw; (try dsimp only at hSw); go_simp; try (with_reducible rfl))
    try simp only [Act.put, List.setIfInBounds_toArray, List.set_cons_zero, List.set_cons_succ]
    refine wpAnyT_takeB (i := 5) (oi := ⟨some 37, .load 66 (.tmp 4), _, _, _, _⟩) (v := ?vR8c1x5) rfl (by kernel_rfl) (by kernel_rfl) (by kernel_rfl) (by kernel_rfl) (fun _ _ _ h => h) (Or.inl ⟨by rfl, ?hyR8c1x5⟩) (by assumption) ?restR8c1x5
    case hyR8c1x5 => (intro w hSw; (try dsimp only at hSw); go_simp; try (with_reducible rfl))
    try simp only [Act.put, List.setIfInBounds_toArray, List.set_cons_zero, List.set_cons_succ]
    refine wpAnyT_takeB (i := 6) (oi := ⟨some 38, .move (.tmp 13), _, _, _, _⟩) (v := ?vR8c1x6) rfl (by kernel_rfl) (by kernel_rfl) (by kernel_rfl) (by kernel_rfl) (fun _ _ _ h => h) (Or.inl ⟨by rfl, ?hyR8c1x6⟩) (by assumption) ?restR8c1x6
    case hyR8c1x6 => (intro w hSw; (try dsimp only at hSw); go_simp; try (with_reducible rfl))
    try simp only [Act.put, List.setIfInBounds_toArray, List.set_cons_zero, List.set_cons_succ]
    refine wpAnyT_takeB (i := 7) (oi := ⟨some 39, .nilCheck (.tmp 38), _, _, _, _⟩) (v := ?vR8c1x7) rfl (by kernel_rfl) (by kernel_rfl) (by kernel_rfl) (by kernel_rfl) (fun _ _ _ h => h) (Or.inl ⟨by rfl, ?hyR8c1x7⟩) (by assumption) ?restR8c1x7
    case hyR8c1x7 => (intro w hSw; (try dsimp only at hSw); go_simp; try (with_reducible rfl))
    try simp only [Act.put, List.setIfInBounds_toArray, List.set_cons_zero, List.set_cons_succ]
    refine wpAnyT_takeB (i := 8) (oi := ⟨some 40, .load 76 (.tmp 39), _, _, _, _⟩) (v := ?vR8c1x8) rfl (by kernel_rfl) (by kernel_rfl) (by kernel_rfl) (by kernel_rfl) (fun _ _ _ h => h) (Or.inl ⟨by rfl, ?hyR8c1x8⟩) (by assumption) ?restR8c1x8
    case hyR8c1x8 => (intro w hSw; (try dsimp only at hSw); go_simp; try (with_reducible rfl))
    try simp only [Act.put, List.setIfInBounds_toArray, List.set_cons_zero, List.set_cons_succ]
    refine wpAnyT_one (i := 9) (o := ⟨some 41, .call { callee := .value (.func 32), args := #[(.tmp 37), (.tmp 40)], argTypes := #[66, 76] }, _, _, _, _⟩) (by kernel_rfl) rfl (fun K hK => ?_)
    go_simp
    refine calls_at (HHr.out _ (HWs.out _ (bl_next HBw.out HBd.out))) (by with_reducible rfl) (by with_reducible rfl) ?_
    rintro e w2 ⟨hv2, rfl, ho2, hb2⟩
    go_wp2_with fail
    have HB3 : Hid (Below wr.heap.size wr w2) := bl_next HBd.out hb2
    have HZ2 : Hid (CzAt w2 W2.heap.size (.slice oa (cl (vs.take k)).length oc) (cl (vs.take k)) us) := HZd.out.below hb2
    have HO2 : Hid (w2.ownsRow W2.heap.size 3 1 hv2 fx.length (fx.map (.int .i64))) := own_base2 ho2.out (Nat.le_trans HBr.out.size HBd.out.size)
    obtain ⟨ha2, hc2, rfl⟩ := own_slice HO2.out
    clear hb2 hHeld ho2
    have hHeld := (⟨HHeld.out _ HB3.out, trivial⟩ : _ ∧ True)
    refine hK.out _ _ ⟨hHeld.1, fun _ => trivial⟩ ?_
    clear hK K
    refine wpAnyT_takeB (i := 10) (oi := ⟨some 42, .build 44 #[(1, (.tmp 36)), (2, (.tmp 41))], _, _, _, _⟩) (v := ?vR8c1x10) rfl (by kernel_rfl) (by kernel_rfl) (by kernel_rfl) (by kernel_rfl) (fun _ _ _ h => h) (Or.inl ⟨by rfl, ?hyR8c1x10⟩) (by assumption) ?restR8c1x10
    case hyR8c1x10 => (intro w hSw; (try dsimp only at hSw); go_simp; try (with_reducible rfl))
    try simp only [Act.put, List.setIfInBounds_toArray, List.set_cons_zero, List.set_cons_succ]
    refine wpAnyT_one (i := 11) (o := ⟨some 43, .buildSlice 33 1 #[(0, (.tmp 42))], _, _, _, _⟩) (by kernel_rfl) rfl (fun K hK => ?_)
    go_simp
    obtain ⟨V, hV⟩ : ∃ V, w2.alloc (.cells #[.int .i64 0, .int .i64 3, .int .i64 (x : Int), .int .i64 v, .int .i64 ilo, .int .i64 ihi, .slice ha2 fx.length hc2] 44) = V := ⟨_, rfl⟩
    have hbV : Below w2.heap.size w2 V := by rw [← hV]; exact (Below.refl _ _).alloc (Nat.le_refl _) _
    have gV : V.heap[w2.heap.size]? = some (.cells #[.int .i64 0, .int .i64 3, .int .i64 (x : Int), .int .i64 v, .int .i64 ilo, .int .i64 ihi, .slice ha2 fx.length hc2] 44 (0, 0)) := by rw [← hV]; exact heap_alloc_new w2 _
    have HSV : Hid (SrcAt V (.slice (some ⟨w2.heap.size, 0, none⟩) 1 1) 1 7 (czs [⟨x, v, ilo, ihi, fx⟩] [.slice ha2 fx.length hc2])) := src_cz (z := ⟨x, v, ilo, ihi, fx⟩) rfl gV
    have HBV : Hid (Below wr.heap.size wr V) := bl_next HB3.out hbV
    have HZV : Hid (CzAt V W2.heap.size (.slice oa (cl (vs.take k)).length oc) (cl (vs.take k)) us) := HZ2.out.below hbV
    have HOV : Hid (V.ownsRow W2.heap.size 3 1 (.slice ha2 fx.length hc2) fx.length (fx.map (.int .i64))) := own_bl HO2.out hbV
    try rw [hV]
    clear hV hbV gV hHeld
    have hHeld := (⟨HHeld.out _ HBV.out, trivial⟩ : _ ∧ True)
    refine hK.out _ _ ⟨hHeld.1, fun _ => trivial⟩ ?_
    clear hK K
    refine wpAnyT_late (i := 12) (o := ⟨some 44, .call { callee := .builtin .append, args := #[(.tmp 32), (.tmp 43)], argTypes := #[33, 33] }, _, _, _, _⟩) (by kernel_rfl) rfl (by kernel_rfl) (fun K hK => ?_)
    refine op_append_src V (.tmp 32) (.tmp 43) 33 44 (.agg #[.int .i64 0, .int .i64 0, .int .i64 0, .int .i64 0, .int .i64 0, .int .i64 0, .slice none 0 0]) 7 72 rfl und33 info44 rfl (by decide) W2.heap.size _ _ (cl (vs.take k)).length 1 (czs (cl (vs.take k)) us) (czs [⟨x, v, ilo, ihi, fx⟩] [.slice ha2 fx.length hc2]) (by rfl) (by rfl) HZV.out.row HSV.out (by unfold maxLen; omega) (by omega) (Nat.le_trans HBr.out.size HBV.out.size) (by rfl) ?_
    intro v4 w4 q1 q2 q3
    have HZ4 : Hid (CzAt w4 W2.heap.size v4 (cl (vs.take (k + 1))) (us ++ [.slice ha2 fx.length hc2])) := by
      show CzAt _ _ _ _ _
      rw [HNk'.out, HCm'.out]
      exact HZV.out.more rfl q1 q2 (fun j h1 h2 => by
        have hj0 : j = 0 := by simpa using h1
        subst hj0
        exact HOV.out)
    have HB5 : Hid (Below W2.heap.size W2 w4) := (bl_next HBr.out HBV.out).grown q2 (Nat.le_trans HBr.out.size HBV.out.size) (fun g hg => (HZV.out.row.lt g hg).1)
    have hk4 := HHeld.out V HBV.out
    obtain ⟨y0, y1⟩ := HGb.out V (bl_next HBw.out HBV.out)
    have hs0 := (Array.getElem?_eq_some_iff.1 y0).1
    have hs1 := (Array.getElem?_eq_some_iff.1 y1).1
    have hnb : (Value.slice oa (cl (vs.take k)).length oc).ownBlock ≠ some b := fun e => by
      have := (HZV.out.row.lt b e).1
      have := HBlt.out
      have := (HWs.out _ HB2.out).size
      omega
    have hc0 := cell_grown q2 hs0 (own_ty HZV.out.row y0 (by decide))
    have hc1 := cell_grown q2 hs1 (own_ty HZV.out.row y1 (by decide))
    have hc2' := cell_grown q2 (Nat.lt_of_lt_of_le HBlt.out (Nat.le_trans (HWs.out _ HBw.out).size HBV.out.size)) hnb
    rw [← hc0, ← hc0, ← hc1, ← hc1, ← hc1, ← hc1, ← hc2', ← hc2', ← hc2', ← hc2', ← hc2', ← hc2', ← hc2'] at hk4
    clear q1 q2 q3 hHeld y0 y1 hs0 hs1 hnb hc0 hc1 hc2'
    refine hK.out _ _ hk4 ?_
    have hHeld := (⟨hk4, trivial⟩ : _ ∧ True)
    clear hK K
    try simp only [Act.put, List.setIfInBounds_toArray, List.set_cons_zero, List.set_cons_succ]
    refine wpAnyT_late (i := 13) (o := ⟨some 10, .assign (.tmp 44), _, _, _, _⟩) (by kernel_rfl) rfl (by kernel_rfl) (fun K hK => ?_)
    go_simp
    refine hK.out _ _ ?shR8c1x13 ?restR8c1x13
    case shR8c1x13 => ((try dsimp only); (first | exact hHeld.1 | skip))
    clear hK K
    try simp only [Act.put, List.setIfInBounds_toArray, List.set_cons_zero, List.set_cons_succ]
    refine wpAnyT_done (by kernel_rfl) ?_ _
    go_wp2_with fail
    go_roundw
    case rel => exact ⟨k + 1, _, by go_num, hkn, HZ4, HB5⟩
    case measure => simp [intOf]; omega
end Go.Proofs.YtemnbcilmbojhaaGreatDoor
