/-
  The book: a list of texts is kept.
-/
import Derived.Test.YtpmiplhbppmboaaDoorBkReg
import Derived.RangeFuncRecord
namespace Go.Proofs.YtpmiplhbppmboaaDoor
open Go Go.RowKit Go.Lib

theorem und25' : Tryd.prog.underlying 25 = some (.slice 41) := by kernel_rfl
theorem und24' : Tryd.prog.underlying 24 = some (.slice 3) := by kernel_rfl
theorem und41' : Tryd.prog.underlying 41 = some (.slice 9) := by kernel_rfl
theorem info41' : (Tryd.prog.info? 41).map (fun i => (i.zero, i.size, i.bytes)) = some (some (.slice none 0 0), 1, 24) := by kernel_rfl
theorem info3' : (Tryd.prog.info? 3).map (fun i => (i.zero, i.size, i.bytes)) = some (some (.int .i64 0), 1, 8) := by kernel_rfl
theorem info9' : (Tryd.prog.info? 9).map (fun i => (i.zero, i.size, i.bytes)) = some (some (.string ⟨#[]⟩), 1, 16) := by kernel_rfl
theorem own_nil (w : World) (base e : Nat) : w.ownsRow base e 1 (.slice none 0 0) 0 [] := ⟨rfl, .inl ⟨rfl, rfl⟩⟩

/-- What Texts has noted, when it comes to its end. -/
structure Noted (w : World) (P : Nat) (bad : Bool) (turn : Int) (t : Tx) (lv : Value) (ls : List Value) (mark due seen : Int) (w' : World) (t' : Tx) (cv : Value) : Prop where
  book : BkAt w' P bad turn 1 t'
  same : t'.out = t.out ∧ t'.told = t.told ∧ t'.fresh = t.fresh ∧ t'.from_ = t.from_ ∧ t'.seen = .int .i64 seen
  waits : w'.ownsRow w.heap.size 41 1 t'.waits 1 [lv]
  note : w'.ownsRow w.heap.size 41 1 t'.note 1 [cv]
  copy : w'.ownsRow w.heap.size 9 1 cv ls.length ls
  mark : w'.ownsRow w.heap.size 3 1 t'.mark 1 [.int .i64 mark]
  due : w'.ownsRow w.heap.size 3 1 t'.due 1 [.int .i64 due]
  rest : Off (fun k => k = P) w w'

theorem below_none {w w' : World} (h : w.grownBy w' none) : RowKit.Below w.heap.size w w' := ⟨h.os, h.tape, h.output, h.size, fun k hk => h.block k hk (by simp)⟩
/-- The book as it stands while a call is under way. -/
structure At1 (w : World) (P : Nat) (bad : Bool) (turn : Int) (t : Tx) (w' : World) : Prop where
  book : BkAt w' P bad turn 1 t
  rest : Off (fun k => k = P) w w'
theorem At1.below {w : World} {P : Nat} {bad : Bool} {turn : Int} {t : Tx} {w' w2 : World} (h : At1 w P bad turn t w') (hb : RowKit.Below w'.heap.size w' w2) : At1 w P bad turn t w2 := ⟨h.book.below hb, h.rest.trans (Off.of_below hb)⟩
theorem At1.set {w : World} {P : Nat} {bad : Bool} {turn : Int} {t t' : Tx} {w' : World} (h : At1 w P bad turn t w') (i : Nat) (v : Value) (e : (bookCs bad turn 1 t).setIfInBounds i v = bookCs bad turn 1 t') : At1 w P bad turn t' (w'.setCell ⟨P, i, none⟩ v) := ⟨h.book.set i v e, h.rest.trans (Off.set _ rfl)⟩
theorem own_set {w : World} {P B e : Nat} {v : Value} {n : Nat} {xs : List Value} (h : w.ownsRow B e 1 v n xs) (hP : P < B) (i : Nat) (u : Value) : (w.setCell ⟨P, i, none⟩ u).ownsRow B e 1 v n xs := own_off (S := fun k => k = P) h (fun g hg e => by have := (h.lt g hg).1; omega) (Off.set _ rfl)
theorem At1.grown {w : World} {P : Nat} {bad : Bool} {turn : Int} {t : Tx} {w' w2 : World} {r : Option Nat} (h : At1 w P bad turn t w') (hP : P < w.heap.size) (hg : w'.grownBy w2 r) (hr : ∀ g, r = some g → w.heap.size ≤ g) : At1 w P bad turn t w2 :=
  ⟨(hg.block _ (Array.getElem?_eq_some_iff.1 h.book).1 (fun e => by have := hr P e.symm; omega)).trans h.book, hg.os.trans h.rest.os, hg.tape.trans h.rest.tape, hg.output.trans h.rest.output, Nat.le_trans h.rest.size hg.size, fun k hk hS => (hg.block k (Nat.lt_of_lt_of_le hk h.rest.size) (fun e => by have := hr k e.symm; omega)).trans (h.rest.block k hk hS)⟩
theorem own_grown {w w' : World} {B e : Nat} {v : Value} {n : Nat} {xs : List Value} {r : Option Nat} (h : w.ownsRow B e 1 v n xs) (hg : w.grownBy w' r) (hr : ∀ g, r = some g → v.ownBlock ≠ some g) : w'.ownsRow B e 1 v n xs := own_off (S := fun k => r = some k) h (fun g hv hS => hr g hS hv) ⟨hg.os, hg.tape, hg.output, hg.size, fun k hk hS => hg.block k hk (fun e => hS e.symm)⟩
theorem own_next {w w' : World} {B e : Nat} {v : Value} {n : Nat} {xs : List Value} (h : w.ownsRow B e 1 v n xs) (hb : RowKit.Below w.heap.size w w') : w'.ownsRow B e 1 v n xs := own_off (S := fun _ => False) h (fun _ _ f => f) ⟨hb.os, hb.tape, hb.output, hb.size, fun k hk _ => hb.block k hk⟩

set_option maxRecDepth 100000 in
set_option maxHeartbeats 8000000 in
theorem texts_any (P : Nat) (bad : Bool) (turn : Int) (t : Tx) (w : World) (la : Option Addr) (ln lc : Nat) (ls : List Value) (mark seen d : Int) (h : BkAt w P bad turn 0 t) (h2 : t.waits = .slice none 0 0) (h3 : t.note = .slice none 0 0) (h5 : t.mark = .slice none 0 0) (h6 : t.due = .slice none 0 0) (h8 : t.seen = .int .i64 seen) (hs : 0 ≤ seen ∧ seen ≤ 1000)
    (hl : ∀ w', Off (fun k => k = P ∨ w.heap.size ≤ k) w w' → SrcAt w' (.slice la ln lc) ls.length 1 ls) (hn : ls.length ≤ 1000000) (Q : Ending → World → Prop)
    (hdue : ∀ w' t', BkAt w' P bad turn 1 t' → Calls Tryd.prog 10 #[.pointer (some ⟨P, 0, none⟩), .int .i64 seen] w' fun e w'' => e = .returned (.int .i64 d) ∧ w'' = w')
    (hD : ∀ w' t' cv, Noted w P bad turn t (.slice la ln lc) ls mark d (seen + 1) w' t' cv → Calls Tryd.prog 11 #[.pointer (some ⟨P, 0, none⟩)] w' fun e w'' => e = .returned (.tuple #[]) ∧ Q e w'') :
    Calls Tryd.prog 6 #[.pointer (some ⟨P, 0, none⟩), .slice la ln lc, .int .i64 mark] w fun e w' => e = .returned (.tuple #[]) ∧ Q e w' := by
  have HPl : Hid (P < w.heap.size) := (Array.getElem?_eq_some_iff.1 h).1
  have k3 := h.cell 3 (.int .i64 0) rfl
  have f3 := h.free 3
  obtain ⟨W0, hW0⟩ : ∃ W, w.setCell ⟨P, 3, none⟩ (.int .i64 1) = W := ⟨_, rfl⟩
  have h0 : BkAt W0 P bad turn 1 t := by rw [← hW0]; exact h.set 3 _ rfl
  have o0 : Off (fun k => k = P) w W0 := by rw [← hW0]; exact Off.set _ rfl
  have HW0 : Hid (w.setCell ⟨P, 3, none⟩ (.int .i64 1) = W0) := hW0
  have H0 : Hid (BkAt W0 P bad turn 1 t ∧ Off (fun k => k = P) w W0) := ⟨h0, o0⟩
  have q15 := h0.cell 15 (.slice none 0 0) (by rw [← h2]; rfl)
  have f15 := h0.free 15
  obtain ⟨V1, hV1⟩ : ∃ V, W0.alloc (.cells #[.slice la ln lc] 41) = V := ⟨_, rfl⟩
  have hb1 : RowKit.Below W0.heap.size W0 V1 := by rw [← hV1]; exact (Below.refl _ _).alloc (Nat.le_refl _) _
  have hO1 : V1.heap[W0.heap.size]? = some (.cells #[.slice la ln lc] 41) := by rw [← hV1]; exact World.alloc_heap_new W0 _
  have H1 : Hid (BkAt V1 P bad turn 1 t ∧ Off (fun k => k = P) w V1 ∧ SrcAt V1 (.slice (some ⟨W0.heap.size, 0, none⟩) 1 1) 1 1 [.slice la ln lc] ∧ w.heap.size ≤ V1.heap.size) := ⟨h0.below hb1, o0.trans (Off.of_below hb1), src_one hO1 rfl, (o0.trans (Off.of_below hb1)).size⟩
  clear h h0 o0 hb1 hO1
  go_enter Tryd.func6, Tryd.ntmps6
  have HA1 : Hid (At1 w P bad turn t V1 ∧ SrcAt V1 (.slice (some ⟨W0.heap.size, 0, none⟩) 1 1) 1 1 [.slice la ln lc]) := ⟨⟨H1.out.1, H1.out.2.1⟩, H1.out.2.2.1⟩
  go_wp2_with (first | (at_builtin; first | rw [hV1] | skip); (go_loud (refine append_src V1 rfl (.tmp 17) (.tmp 19) 25 41 (.slice none 0 0) 1 24 rfl und25' info41' rfl (by decide) w.heap.size _ _ 0 1 [] _ (by rfl) (by rfl) (own_nil _ _ _) H1.out.2.2.1 (by unfold maxLen; omega) (by omega) H1.out.2.2.2 ?_; intro v1 w1 g1 g2 _; have hb2 := below_none g2; have HA2 : Hid (At1 w P bad turn t w1) := HA1.out.1.below hb2; have HR1 : Hid (w1.ownsRow w.heap.size 41 1 v1 1 [.slice la ln lc]) := g1; have r15 : w1.cell? ⟨P, 15, none⟩ = some (.slice none 0 0) := (HA2.out.book.cell 15 t.waits rfl).trans (congrArg some h2); have s15 := HA2.out.book.free 15; obtain ⟨W1, hW1⟩ : ∃ W, w1.setCell ⟨P, 15, none⟩ v1 = W := ⟨_, rfl⟩; have HA3 : Hid (At1 w P bad turn { t with waits := v1 } W1) := hW1 ▸ HA2.out.set 15 v1 rfl; have HR1 : Hid (W1.ownsRow w.heap.size 41 1 v1 1 [.slice la ln lc]) := hW1 ▸ own_set HR1.out HPl.out 15 _; obtain ⟨av, cv1, hv1⟩ := own_form HR1.out; subst hv1; clear g1 g2 hb2)))
  have HAu : Hid (At1 w P bad turn { t with waits := .slice av 1 cv1 } W1.drew) := HA3.out.below (Below.refl _ _).drew
  have HRu : Hid (W1.drew.ownsRow w.heap.size 41 1 (.slice av 1 cv1) 1 [.slice la ln lc]) := own_next HR1.out (Below.refl _ _).drew
  have HC : Hid (∀ w', At1 w P bad turn { t with waits := .slice av 1 cv1 } w' → w'.cell? ⟨P, 16, none⟩ = some (.slice none 0 0)) := fun w' h => (h.book.cell 16 t.note rfl).trans (congrArg some h3)
  refine wp_region_T (fun _ => True) (fun w' => w'.cell? ⟨P, 16, none⟩ = some (.slice none 0 0)) [12] (by kernel_rfl) ⟨trivial, HC.out _ HAu.out⟩ (fun hHeld => ?_)
  clear r15 s15 HA2 HA3 HR1
  generalize W1.drew = U at HAu HRu hHeld ⊢
  refine wpAnyT_takeB (i := 0) (oi := ⟨some 23, .move (.tmp 0), _, _, _, _⟩) (v := ?vR2c1x0) rfl (by kernel_rfl) (by kernel_rfl) (by kernel_rfl) (by kernel_rfl) (fun _ _ _ h => h) (Or.inl ⟨by rfl, ?hyR2c1x0⟩) (by assumption) ?restR2c1x0
  case hyR2c1x0 => (intro w hSw; (try dsimp only at hSw); go_simp; try (with_reducible rfl))
  try simp only [Act.put, List.setIfInBounds_toArray, List.set_cons_zero, List.set_cons_succ]
  refine wpAnyT_takeB (i := 1) (oi := ⟨some 24, .move (.tmp 0), _, _, _, _⟩) (v := ?vR2c1x1) rfl (by kernel_rfl) (by kernel_rfl) (by kernel_rfl) (by kernel_rfl) (fun _ _ _ h => h) (Or.inl ⟨by rfl, ?hyR2c1x1⟩) (by assumption) ?restR2c1x1
  case hyR2c1x1 => (intro w hSw; (try dsimp only at hSw); go_simp; try (with_reducible rfl))
  try simp only [Act.put, List.setIfInBounds_toArray, List.set_cons_zero, List.set_cons_succ]
  refine wpAnyT_takeB (i := 2) (oi := ⟨some 25, .nilCheck (.tmp 24), _, _, _, _⟩) (v := ?vR2c1x2) rfl (by kernel_rfl) (by kernel_rfl) (by kernel_rfl) (by kernel_rfl) (fun _ _ _ h => h) (Or.inl ⟨by rfl, ?hyR2c1x2⟩) (by assumption) ?restR2c1x2
  case hyR2c1x2 => (intro w hSw; (try dsimp only at hSw); go_simp; try (with_reducible rfl))
  try simp only [Act.put, List.setIfInBounds_toArray, List.set_cons_zero, List.set_cons_succ]
  refine wpAnyT_takeB (i := 3) (oi := ⟨some 26, .fieldAddr 40 (.tmp 25) 16, _, _, _, _⟩) (v := ?vR2c1x3) rfl (by kernel_rfl) (by kernel_rfl) (by kernel_rfl) (by kernel_rfl) (fun _ _ _ h => h) (Or.inl ⟨by rfl, ?hyR2c1x3⟩) (by assumption) ?restR2c1x3
  case hyR2c1x3 => (intro w hSw; (try dsimp only at hSw); go_simp; try (with_reducible rfl))
  try simp only [Act.put, List.setIfInBounds_toArray, List.set_cons_zero, List.set_cons_succ]
  refine wpAnyT_take (i := 4) (oi := ⟨some 27, .load 25 (.tmp 26), _, _, _, _⟩) (v := ?vR2c1x4) rfl (by kernel_rfl) (by kernel_rfl) (by kernel_rfl) (by kernel_rfl) (by kernel_rfl) (fun _ _ _ h => h) (Or.inl ⟨by rfl, ?hyR2c1x4⟩) (by assumption) ?restR2c1x4
  case hyR2c1x4 => (intro w hSw; (try dsimp only at hSw); go_simp; try (with_reducible rfl))
  try simp only [Act.put, List.setIfInBounds_toArray, List.set_cons_zero, List.set_cons_succ]
  refine wpAnyT_takeB (i := 6) (oi := ⟨some 29, .move (.tmp 1), _, _, _, _⟩) (v := ?vR2c1x6) rfl (by kernel_rfl) (by kernel_rfl) (by kernel_rfl) (by kernel_rfl) (fun _ _ _ h => h) (Or.inl ⟨by rfl, ?hyR2c1x6⟩) (by assumption) ?restR2c1x6
  case hyR2c1x6 => (intro w hSw; (try dsimp only at hSw); go_simp; try (with_reducible rfl))
  try simp only [Act.put, List.setIfInBounds_toArray, List.set_cons_zero, List.set_cons_succ]
  refine wpAnyT_one (i := 5) (o := ⟨some 28, .buildSlice 41 0 #[], _, _, _, _⟩) (by kernel_rfl) rfl (fun K hK => ?_)
  go_simp
  obtain ⟨Ua, hUa⟩ : ∃ V, U.alloc (.cells #[] 9) = V := ⟨_, rfl⟩
  have hb : RowKit.Below U.heap.size U Ua := by rw [← hUa]; exact (Below.refl _ _).alloc (Nat.le_refl _) _
  have hO : Ua.heap[U.heap.size]? = some (.cells #[] 9) := by rw [← hUa]; exact World.alloc_heap_new U _
  rw [hUa]
  have HAa : Hid (At1 w P bad turn { t with waits := .slice av 1 cv1 } Ua) := HAu.out.below hb
  have HRa : Hid (Ua.ownsRow w.heap.size 41 1 (.slice av 1 cv1) 1 [.slice la ln lc] ∧ (Value.slice av 1 cv1).ownBlock ≠ some U.heap.size) := ⟨own_next HRu.out hb, fun e => by have := (HRu.out.lt _ e).2; omega⟩
  have HZ : Hid (Ua.ownsRow w.heap.size 9 1 (.slice (some ⟨U.heap.size, 0, none⟩) 0 0) 0 []) := ⟨rfl, .inr ⟨U.heap.size, 0, #[], rfl, HAu.out.rest.size, hO, Nat.le_refl _, Nat.zero_le _, rfl, rfl⟩⟩
  have HSr : Hid (SrcAt Ua (.slice la ln lc) ls.length 1 ls) := hl Ua (HAa.out.rest.less (fun k hk => .inl hk))
  clear hO hb hUa
  refine hK.out _ _ ⟨trivial, fun _ => HC.out _ HAa.out⟩ ?_
  have hHeld := (⟨trivial, HC.out _ HAa.out⟩ : True ∧ _)
  clear hK K
  try simp only [Act.put, List.setIfInBounds_toArray, List.set_cons_zero, List.set_cons_succ]
  refine wpAnyT_one (i := 7) (o := ⟨some 30, .call { callee := .builtin .append, args := #[(.tmp 28), (.tmp 29)], argTypes := #[41, 41] }, _, _, _, _⟩) (by kernel_rfl) rfl (fun K hK => ?_)
  refine op_append_src Ua (.tmp 28) (.tmp 29) 41 9 (.string ⟨#[]⟩) 1 16 rfl und41' info9' rfl (by decide) w.heap.size _ _ 0 ls.length [] ls (by rfl) (by rfl) HZ.out HSr.out (by unfold maxLen; omega) (by omega) HAa.out.rest.size (by rfl) ?_
  intro v2 w2 g1 g2 _
  have HAb : Hid (At1 w P bad turn { t with waits := .slice av 1 cv1 } w2) := HAa.out.grown HPl.out g2 (fun g e => by injection e with e; subst e; exact HAu.out.rest.size)
  have HRb : Hid (w2.ownsRow w.heap.size 41 1 (.slice av 1 cv1) 1 [.slice la ln lc]) := own_grown HRa.out.1 g2 (fun g e => by injection e with e; subst e; exact HRa.out.2)
  obtain ⟨a2, c2, hv2⟩ := own_form g1
  rw [Nat.zero_add, List.nil_append] at g1
  rw [Nat.zero_add] at hv2
  subst hv2
  have HCp : Hid (w2.ownsRow w.heap.size 9 1 (.slice a2 ls.length c2) ls.length ls) := g1
  clear g1 g2
  refine hK.out _ _ ⟨trivial, fun _ => HC.out _ HAb.out⟩ ?_
  have hHeld := (⟨trivial, HC.out _ HAb.out⟩ : True ∧ _)
  clear hK K
  try simp only [Act.put, List.setIfInBounds_toArray, List.set_cons_zero, List.set_cons_succ]
  refine wpAnyT_one (i := 8) (o := ⟨some 31, .buildSlice 25 1 #[(0, (.tmp 30))], _, _, _, _⟩) (by kernel_rfl) rfl (fun K hK => ?_)
  go_simp
  obtain ⟨V3, hV3⟩ : ∃ V, w2.alloc (.cells #[.slice a2 ls.length c2] 41) = V := ⟨_, rfl⟩
  have hb : RowKit.Below w2.heap.size w2 V3 := by rw [← hV3]; exact (Below.refl _ _).alloc (Nat.le_refl _) _
  have hO : V3.heap[w2.heap.size]? = some (.cells #[.slice a2 ls.length c2] 41) := by rw [← hV3]; exact World.alloc_heap_new w2 _
  rw [hV3]
  have HAc : Hid (At1 w P bad turn { t with waits := .slice av 1 cv1 } V3) := HAb.out.below hb
  have HRc : Hid (V3.ownsRow w.heap.size 41 1 (.slice av 1 cv1) 1 [.slice la ln lc] ∧ V3.ownsRow w.heap.size 9 1 (.slice a2 ls.length c2) ls.length ls) := ⟨own_next HRb.out hb, own_next HCp.out hb⟩
  have HSc : Hid (SrcAt V3 (.slice (some ⟨w2.heap.size, 0, none⟩) 1 1) 1 1 [.slice a2 ls.length c2]) := src_one hO rfl
  clear hb hO hV3
  refine hK.out _ _ ⟨trivial, fun _ => HC.out _ HAc.out⟩ ?_
  have hHeld := (⟨trivial, HC.out _ HAc.out⟩ : True ∧ _)
  clear hK K
  try simp only [Act.put, List.setIfInBounds_toArray, List.set_cons_zero, List.set_cons_succ]
  refine wpAnyT_one (i := 9) (o := ⟨some 32, .call { callee := .builtin .append, args := #[(.tmp 27), (.tmp 31)], argTypes := #[25, 25] }, _, _, _, _⟩) (by kernel_rfl) rfl (fun K hK => ?_)
  refine op_append_src V3 (.tmp 27) (.tmp 31) 25 41 (.slice none 0 0) 1 24 rfl und25' info41' rfl (by decide) w.heap.size _ _ 0 1 [] _ (by rfl) (by rfl) (own_nil _ _ _) HSc.out (by unfold maxLen; omega) (by omega) HAc.out.rest.size (by rfl) ?_
  intro v3 w3 g1 g2 _
  have hb := below_none g2
  have HAd : Hid (At1 w P bad turn { t with waits := .slice av 1 cv1 } w3) := HAc.out.below hb
  have HRd : Hid (w3.ownsRow w.heap.size 41 1 (.slice av 1 cv1) 1 [.slice la ln lc] ∧ w3.ownsRow w.heap.size 9 1 (.slice a2 ls.length c2) ls.length ls ∧ w3.ownsRow w.heap.size 41 1 v3 1 [.slice a2 ls.length c2]) := ⟨own_next HRc.out.1 hb, own_next HRc.out.2 hb, g1⟩
  obtain ⟨a3, c3, hv3⟩ := own_form g1
  rw [Nat.zero_add] at hv3
  subst hv3
  clear g1 g2 hb
  refine hK.out _ _ ⟨trivial, fun _ => HC.out _ HAd.out⟩ ?_
  have hHeld := (⟨trivial, HC.out _ HAd.out⟩ : True ∧ _)
  clear hK K
  try simp only [Act.put, List.setIfInBounds_toArray, List.set_cons_zero, List.set_cons_succ]
  refine wpAnyT_takeB (i := 10) (oi := ⟨some 33, .nilCheck (.tmp 23), _, _, _, _⟩) (v := ?vR2c1x10) rfl (by kernel_rfl) (by kernel_rfl) (by kernel_rfl) (by kernel_rfl) (fun _ _ _ h => h) (Or.inl ⟨by rfl, ?hyR2c1x10⟩) (by assumption) ?restR2c1x10
  case hyR2c1x10 => (intro w hSw; (try dsimp only at hSw); go_simp; try (with_reducible rfl))
  try simp only [Act.put, List.setIfInBounds_toArray, List.set_cons_zero, List.set_cons_succ]
  refine wpAnyT_takeB (i := 11) (oi := ⟨some 34, .fieldAddr 40 (.tmp 33) 16, _, _, _, _⟩) (v := ?vR2c1x11) rfl (by kernel_rfl) (by kernel_rfl) (by kernel_rfl) (by kernel_rfl) (fun _ _ _ h => h) (Or.inl ⟨by rfl, ?hyR2c1x11⟩) (by assumption) ?restR2c1x11
  case hyR2c1x11 => (intro w hSw; (try dsimp only at hSw); go_simp; try (with_reducible rfl))
  try simp only [Act.put, List.setIfInBounds_toArray, List.set_cons_zero, List.set_cons_succ]
  have r16 := HC.out _ HAd.out
  have s16 := HAd.out.book.free 16
  obtain ⟨W3, hW3⟩ : ∃ W, w3.setCell ⟨P, 16, none⟩ (.slice a3 1 c3) = W := ⟨_, rfl⟩
  have HAe : Hid (At1 w P bad turn { t with waits := .slice av 1 cv1, note := .slice a3 1 c3 } W3) := hW3 ▸ HAd.out.set 16 _ rfl
  have HRe : Hid (W3.ownsRow w.heap.size 41 1 (.slice av 1 cv1) 1 [.slice la ln lc] ∧ W3.ownsRow w.heap.size 9 1 (.slice a2 ls.length c2) ls.length ls ∧ W3.ownsRow w.heap.size 41 1 (.slice a3 1 c3) 1 [.slice a2 ls.length c2]) := ⟨hW3 ▸ own_set HRd.out.1 HPl.out 16 _, hW3 ▸ own_set HRd.out.2.1 HPl.out 16 _, hW3 ▸ own_set HRd.out.2.2 HPl.out 16 _⟩
  refine wpAnyT_late (i := 12) (o := ⟨none, .store 25 (.tmp 34) (.tmp 32), _, _, _, _⟩) (by kernel_rfl) rfl (by kernel_rfl) (fun Kq hK => ?_)
  go_simp
  try rw [hW3]
  refine hK.out _ _ trivial ?_
  clear hK Kq r16 s16 HAd HRd HAc HRc HSc HAb HRb HCp HAa HRa HZ HSr HAu HRu HC hHeld hW3
  try simp only [Act.put, List.setIfInBounds_toArray, List.set_cons_zero, List.set_cons_succ]
  refine wpAnyT_done (by kernel_rfl) ?_ _
  have t18 : W3.cell? ⟨P, 18, none⟩ = some (.slice none 0 0) := (HAe.out.book.cell 18 t.mark rfl).trans (congrArg some h5)
  have u18 := HAe.out.book.free 18
  obtain ⟨V4, hV4⟩ : ∃ V, W3.alloc (.cells #[.int .i64 mark] 3) = V := ⟨_, rfl⟩
  have hb4 : RowKit.Below W3.heap.size W3 V4 := by rw [← hV4]; exact (Below.refl _ _).alloc (Nat.le_refl _) _
  have HS4 : Hid (SrcAt V4 (.slice (some ⟨W3.heap.size, 0, none⟩) 1 1) 1 1 [.int .i64 mark]) := src_one (t := 3) (by rw [← hV4]; exact World.alloc_heap_new W3 _) rfl
  have HA4 : Hid (At1 w P bad turn { t with waits := .slice av 1 cv1, note := .slice a3 1 c3 } V4) := HAe.out.below hb4
  have HR4 : Hid (V4.ownsRow w.heap.size 41 1 (.slice av 1 cv1) 1 [.slice la ln lc] ∧ V4.ownsRow w.heap.size 9 1 (.slice a2 ls.length c2) ls.length ls ∧ V4.ownsRow w.heap.size 41 1 (.slice a3 1 c3) 1 [.slice a2 ls.length c2]) := ⟨own_next HRe.out.1 hb4, own_next HRe.out.2.1 hb4, own_next HRe.out.2.2 hb4⟩
  clear hb4
  go_wp2_with (first | (at_builtin; first | rw [hV4] | skip); (refine append_src V4 rfl (.tmp 39) (.tmp 41) 24 3 (.int .i64 0) 1 8 rfl und24' info3' rfl (by decide) w.heap.size _ _ 0 1 [] _ (by rfl) (by rfl) (own_nil _ _ _) HS4.out (by unfold maxLen; omega) (by omega) HA4.out.rest.size ?_; intro v5 w5 g1 g2 _; have hb := below_none g2; have HA5 : Hid (At1 w P bad turn { t with waits := .slice av 1 cv1, note := .slice a3 1 c3 } w5) := HA4.out.below hb; have HR5 : Hid (w5.ownsRow w.heap.size 41 1 (.slice av 1 cv1) 1 [.slice la ln lc] ∧ w5.ownsRow w.heap.size 9 1 (.slice a2 ls.length c2) ls.length ls ∧ w5.ownsRow w.heap.size 41 1 (.slice a3 1 c3) 1 [.slice a2 ls.length c2]) := ⟨own_next HR4.out.1 hb, own_next HR4.out.2.1 hb, own_next HR4.out.2.2 hb⟩; have HM5 : Hid (w5.ownsRow w.heap.size 3 1 v5 1 [.int .i64 mark]) := g1; have r18 : w5.cell? ⟨P, 18, none⟩ = some (.slice none 0 0) := (HA5.out.book.cell 18 t.mark rfl).trans (congrArg some h5); have s18 := HA5.out.book.free 18; obtain ⟨W5, hW5⟩ : ∃ W, w5.setCell ⟨P, 18, none⟩ v5 = W := ⟨_, rfl⟩; obtain ⟨a5, c5, hv5⟩ := own_form HM5.out; subst hv5; have HA6 : Hid (At1 w P bad turn { t with waits := .slice av 1 cv1, note := .slice a3 1 c3, mark := .slice a5 1 c5 } W5) := hW5 ▸ HA5.out.set 18 _ rfl; have HR6 : Hid (W5.ownsRow w.heap.size 41 1 (.slice av 1 cv1) 1 [.slice la ln lc] ∧ W5.ownsRow w.heap.size 9 1 (.slice a2 ls.length c2) ls.length ls ∧ W5.ownsRow w.heap.size 41 1 (.slice a3 1 c3) 1 [.slice a2 ls.length c2]) := ⟨hW5 ▸ own_set HR5.out.1 HPl.out 18 _, hW5 ▸ own_set HR5.out.2.1 HPl.out 18 _, hW5 ▸ own_set HR5.out.2.2 HPl.out 18 _⟩; have HM6 : Hid (W5.ownsRow w.heap.size 3 1 (.slice a5 1 c5) 1 [.int .i64 mark]) := hW5 ▸ own_set HM5.out HPl.out 18 _; clear g1 g2 hb))
  have HAu : Hid (At1 w P bad turn { t with waits := .slice av 1 cv1, note := .slice a3 1 c3, mark := .slice a5 1 c5 } W5.drew) := HA6.out.below (Below.refl _ _).drew
  have HRu : Hid ((W5.drew.ownsRow w.heap.size 41 1 (.slice av 1 cv1) 1 [.slice la ln lc] ∧ W5.drew.ownsRow w.heap.size 9 1 (.slice a2 ls.length c2) ls.length ls ∧ W5.drew.ownsRow w.heap.size 41 1 (.slice a3 1 c3) 1 [.slice a2 ls.length c2]) ∧ W5.drew.ownsRow w.heap.size 3 1 (.slice a5 1 c5) 1 [.int .i64 mark]) := ⟨⟨own_next HR6.out.1 (Below.refl _ _).drew, own_next HR6.out.2.1 (Below.refl _ _).drew, own_next HR6.out.2.2 (Below.refl _ _).drew⟩, own_next HM6.out (Below.refl _ _).drew⟩
  have HC : Hid (∀ w', At1 w P bad turn { t with waits := .slice av 1 cv1, note := .slice a3 1 c3, mark := .slice a5 1 c5 } w' → w'.cell? ⟨P, 19, none⟩ = some (.slice none 0 0)) := fun w' h => (h.book.cell 19 t.due rfl).trans (congrArg some h6)
  have HC2 : Hid (∀ w', At1 w P bad turn { t with waits := .slice av 1 cv1, note := .slice a3 1 c3, mark := .slice a5 1 c5 } w' → w'.cell? ⟨P, 21, none⟩ = some (.int .i64 seen)) := fun w' h => (h.book.cell 21 t.seen rfl).trans (congrArg some h8)
  refine wp_region_T (fun w' => w'.cell? ⟨P, 21, none⟩ = some (.int .i64 seen)) (fun w' => w'.cell? ⟨P, 19, none⟩ = some (.slice none 0 0)) [15] (by kernel_rfl) ⟨HC2.out _ HAu.out, HC.out _ HAu.out⟩ (fun hHeld => ?_)
  clear r18 s18 t18 u18 HA6 HR6 HM6 HA5 HR5 HM5 HA4 HR4 HS4 HAe HRe
  generalize W5.drew = U5 at HAu HRu hHeld ⊢
  refine wpAnyT_takeB (i := 0) (oi := ⟨some 45, .move (.tmp 0), _, _, _, _⟩) (v := ?vR4c2x0) rfl (by kernel_rfl) (by kernel_rfl) (by kernel_rfl) (by kernel_rfl) (fun _ _ _ h => h) (Or.inl ⟨by rfl, ?hyR4c2x0⟩) (by assumption) ?restR4c2x0
  case hyR4c2x0 => (intro w hSw; (try dsimp only at hSw); go_simp; try (with_reducible rfl))
  try simp only [Act.put, List.setIfInBounds_toArray, List.set_cons_zero, List.set_cons_succ]
  refine wpAnyT_takeB (i := 1) (oi := ⟨some 46, .move (.tmp 0), _, _, _, _⟩) (v := ?vR4c2x1) rfl (by kernel_rfl) (by kernel_rfl) (by kernel_rfl) (by kernel_rfl) (fun _ _ _ h => h) (Or.inl ⟨by rfl, ?hyR4c2x1⟩) (by assumption) ?restR4c2x1
  case hyR4c2x1 => (intro w hSw; (try dsimp only at hSw); go_simp; try (with_reducible rfl))
  try simp only [Act.put, List.setIfInBounds_toArray, List.set_cons_zero, List.set_cons_succ]
  refine wpAnyT_takeB (i := 2) (oi := ⟨some 47, .nilCheck (.tmp 46), _, _, _, _⟩) (v := ?vR4c2x2) rfl (by kernel_rfl) (by kernel_rfl) (by kernel_rfl) (by kernel_rfl) (fun _ _ _ h => h) (Or.inl ⟨by rfl, ?hyR4c2x2⟩) (by assumption) ?restR4c2x2
  case hyR4c2x2 => (intro w hSw; (try dsimp only at hSw); go_simp; try (with_reducible rfl))
  try simp only [Act.put, List.setIfInBounds_toArray, List.set_cons_zero, List.set_cons_succ]
  refine wpAnyT_takeB (i := 3) (oi := ⟨some 48, .fieldAddr 40 (.tmp 47) 19, _, _, _, _⟩) (v := ?vR4c2x3) rfl (by kernel_rfl) (by kernel_rfl) (by kernel_rfl) (by kernel_rfl) (fun _ _ _ h => h) (Or.inl ⟨by rfl, ?hyR4c2x3⟩) (by assumption) ?restR4c2x3
  case hyR4c2x3 => (intro w hSw; (try dsimp only at hSw); go_simp; try (with_reducible rfl))
  try simp only [Act.put, List.setIfInBounds_toArray, List.set_cons_zero, List.set_cons_succ]
  refine wpAnyT_take (i := 4) (oi := ⟨some 49, .load 24 (.tmp 48), _, _, _, _⟩) (v := ?vR4c2x4) rfl (by kernel_rfl) (by kernel_rfl) (by kernel_rfl) (by kernel_rfl) (by kernel_rfl) (fun _ _ _ h => h) (Or.inl ⟨by rfl, ?hyR4c2x4⟩) (by assumption) ?restR4c2x4
  case hyR4c2x4 => (intro w hSw; (try dsimp only at hSw); go_simp; try (with_reducible rfl))
  try simp only [Act.put, List.setIfInBounds_toArray, List.set_cons_zero, List.set_cons_succ]
  refine wpAnyT_takeB (i := 5) (oi := ⟨some 50, .move (.tmp 0), _, _, _, _⟩) (v := ?vR4c2x5) rfl (by kernel_rfl) (by kernel_rfl) (by kernel_rfl) (by kernel_rfl) (fun _ _ _ h => h) (Or.inl ⟨by rfl, ?hyR4c2x5⟩) (by assumption) ?restR4c2x5
  case hyR4c2x5 => (intro w hSw; (try dsimp only at hSw); go_simp; try (with_reducible rfl))
  try simp only [Act.put, List.setIfInBounds_toArray, List.set_cons_zero, List.set_cons_succ]
  refine wpAnyT_takeB (i := 6) (oi := ⟨some 51, .move (.tmp 0), _, _, _, _⟩) (v := ?vR4c2x6) rfl (by kernel_rfl) (by kernel_rfl) (by kernel_rfl) (by kernel_rfl) (fun _ _ _ h => h) (Or.inl ⟨by rfl, ?hyR4c2x6⟩) (by assumption) ?restR4c2x6
  case hyR4c2x6 => (intro w hSw; (try dsimp only at hSw); go_simp; try (with_reducible rfl))
  try simp only [Act.put, List.setIfInBounds_toArray, List.set_cons_zero, List.set_cons_succ]
  refine wpAnyT_takeB (i := 7) (oi := ⟨some 52, .nilCheck (.tmp 51), _, _, _, _⟩) (v := ?vR4c2x7) rfl (by kernel_rfl) (by kernel_rfl) (by kernel_rfl) (by kernel_rfl) (fun _ _ _ h => h) (Or.inl ⟨by rfl, ?hyR4c2x7⟩) (by assumption) ?restR4c2x7
  case hyR4c2x7 => (intro w hSw; (try dsimp only at hSw); go_simp; try (with_reducible rfl))
  try simp only [Act.put, List.setIfInBounds_toArray, List.set_cons_zero, List.set_cons_succ]
  refine wpAnyT_takeB (i := 8) (oi := ⟨some 53, .fieldAddr 40 (.tmp 52) 21, _, _, _, _⟩) (v := ?vR4c2x8) rfl (by kernel_rfl) (by kernel_rfl) (by kernel_rfl) (by kernel_rfl) (fun _ _ _ h => h) (Or.inl ⟨by rfl, ?hyR4c2x8⟩) (by assumption) ?restR4c2x8
  case hyR4c2x8 => (intro w hSw; (try dsimp only at hSw); go_simp; try (with_reducible rfl))
  try simp only [Act.put, List.setIfInBounds_toArray, List.set_cons_zero, List.set_cons_succ]
  refine wpAnyT_takeB (i := 9) (oi := ⟨some 54, .load 3 (.tmp 53), _, _, _, _⟩) (v := ?vR4c2x9) rfl (by kernel_rfl) (by kernel_rfl) (by kernel_rfl) (by kernel_rfl) (fun _ _ _ h => h) (Or.inl ⟨by rfl, ?hyR4c2x9⟩) (by assumption) ?restR4c2x9
  case hyR4c2x9 => (intro w hSw; (try dsimp only at hSw); go_simp; try (with_reducible rfl))
  try simp only [Act.put, List.setIfInBounds_toArray, List.set_cons_zero, List.set_cons_succ]
  refine wpAnyT_one (i := 10) (o := ⟨some 55, .call { callee := .value (.func 10), args := #[(.tmp 50), (.tmp 54)], argTypes := #[22, 3] }, _, _, _, _⟩) (by kernel_rfl) rfl (fun K hK => ?_)
  go_simp
  refine calls_at (hdue U5 _ HAu.out.book) (by with_reducible rfl) (by with_reducible rfl) ?_
  rintro e wq ⟨rfl, hww⟩
  rw [hww]
  clear hww
  go_wp2_with fail
  refine hK.out _ _ ⟨HC2.out _ HAu.out, fun _ => HC.out _ HAu.out⟩ ?_
  have hHeld := (⟨HC2.out _ HAu.out, HC.out _ HAu.out⟩ : _ ∧ _)
  clear hK K
  try simp only [Act.put, List.setIfInBounds_toArray, List.set_cons_zero, List.set_cons_succ]
  refine wpAnyT_one (i := 11) (o := ⟨some 56, .buildSlice 24 1 #[(0, (.tmp 55))], _, _, _, _⟩) (by kernel_rfl) rfl (fun K hK => ?_)
  go_simp
  obtain ⟨V6, hV6⟩ : ∃ V, U5.alloc (.cells #[.int .i64 d] 3) = V := ⟨_, rfl⟩
  have hb : RowKit.Below U5.heap.size U5 V6 := by rw [← hV6]; exact (Below.refl _ _).alloc (Nat.le_refl _) _
  have HS6 : Hid (SrcAt V6 (.slice (some ⟨U5.heap.size, 0, none⟩) 1 1) 1 1 [.int .i64 d]) := src_one (t := 3) (by rw [← hV6]; exact World.alloc_heap_new U5 _) rfl
  rw [hV6]
  have HA6 : Hid (At1 w P bad turn { t with waits := .slice av 1 cv1, note := .slice a3 1 c3, mark := .slice a5 1 c5 } V6) := HAu.out.below hb
  have HR6 : Hid ((V6.ownsRow w.heap.size 41 1 (.slice av 1 cv1) 1 [.slice la ln lc] ∧ V6.ownsRow w.heap.size 9 1 (.slice a2 ls.length c2) ls.length ls ∧ V6.ownsRow w.heap.size 41 1 (.slice a3 1 c3) 1 [.slice a2 ls.length c2]) ∧ V6.ownsRow w.heap.size 3 1 (.slice a5 1 c5) 1 [.int .i64 mark]) := ⟨⟨own_next HRu.out.1.1 hb, own_next HRu.out.1.2.1 hb, own_next HRu.out.1.2.2 hb⟩, own_next HRu.out.2 hb⟩
  clear hb hV6
  refine hK.out _ _ ⟨HC2.out _ HA6.out, fun _ => HC.out _ HA6.out⟩ ?_
  have hHeld := (⟨HC2.out _ HA6.out, HC.out _ HA6.out⟩ : _ ∧ _)
  clear hK K
  try simp only [Act.put, List.setIfInBounds_toArray, List.set_cons_zero, List.set_cons_succ]
  refine wpAnyT_one (i := 12) (o := ⟨some 57, .call { callee := .builtin .append, args := #[(.tmp 49), (.tmp 56)], argTypes := #[24, 24] }, _, _, _, _⟩) (by kernel_rfl) rfl (fun K hK => ?_)
  refine op_append_src V6 (.tmp 49) (.tmp 56) 24 3 (.int .i64 0) 1 8 rfl und24' info3' rfl (by decide) w.heap.size _ _ 0 1 [] _ (by rfl) (by rfl) (own_nil _ _ _) HS6.out (by unfold maxLen; omega) (by omega) HA6.out.rest.size (by rfl) ?_
  intro v7 w7 g1 g2 _
  have hb := below_none g2
  have HA7 : Hid (At1 w P bad turn { t with waits := .slice av 1 cv1, note := .slice a3 1 c3, mark := .slice a5 1 c5 } w7) := HA6.out.below hb
  have HR7 : Hid ((w7.ownsRow w.heap.size 41 1 (.slice av 1 cv1) 1 [.slice la ln lc] ∧ w7.ownsRow w.heap.size 9 1 (.slice a2 ls.length c2) ls.length ls ∧ w7.ownsRow w.heap.size 41 1 (.slice a3 1 c3) 1 [.slice a2 ls.length c2]) ∧ w7.ownsRow w.heap.size 3 1 (.slice a5 1 c5) 1 [.int .i64 mark] ∧ w7.ownsRow w.heap.size 3 1 v7 1 [.int .i64 d]) := ⟨⟨own_next HR6.out.1.1 hb, own_next HR6.out.1.2.1 hb, own_next HR6.out.1.2.2 hb⟩, own_next HR6.out.2 hb, g1⟩
  obtain ⟨a6, c6, hv7⟩ := own_form g1
  rw [Nat.zero_add] at hv7
  subst hv7
  clear g1 g2 hb
  refine hK.out _ _ ⟨HC2.out _ HA7.out, fun _ => HC.out _ HA7.out⟩ ?_
  have hHeld := (⟨HC2.out _ HA7.out, HC.out _ HA7.out⟩ : _ ∧ _)
  clear hK K
  try simp only [Act.put, List.setIfInBounds_toArray, List.set_cons_zero, List.set_cons_succ]
  refine wpAnyT_takeB (i := 13) (oi := ⟨some 58, .nilCheck (.tmp 45), _, _, _, _⟩) (v := ?vR4c2x13) rfl (by kernel_rfl) (by kernel_rfl) (by kernel_rfl) (by kernel_rfl) (fun _ _ _ h => h) (Or.inl ⟨by rfl, ?hyR4c2x13⟩) (by assumption) ?restR4c2x13
  case hyR4c2x13 => (intro w hSw; (try dsimp only at hSw); go_simp; try (with_reducible rfl))
  try simp only [Act.put, List.setIfInBounds_toArray, List.set_cons_zero, List.set_cons_succ]
  refine wpAnyT_takeB (i := 14) (oi := ⟨some 59, .fieldAddr 40 (.tmp 58) 19, _, _, _, _⟩) (v := ?vR4c2x14) rfl (by kernel_rfl) (by kernel_rfl) (by kernel_rfl) (by kernel_rfl) (fun _ _ _ h => h) (Or.inl ⟨by rfl, ?hyR4c2x14⟩) (by assumption) ?restR4c2x14
  case hyR4c2x14 => (intro w hSw; (try dsimp only at hSw); go_simp; try (with_reducible rfl))
  try simp only [Act.put, List.setIfInBounds_toArray, List.set_cons_zero, List.set_cons_succ]
  have r19 := HC.out _ HA7.out
  have s19 := HA7.out.book.free 19
  obtain ⟨W7, hW7⟩ : ∃ W, w7.setCell ⟨P, 19, none⟩ (.slice a6 1 c6) = W := ⟨_, rfl⟩
  have HA8 : Hid (At1 w P bad turn { t with waits := .slice av 1 cv1, note := .slice a3 1 c3, mark := .slice a5 1 c5, due := .slice a6 1 c6 } W7) := hW7 ▸ HA7.out.set 19 _ rfl
  have HR8 : Hid ((W7.ownsRow w.heap.size 41 1 (.slice av 1 cv1) 1 [.slice la ln lc] ∧ W7.ownsRow w.heap.size 9 1 (.slice a2 ls.length c2) ls.length ls ∧ W7.ownsRow w.heap.size 41 1 (.slice a3 1 c3) 1 [.slice a2 ls.length c2]) ∧ W7.ownsRow w.heap.size 3 1 (.slice a5 1 c5) 1 [.int .i64 mark] ∧ W7.ownsRow w.heap.size 3 1 (.slice a6 1 c6) 1 [.int .i64 d]) := ⟨⟨hW7 ▸ own_set HR7.out.1.1 HPl.out 19 _, hW7 ▸ own_set HR7.out.1.2.1 HPl.out 19 _, hW7 ▸ own_set HR7.out.1.2.2 HPl.out 19 _⟩, hW7 ▸ own_set HR7.out.2.1 HPl.out 19 _, hW7 ▸ own_set HR7.out.2.2 HPl.out 19 _⟩
  have q21 : W7.cell? ⟨P, 21, none⟩ = some (.int .i64 seen) := (HA8.out.book.cell 21 t.seen rfl).trans (congrArg some h8)
  refine wpAnyT_late (i := 15) (o := ⟨none, .store 24 (.tmp 59) (.tmp 57), _, _, _, _⟩) (by kernel_rfl) rfl (by kernel_rfl) (fun Kq hK => ?_)
  go_simp
  try rw [hW7]
  refine hK.out _ _ q21 ?_
  clear hK Kq r19 s19 HA7 HR7 HA6 HR6 HS6 HAu HRu HC HC2 hHeld hW7
  try simp only [Act.put, List.setIfInBounds_toArray, List.set_cons_zero, List.set_cons_succ]
  refine wpAnyT_done (by kernel_rfl) ?_ _
  have s21 := HA8.out.book.free 21
  have hw : wrap64 (seen + 1) = seen + 1 := by unfold wrap64; omega
  obtain ⟨W9, hW9⟩ : ∃ W, W7.setCell ⟨P, 21, none⟩ (.int .i64 (seen + 1)) = W := ⟨_, rfl⟩
  have HA9 : Hid (At1 w P bad turn { t with waits := .slice av 1 cv1, note := .slice a3 1 c3, mark := .slice a5 1 c5, due := .slice a6 1 c6, seen := .int .i64 (seen + 1) } W9) := hW9 ▸ HA8.out.set 21 _ rfl
  have HNo : Hid (Calls Tryd.prog 11 #[.pointer (some ⟨P, 0, none⟩)] W9 fun e w'' => e = .returned (.tuple #[]) ∧ Q e w'') := hD W9 _ (.slice a2 ls.length c2) ⟨HA9.out.book, ⟨rfl, rfl, rfl, rfl, rfl⟩, hW9 ▸ own_set HR8.out.1.1 HPl.out 21 _, hW9 ▸ own_set HR8.out.1.2.2 HPl.out 21 _, hW9 ▸ own_set HR8.out.1.2.1 HPl.out 21 _, hW9 ▸ own_set HR8.out.2.1 HPl.out 21 _, hW9 ▸ own_set HR8.out.2.2 HPl.out 21 _, HA9.out.rest⟩
  go_wp2_with fail
  refine HNo.out.mono ?_
  rintro e wz ⟨rfl, hq⟩
  have HQ : Hid (Q (.returned (.tuple #[])) wz) := hq
  clear hq
  go_wp2_with fail
  go_end0
  exact ⟨rfl, HQ.out⟩
end Go.Proofs.YtpmiplhbppmboaaDoor
