/-
  Put together: MdLayV, MdLayK, MdLayKW.
-/
import Derived.Test.YtmhfabnpfkkbcaaGreatMdCon4
import Derived.Test.YtmhfabnpfkkbcaaGreatMdVa
import Derived.Test.YtmhfabnpfkkbcaaGreatMdFewM
import Derived.Test.YtmhfabnpfkkbcaaGreatMdMade
namespace Go.Proofs.YtmhfabnpfkkbcaaGreat
open Go.RowKit

/-- Variables, cell by cell. -/
def varCells (l : List Md.Vr) : List Value := l.flatMap fun t => [.string t.name, .int .i64 t.lo, .int .i64 t.hi]
theorem varCells_append (a b : List Md.Vr) : varCells (a ++ b) = varCells a ++ varCells b := by simp [varCells]
theorem varCells_length (l : List Md.Vr) : (varCells l).length = l.length * 3 := by
  induction l with
  | nil => rfl
  | cons t l ih => simp only [varCells, List.flatMap_cons, List.length_append, List.length_cons] at *; rw [ih]; simp; omega
theorem varCells_get (l : List Md.Vr) (k : Nat) (hk : k < l.length) : (varCells l)[k * 3]? = some (.string l[k].name) ∧ (varCells l)[k * 3 + 1]? = some (.int .i64 l[k].lo) ∧ (varCells l)[k * 3 + 2]? = some (.int .i64 l[k].hi) := by
  induction l generalizing k with
  | nil => simp at hk
  | cons t l ih =>
    cases k with
    | zero => exact ⟨rfl, rfl, rfl⟩
    | succ k =>
      have := ih k (by simpa using hk)
      simp only [varCells, List.flatMap_cons, List.getElem_cons_succ] at *
      refine ⟨?_, ?_, ?_⟩
      · rw [List.getElem?_append_right (by simp; omega), ← this.1]; congr 1; simp; omega
      · rw [List.getElem?_append_right (by simp; omega), ← this.2.1]; congr 1; simp; omega
      · rw [List.getElem?_append_right (by simp; omega), ← this.2.2]; congr 1; simp; omega

theorem VarsAt.src {w : World} {v : Value} {l : List Md.Vr} (h : VarsAt w v l) : SrcAt w v l.length 3 (varCells l) := by
  obtain ⟨a, cap, rfl, hm, _, hc⟩ := h
  refine ⟨a, cap, rfl, varCells_length l, fun u hu => ?_, fun ha => ?_, fun ad ha j u hj => ?_⟩
  · simp only [varCells, List.mem_flatMap] at hu
    obtain ⟨t, _, hu⟩ := hu
    simp only [List.mem_cons, List.not_mem_nil, or_false] at hu
    rcases hu with rfl | rfl | rfl <;> rfl
  · rcases Nat.eq_zero_or_pos l.length with h | h
    · exact h
    · obtain ⟨b, off, hb, _⟩ := hc h
      rw [ha] at hb; cases hb
  · have hj' : j < l.length * 3 := by
      obtain ⟨h1, _⟩ := List.getElem?_eq_some_iff.1 hj
      rwa [varCells_length] at h1
    obtain ⟨b, off, hb, hlt, hcell⟩ := hc (by omega)
    rw [ha] at hb
    injection hb with hb
    subst hb
    rw [addr_none]
    have hk : j / 3 < l.length := by omega
    have hg := varCells_get l (j / 3) hk
    have hcl := hcell (j / 3) hk
    have h3 : j % 3 = 0 ∨ j % 3 = 1 ∨ j % 3 = 2 := by omega
    rcases h3 with h0 | h0 | h0
    · have e : j / 3 * 3 = j := by omega
      rw [e] at hg hcl
      rw [hg.1] at hj
      rw [← hj]; exact hcl.1
    · have e : j / 3 * 3 + 1 = j := by omega
      have e2 : off + j / 3 * 3 + 1 = off + j := by omega
      rw [e] at hg
      rw [e2] at hcl
      rw [hg.2.1] at hj
      rw [← hj]; exact hcl.2.1
    · have e : j / 3 * 3 + 2 = j := by omega
      have e2 : off + j / 3 * 3 + 2 = off + j := by omega
      rw [e] at hg
      rw [e2] at hcl
      rw [hg.2.2] at hj
      rw [← hj]; exact hcl.2.2

/-- One element of several cells more: it stands in a new block. -/
theorem append_els {P : Program} {ops : Array Oper} {rest : List Oper} {o : Oper} {a : Act} {Q : Exit → Act → World → Prop} (wr : World) (us : List Value) (size : Nat) (hsz0 : us.length = size) (hsz1 : 0 < size) (hgd : o.guard = none) (s x : Operand) (t e : TypeId) (z : Value) (bytes : Nat)
    (ho : o.op = .call { callee := .builtin .append, args := #[s, x], argTypes := #[t, t] }) (ht : P.underlying t = some (.slice e)) (hinfo : (P.info? e).map (fun i => (i.zero, i.size, i.bytes)) = some (some z, size, bytes)) (hz1 : z.cells.size = size)
    (base : Nat) (v : Value) (n : Nat) (xs : List Value) (hs : a.eval s = v) (hown : wr.ownsRow base e size v n xs) (hu : ∀ u ∈ us, u.oneCell' = true)
    (bk : Nat) (hbk : wr.heap.size = bk) (hx : a.eval x = .slice (some ⟨bk, 0, none⟩) 1 1) (h63 : n + 1 ≤ maxLen) (hbytes : (n + 1) * bytes ≤ 140737488355328) (hbase : base ≤ wr.heap.size)
    (h : ∀ v' w', w'.ownsRow base e size v' (n + 1) (xs ++ us) → (wr.alloc (.cells us.toArray e)).grownBy w' v.ownBlock → (v'.ownBlock = v.ownBlock ∨ v'.ownBlock = some (wr.heap.size + 1)) → wpList P ops Q rest (a.put o.dst v') w') : wpList P ops Q (o :: rest) a (wr.alloc (.cells us.toArray e)) := by
  subst hbk
  obtain ⟨i0, hi, hz0, hz1', hz2⟩ := info_of hinfo
  have hsz : (wr.alloc (.cells us.toArray e)).heap.size = wr.heap.size + 1 := by simp
  refine wpList_append_s _ hgd s x t ho base e i0 z size bytes ht hi hz0 hz1' hz2 hz1 hsz1 v n xs hs (hown.alloc _) ⟨wr.heap.size, 0, none⟩ 1 1 us hx (by rw [hsz0, Nat.one_mul]) ?_ hu h63 hbytes (by rw [hsz]; omega) ?_
  · intro j y hj
    rw [addr_none, Nat.zero_add]
    have hn : (wr.alloc (.cells us.toArray e)).heap[wr.heap.size]? = some (.cells us.toArray e) := heap_alloc_new wr _
    have hj2 : us.toArray[j]? = some y := by rw [List.getElem?_toArray]; exact hj
    simp only [World.cell?, hn, hj2]
    rfl
  · intro v' w' h1 h2 h3
    rw [hsz] at h3
    exact h v' w' h1 h2 h3
theorem append_three {P : Program} {ops : Array Oper} {rest : List Oper} {o : Oper} {a : Act} {Q : Exit → Act → World → Prop} (wr : World) (u1 u2 u3 : Value) (hgd : o.guard = none) (s x : Operand) (t e : TypeId) (z : Value) (bytes : Nat)
    (ho : o.op = .call { callee := .builtin .append, args := #[s, x], argTypes := #[t, t] }) (ht : P.underlying t = some (.slice e)) (hinfo : (P.info? e).map (fun i => (i.zero, i.size, i.bytes)) = some (some z, 3, bytes)) (hz1 : z.cells.size = 3)
    (base : Nat) (v : Value) (n : Nat) (xs : List Value) (hs : a.eval s = v) (hown : wr.ownsRow base e 3 v n xs) (hu1 : u1.oneCell' = true) (hu2 : u2.oneCell' = true) (hu3 : u3.oneCell' = true)
    (bk : Nat) (hbk : wr.heap.size = bk) (hx : a.eval x = .slice (some ⟨bk, 0, none⟩) 1 1) (h63 : n + 1 ≤ maxLen) (hbytes : (n + 1) * bytes ≤ 140737488355328) (hbase : base ≤ wr.heap.size)
    (h : ∀ v' w', w'.ownsRow base e 3 v' (n + 1) (xs ++ [u1, u2, u3]) → (wr.alloc (.cells #[u1, u2, u3] e)).grownBy w' v.ownBlock → (v'.ownBlock = v.ownBlock ∨ v'.ownBlock = some (wr.heap.size + 1)) → wpList P ops Q rest (a.put o.dst v') w') : wpList P ops Q (o :: rest) a (wr.alloc (.cells #[u1, u2, u3] e)) :=
  append_els wr [u1, u2, u3] 3 rfl (by decide) hgd s x t e z bytes ho ht hinfo hz1 base v n xs hs hown (fun u hu => by
    simp only [List.mem_cons, List.not_mem_nil, or_false] at hu
    rcases hu with rfl | rfl | rfl
    · exact hu1
    · exact hu2
    · exact hu3) bk hbk hx h63 hbytes hbase h

theorem und22 : Tryz.prog.underlying 22 = some (.slice 78) := by kernel_rfl
theorem und33 : Tryz.prog.underlying 33 = some (.slice 22) := by kernel_rfl
theorem info78 : (Tryz.prog.info? 78).map (fun i => (i.zero, i.size, i.bytes)) = some (some (.agg #[.string ⟨#[]⟩, .int .i64 0, .int .i64 0]), 3, 32) := by kernel_rfl
theorem info22 : (Tryz.prog.info? 22).map (fun i => (i.zero, i.size, i.bytes)) = some (some (.slice none 0 0), 1, 24) := by kernel_rfl

/-- The cells of a list with its room. -/
def laidVars (l : List Md.Vr) (k : Nat) : List Value := varCells l ++ varCells ((List.range k).map fun j => ⟨⟨#[]⟩, lotI j, 0⟩)
theorem laidVars_next (l : List Md.Vr) (k : Nat) : laidVars l (k + 1) = laidVars l k ++ [.string ⟨#[]⟩, .int .i64 (lotI k), .int .i64 0] := by
  unfold laidVars; rw [List.range_succ, List.map_append, varCells_append]; simp [varCells]

/-- What layVars leaves. -/
structure LaidV (base R : Nat) (S : Lab) (F : Nat → List Value) (w : World) (l : List Md.Vr) (room : Nat) (e : Ending) (w' : World) : Prop where
  out : ∃ b cap S' F', e = .returned (.slice (some ⟨b, 0, none⟩) l.length (l.length + room)) ∧ w.heap.size ≤ b ∧ b < w'.heap.size ∧ S' b = 0 ∧
    RoomAt ety base R S' F' w' ∧ F' 6 = F 6 ++ [.slice (some ⟨b, 0, none⟩) (l.length + room) cap] ∧ F' 7 = F 7 ++ [.int .i64 (l.length : Int)] ∧ (∀ j, j ≠ 6 → j ≠ 7 → F' j = F j) ∧ Agree S S' w w' ∧
    (∀ j u, (laidVars l room)[j]? = some u → w'.cell? ⟨b, j, none⟩ = some u) ∧ ∀ k, k < w.heap.size → 150 ≤ S k → w'.heap[k]? = w.heap[k]?

set_option maxRecDepth 10000 in
set_option maxHeartbeats 2000000 in
theorem layVars_any (base R : Nat) (S : Lab) (F : Nat → List Value) (v : Value) (l : List Md.Vr) (room : Nat) (w : World) (hR : RoomAt ety base R S F w) (hv : VarsAt w v l) (hl : l.length ≤ 100000) (hr0 : 0 < room) (hr : room ≤ 40) (hF0 : (F 6).length ≤ 1000000) (hF1 : (F 7).length ≤ 1000000) :
    Calls Tryz.prog 79 #[.pointer (some ⟨R, 0, none⟩), v, .int .i64 (room : Int)] w (LaidV base R S F w l room) := by
  have HR : Hid (RoomAt ety base R S F w) := hR
  have HV : Hid (VarsAt w v l) := hv
  obtain ⟨a, cap, rfl, hm⟩ := hv.form
  clear hR hv
  have hb0 : Below w.heap.size w (w.alloc (.cells #[] 78)) := (Below.refl _ _).alloc (Nat.le_refl _) _
  have HO : Hid ((w.alloc (.cells #[] 78)).ownsRow w.heap.size 78 3 (.slice (some ⟨w.heap.size, 0, none⟩) 0 0) 0 []) := World.ownsRow_made w #[] 0 (Nat.le_refl _) (by unfold maxLen; omega) rfl
  have HS : Hid (SrcAt (w.alloc (.cells #[] 78)) (.slice a l.length cap) l.length 3 (varCells l)) := (HV.out.below hb0).src
  have HB0 : Hid (Below w.heap.size w (w.alloc (.cells #[] 78))) := hb0
  clear hb0
  go_enter Tryz.func79, Tryz.ntmps79
  go_wp2_with (at_builtin; refine append_src _ rfl (.tmp 10) (.tmp 11) 22 78 (.agg #[.string ⟨#[]⟩, .int .i64 0, .int .i64 0]) 3 32 rfl und22 info78 rfl (by decide) w.heap.size _ _ 0 l.length [] _ (by rfl) (by rfl) HO.out HS.out (by unfold maxLen; omega) (by omega) HB0.out.size ?_; intro v1 w1 ho1 hg1 hn1)
  have HO1 : Hid (w1.ownsRow w.heap.size 78 3 v1 (l.length + 0) (laidVars l 0)) := by
    have : laidVars l 0 = [] ++ varCells l := by simp [laidVars, varCells]
    rw [this]
    rw [Nat.add_comm]; exact ho1
  have HB1 : Hid (Below w.heap.size w w1) := HB0.out.grown hg1 HB0.out.size (fun g hg => by simp [Value.ownBlock] at hg; omega)
  clear ho1 hg1 hn1
  go_loopw [7, 8] (fun fv iv wr => ∃ k : Nat, iv = .int .i64 (k : Int) ∧ k ≤ room ∧ Hid (wr.ownsRow w.heap.size 78 3 fv (l.length + k) (laidVars l k)) ∧ Hid (Below w.heap.size w wr)) (fun _ iv _ => room - (intOf iv).toNat)
  case atStart => exact ⟨0, rfl, Nat.zero_le _, HO1, HB1⟩
  case round =>
    obtain ⟨k, rfl, hk, hO, hB⟩ := hrel
    clear HO HS HB0 HO1 HB1
    by_cases hlt : k < room
    · have hkI : (k : Int) < (room : Int) := by omega
      have hnx := laidVars_next l k
      have HN : Hid (laidVars l (k + 1) = laidVars l k ++ [.string ⟨#[]⟩, .int .i64 (lotI k), .int .i64 0]) := hnx
      clear hnx
      go_wp2_with (first
        | (go_at_call 82; refine (lot_any k _).mono ?_; rintro e w' ⟨rfl, hww⟩; rw [hww])
        | (at_builtin; refine append_three wr (.string ⟨#[]⟩) (.int .i64 (lotI k)) (.int .i64 0) rfl (.tmp 18) (.tmp 22) 22 78 (.agg #[.string ⟨#[]⟩, .int .i64 0, .int .i64 0]) 32 rfl und22 info78 rfl w.heap.size _ _ _ (by rfl) hO.out rfl rfl rfl _ rfl (by rfl) (by unfold maxLen; omega) (by omega) hB.out.size ?_; intro v2 w2 ho2 hg2 hn2))
      have HO2 : Hid (w2.ownsRow w.heap.size 78 3 v2 (l.length + (k + 1)) (laidVars l (k + 1))) := by
        rw [HN.out]; exact ho2
      have HB2 : Hid (Below w.heap.size w w2) := (hB.out.alloc hB.out.size _).grown hg2 (by have := hB.out.size; simp; omega) (fun g hg => (hO.out.lt g hg).1)
      clear ho2 hg2 hn2
      go_wp2_with fail
      go_roundw
      case rel => exact ⟨k + 1, by go_num, by omega, HO2, HB2⟩
      case measure => simp [intOf]; omega
    · have hkI : ¬ (k : Int) < (room : Int) := by omega
      obtain rfl : k = room := by omega
      have hRw := HR.out.kept hB.out
      obtain ⟨v0, hv0, ho0, hl0⟩ := hRw.field 6 (by decide)
      obtain ⟨b, cp, cur, hfv, hbb, hbg, hbc, hbm, hbs, hbt⟩ : ∃ b cp cur, _ = Value.slice (some ⟨b, 0, none⟩) (l.length + k) cp ∧ w.heap.size ≤ b ∧ wr.heap[b]? = some (.cells cur 78 (0, 0)) ∧ l.length + k ≤ cp ∧ cp ≤ maxLen ∧ cur.size = cp * 3 ∧ cur.toList.take ((l.length + k) * 3) = laidVars l k := by
        rcases hO.out.2 with ⟨_, hn⟩ | h
        · omega
        · exact h
      subst hfv
      have hSb : S b = 0 := HR.out.top b hbb
      have hbw : b < wr.heap.size := (Array.getElem?_eq_some_iff.1 hbg).1
      have HCB : Hid (∀ j u, (laidVars l k)[j]? = some u → wr.cell? ⟨b, j, none⟩ = some u) := fun j u hj => by
        have := hO.out.cells (g := b) rfl j u hj
        rwa [addr_none, Nat.zero_add] at this
      have HAG : Hid (Agree S S w wr) := Agree.of_below S hB.out
      have HBW : Hid (Below w.heap.size w wr) := hB.out
      have HRW : Hid (RoomAt ety base R S F wr) := hRw
      have HF : Hid ((F 6).length ≤ 1000000 ∧ (F 7).length ≤ 1000000) := ⟨hF0, hF1⟩
      have HL0 : Hid (∀ g, v0.ownBlock = some g → S g = 6 + 1) := hl0
      have HO0 : Hid (wr.ownsRow base (ety 6) 1 v0 (F 6).length (F 6)) := ho0
      have Hcp : Hid (cp ≤ maxLen) := hbm
      have hcpI : (l.length : Int) + (k : Int) ≤ (cp : Int) := by omega
      unfold maxLen at hbm
      clear ho0 hl0 hRw hbg hbs hbt hO hF0 hF1 hB
      go_wp2_with (first
        | (at_builtin; refine append_one wr (.slice (some ⟨b, 0, none⟩) (l.length + k) cp) rfl (.tmp 28) (.tmp 30) 33 22 (.slice none 0 0) 24 rfl und33 info22 rfl base v0 _ _ (by rfl) HO0.out rfl _ rfl (by rfl) (by have := HF.out.1; unfold maxLen; omega) (by have := HF.out.1; omega) HRW.out.bas ?_; intro v1 w1 ho1 hg1 hn1;
           obtain ⟨a1, c1, hf1⟩ := own_form ho1;
           subst hf1;
           have hW1 : Below wr.heap.size wr (wr.alloc (.cells #[.slice (some ⟨b, 0, none⟩) (l.length + k) cp] 22)) := (Below.refl _ _).alloc (Nat.le_refl _) _;
           obtain ⟨hcR, hfR⟩ := HRW.out.after (f := 6) (by decide) hW1 hv0 hg1;
           obtain ⟨S1, hR1, hA1, hz1⟩ := HRW.out.push (f := 6) (by decide) hW1 hv0 ho1 hg1 (by simpa using hn1);
           have hh1 := HRW.out.push_high (v' := .slice a1 ((F 6).length + 1) c1) (f := 6) (by decide) hW1 hv0 hg1;
           have q0 := (hcR 6).trans hv0;
           have q1 := hfR 6;
           obtain ⟨w2, hw2⟩ : ∃ w2, w1.setCell ⟨R, 6, none⟩ (.slice a1 ((F 6).length + 1) c1) = w2 := ⟨_, rfl⟩;
           rw [hw2] at hR1 hA1 hh1;
           have HH1 : Hid (∀ k, k < wr.heap.size → 150 ≤ S k → w2.heap[k]? = wr.heap[k]?) := hh1;
           have HR1 : Hid (RoomAt ety base R S1 (fun j => if j = 6 then F 6 ++ [.slice (some ⟨b, 0, none⟩) (l.length + k) cp] else F j) w2) := hR1;
           have HA1 : Hid (Agree S S1 wr w2) := hA1;
           clear ho1 hg1 hn1 hW1 hcR hfR hA1 hz1 hh1;
           obtain ⟨vA, hvA, hoA, hlA⟩ := hR1.field 7 (by decide);
           have HOA : Hid (w2.ownsRow base 3 1 vA (F 7).length (F 7)) := hoA;
           clear hR1 hoA hlA)
        | (at_builtin; refine append_one w2 (.int .i64 (l.length : Int)) rfl (.tmp 38) (.tmp 41) 27 3 (.int .i64 0) 8 rfl und27 info3 rfl base vA _ _ (by rfl) HOA.out rfl _ rfl (by rfl) (by have := HF.out.2; unfold maxLen; omega) (by have := HF.out.2; omega) HR1.out.bas ?_; intro v3 w3 ho3 hg3 hn3;
           obtain ⟨a3, c3, hf3⟩ := own_form ho3;
           subst hf3;
           have hW3 : Below w2.heap.size w2 (w2.alloc (.cells #[.int .i64 (l.length : Int)] 3)) := (Below.refl _ _).alloc (Nat.le_refl _) _;
           obtain ⟨hcR3, hfR3⟩ := HR1.out.after (f := 7) (by decide) hW3 hvA hg3;
           obtain ⟨S3, hR3, hA3, hz3⟩ := HR1.out.push (f := 7) (by decide) hW3 hvA ho3 hg3 (by simpa using hn3);
           have hh3 := HR1.out.push_high (v' := .slice a3 ((F 7).length + 1) c3) (f := 7) (by decide) hW3 hvA hg3;
           have q3 := (hcR3 7).trans hvA;
           have q4 := hfR3 7;
           obtain ⟨w4, hw4⟩ : ∃ w4, w3.setCell ⟨R, 7, none⟩ (.slice a3 ((F 7).length + 1) c3) = w4 := ⟨_, rfl⟩;
           rw [hw4] at hR3 hA3 hh3;
           have HH3 : Hid (∀ k, k < w2.heap.size → 150 ≤ S1 k → w4.heap[k]? = w2.heap[k]?) := hh3;
           have HR3 : Hid (RoomAt ety base R S3 (fun j => if j = 7 then F 7 ++ [.int .i64 (l.length : Int)] else if j = 6 then F 6 ++ [.slice (some ⟨b, 0, none⟩) (l.length + k) cp] else F j) w4) := hR3;
           have HA3 : Hid (Agree S1 S3 w2 w4) := hA3;
           clear ho3 hg3 hn3 hW3 hcR3 hfR3 hR3 hA3 hz3 hh3))
      go_ret
      have hs1 : S1 b = 0 := (HA1.out.lab b hbw).trans hSb
      have hbw2 : b < w2.heap.size := Nat.lt_of_lt_of_le hbw HA1.out.size
      refine ⟨⟨b, cp, S3, _, rfl, hbb, Nat.lt_of_lt_of_le hbw2 HA3.out.size, (HA3.out.lab b hbw2).trans hs1, HR3.out, rfl, rfl, fun j h0 h1 => by simp [h0, h1], (HAG.out.trans HA1.out).trans HA3.out, fun j u hj => ?_, fun q hq hS => ?_⟩⟩
      · exact (HA3.out.cell (a := ⟨b, j, none⟩) hbw2 hs1).trans ((HA1.out.cell (a := ⟨b, j, none⟩) hbw hSb).trans (HCB.out j u hj))
      · have hq1 : q < wr.heap.size := Nat.lt_of_lt_of_le hq HBW.out.size
        exact (HH3.out q (Nat.lt_of_lt_of_le hq1 HA1.out.size) (by rw [HA1.out.lab q hq1]; exact hS)).trans ((HH1.out q hq1 hS).trans (HBW.out.block q hq))
end Go.Proofs.YtmhfabnpfkkbcaaGreat

namespace Go.Proofs.YtmhfabnpfkkbcaaGreat
open Go.RowKit

/-- A row of the call's own, with a label of its own, that grows. -/
theorem row_step {base R b0 : Nat} {S1 : Lab} {F1 : Nat → List Value} {w1 W1 w2 : World} {fv fv' : Value} (hR : RoomAt ety base R S1 F1 w1) (hl : ∀ g, fv.ownBlock = some g → S1 g = 160 ∧ b0 ≤ g ∧ g < w1.heap.size) (hbase : base ≤ b0)
    (hW : Below w1.heap.size w1 W1) (hg : W1.grownBy w2 fv.ownBlock) (hn : fv'.ownBlock = fv.ownBlock ∨ ∃ g, fv'.ownBlock = some g ∧ w1.heap.size ≤ g) (ho : ∀ g, fv'.ownBlock = some g → g < w2.heap.size) :
    ∃ S2 : Lab, RoomAt ety base R S2 F1 w2 ∧ Agree S1 S2 w1 w2 ∧ ∀ g, fv'.ownBlock = some g → S2 g = 160 := by
  have gw := grownBy_of_below hW hg
  have hsz := gw.size
  have hRl := hR.lt
  have hbs := hR.bas
  have key : ∀ k, fv'.ownBlock = some k → (S1 k = 160 ∧ b0 ≤ k) ∨ w1.heap.size ≤ k := fun k hk => by
    rcases hn with e | ⟨g, e, hge⟩
    · rw [e] at hk; exact .inl ⟨(hl k hk).1, (hl k hk).2.1⟩
    · rw [e] at hk; injection hk with hk; exact .inr (by omega)
  have kept : ∀ k, k < w1.heap.size → S1 k ≠ 160 → w2.heap[k]? = w1.heap[k]? := fun k hk hS => gw.block k hk (fun e => hS (hl k e.symm).1)
  refine ⟨fun k => if fv'.ownBlock = some k then 160 else S1 k, ⟨?_, fun k hk => ?_, fun k hk => ?_, Nat.le_trans hbs hsz, ?_, fun f hf => ?_⟩, ⟨gw.os, gw.tape, gw.output, hsz, fun k hk => ?_, fun k hk h0 => kept k hk (by rw [h0]; decide)⟩, fun g hg' => by simp [hg']⟩
  · have : fv'.ownBlock ≠ some R := fun h => by
      rcases key R h with h1 | h1
      · rw [hR.lab] at h1; omega
      · omega
    simp [this, hR.lab]
  · have : fv'.ownBlock ≠ some k := fun h => by have := ho k h; omega
    simp [this]
    exact hR.top k (by omega)
  · have : fv'.ownBlock ≠ some k := fun h => by
      rcases key k h with h1 | h1 <;> omega
    simp [this]
    exact hR.low k hk
  · obtain ⟨cs, t, h1, h2⟩ := hR.blk
    exact ⟨cs, t, (kept R hRl (by rw [hR.lab]; decide)).trans h1, h2⟩
  · obtain ⟨v, h1, h2, h3⟩ := hR.field f hf
    refine ⟨v, (World.cell?_of_block (a := ⟨R, f, none⟩) (kept R hRl (by rw [hR.lab]; decide))).trans h1, ownsRow_same h2 (fun g hg' => kept g (h2.lt g hg').2 (by rw [h3 g hg']; omega)), fun g hg' => ?_⟩
    have : fv'.ownBlock ≠ some g := fun h => by
      have a := h3 g hg'
      have b := (h2.lt g hg').2
      rcases key g h with h1 | h1 <;> omega
    simp [this]
    exact h3 g hg'
  · by_cases h : fv'.ownBlock = some k
    · simp [h]
      rcases key k h with h1 | h1
      · exact h1.1.symm
      · omega
    · simp [h]
/-- A label that is taken back. -/
theorem RoomAt.free {base R b : Nat} {S : Lab} {F : Nat → List Value} {w : World} (h : RoomAt ety base R S F w) (hb : S b = 160) : RoomAt ety base R (fun k => if k = b then 0 else S k) F w := by
  refine ⟨?_, fun k hk => ?_, fun k hk => ?_, h.bas, h.blk, fun f hf => ?_⟩
  · have : R ≠ b := fun e => by rw [← e, h.lab] at hb; omega
    simp [this, h.lab]
  · by_cases e : k = b
    · simp [e]
    · simp [e]; exact h.top k hk
  · by_cases e : k = b
    · simp [e]
    · simp [e]; exact h.low k hk
  · obtain ⟨v, h1, h2, h3⟩ := h.field f hf
    refine ⟨v, h1, h2, fun g hg => ?_⟩
    have a := h3 g hg
    have : g ≠ b := fun e => by rw [← e, a] at hb; omega
    simp [this, a]

/-- A constraint that was laid within a list. -/
structure Con1 where
  bT : Nat
  bX : Nat
  bB : Nat
  bL : Nat
  cT : Nat
  cX : Nat
  cB : Nat
  cL : Nat
  D : List Row1
  M : List Nat
  c : Md.Cn
def Con1.cells (d : Con1) : List Value := [.int .i64 d.c.kind, .int .i64 d.c.op, .slice (some ⟨d.bT, 0, none⟩) d.c.terms.length (d.c.terms.length + 4), .int .i64 d.c.k, .int .i64 d.c.v, .int .i64 d.c.x, .int .i64 d.c.y, .slice (some ⟨d.bX, 0, none⟩) d.c.xs.length (d.c.xs.length + 4), .slice (some ⟨d.bB, 0, none⟩) d.c.table.length (d.c.table.length + 4), .slice (some ⟨d.bL, 0, none⟩) d.c.rows.length (d.c.rows.length + 4)]
def consCells (D : List Con1) : List Value := D.flatMap Con1.cells
def Con1.entI (d : Con1) : List Value := [.slice (some ⟨d.bX, 0, none⟩) (d.c.xs.length + 4) d.cX, .slice (some ⟨d.bB, 0, none⟩) (d.c.table.length + 4) d.cB] ++ d.D.map Row1.ent
def Con1.atI (d : Con1) : List Value := [.int .i64 (d.c.xs.length : Int), .int .i64 (d.c.table.length : Int)] ++ d.D.map Row1.at_
def Con1.entT (d : Con1) : Value := .slice (some ⟨d.bT, 0, none⟩) (d.c.terms.length + 4) d.cT
def Con1.atT (d : Con1) : Value := .int .i64 (d.c.terms.length : Int)
def Con1.entL (d : Con1) : Value := .slice (some ⟨d.bL, 0, none⟩) (d.c.rows.length + 4) d.cL
def Con1.atL (d : Con1) : Value := .int .i64 (d.c.rows.length : Int)
structure Con1.Ok (S : Lab) (w : World) (d : Con1) : Prop where
  t : DataT S w d.bT d.c.terms 4
  x : DataI S w d.bX d.c.xs 4
  b : DataI S w d.bB d.c.table 4
  l : DataL S w d.bL d.c.rows d.D d.M 4
theorem Con1.Ok.agree {S S' : Lab} {w w' : World} {d : Con1} (h : d.Ok S w) (ha : Agree S S' w w') : d.Ok S' w' := ⟨h.t.agree ha, h.x.agree ha, h.b.agree ha, h.l.agree ha⟩
theorem DataI.free {S S' : Lab} {w : World} {b : Nat} {l : List Int} {room : Nat} (h : DataI S w b l room) (hs : ∀ k, S k = 0 → S' k = 0) : DataI S' w b l room := ⟨hs _ h.lab, h.lt, h.cells⟩
theorem Con1.Ok.free {S S' : Lab} {w : World} {d : Con1} (h : d.Ok S w) (hs : ∀ k, S k = 0 → S' k = 0) : d.Ok S' w :=
  ⟨⟨hs _ h.t.lab, h.t.lt, h.t.cells⟩, h.x.free hs, h.b.free hs, ⟨hs _ h.l.lab, h.l.lt, h.l.rows, fun r hr => (h.l.ok r hr).free hs, h.l.len, fun i hi => ⟨hs _ (h.l.marks i hi).1, (h.l.marks i hi).2⟩, h.l.cells⟩⟩

/-- How many entries there are. -/
theorem ents_le : ∀ D : List Con1, (∀ d ∈ D, d.D.length = d.c.rows.length) → (D.flatMap Con1.entI).length ≤ 2 * costK (D.map Con1.c) ∧ (D.flatMap Con1.atI).length ≤ 2 * costK (D.map Con1.c) ∧ D.length ≤ costK (D.map Con1.c)
  | [], _ => by simp
  | d :: D, h => by
    have ih := ents_le D (fun x hx => h x (by simp [hx]))
    have hd := h d (by simp)
    have hr : d.c.rows.length ≤ costL d.c.rows := by
      generalize d.c.rows = l
      induction l with
      | nil => simp
      | cons r l ih => simp only [costL, List.length_cons]; omega
    simp only [List.flatMap_cons, List.length_append, Con1.entI, Con1.atI, List.length_cons, List.length_nil, List.length_map, List.map_cons, costK, costC] at *
    omega
theorem costK_take (l : List Md.Cn) (k : Nat) : costK (l.take k) ≤ costK l := by
  have h := costK_append (l.take k) (l.drop k)
  rw [List.take_append_drop] at h
  omega

/-- Where the first loop of layCons stands. -/
structure LK1 (base R : Nat) (S0 : Lab) (F0 : Nat → List Value) (w : World) (l : List Md.Cn) (k : Nat) (fv : Value) (S : Lab) (F : Nat → List Value) (D : List Con1) (wr : World) : Prop where
  room : RoomAt ety base R S F wr
  agree : Agree S0 S w wr
  own : wr.ownsRow w.heap.size 62 10 fv D.length (consCells D)
  lab : ∀ g, fv.ownBlock = some g → S g = 160
  rows : D.map Con1.c = l.take k
  ok : ∀ d ∈ D, d.Ok S wr
  f0 : F 0 = F0 0 ++ D.flatMap Con1.entI
  f1 : F 1 = F0 1 ++ D.flatMap Con1.atI
  f4 : F 4 = F0 4 ++ D.map Con1.entT
  f5 : F 5 = F0 5 ++ D.map Con1.atT
  f16 : F 16 = F0 16 ++ D.map Con1.entL
  f17 : F 17 = F0 17 ++ D.map Con1.atL
  f : ∀ j, j ≠ 0 → j ≠ 1 → j ≠ 4 → j ≠ 5 → j ≠ 16 → j ≠ 17 → F j = F0 j
  high : ∀ k, k < w.heap.size → 150 ≤ S0 k → wr.heap[k]? = w.heap[k]?
theorem LK1.len {base R : Nat} {S0 : Lab} {F0 : Nat → List Value} {w : World} {l : List Md.Cn} {k : Nat} {fv : Value} {S : Lab} {F : Nat → List Value} {D : List Con1} {wr : World} (h : LK1 base R S0 F0 w l k fv S F D wr) (hk : k ≤ l.length) : D.length = k := by
  have := congrArg List.length h.rows
  simp at this
  omega
theorem LK1.sizes {base R : Nat} {S0 : Lab} {F0 : Nat → List Value} {w : World} {l : List Md.Cn} {k : Nat} {fv : Value} {S : Lab} {F : Nat → List Value} {D : List Con1} {wr : World} (h : LK1 base R S0 F0 w l k fv S F D wr) (hc : costK l ≤ 20000) : (D.flatMap Con1.entI).length ≤ 40000 ∧ (D.flatMap Con1.atI).length ≤ 40000 ∧ D.length ≤ 20000 := by
  have h1 := ents_le D (fun d hd => by have := congrArg List.length (h.ok d hd).l.rows; simpa using this)
  rw [h.rows] at h1
  have := costK_take l k
  omega

/-- One constraint more. -/
theorem LK1.next {base R : Nat} {S0 : Lab} {F0 : Nat → List Value} {w : World} {l : List Md.Cn} {k : Nat} {fv fv' : Value} {S S1 : Lab} {F F1 : Nat → List Value} {D : List Con1} {wr w1 W1 w2 : World} {d : Con1} (h : LK1 base R S0 F0 w l k fv S F D wr) (hk : k < l.length) (hdc : d.c = l[k])
    (hR1 : RoomAt ety base R S1 F1 w1) (hA : Agree S S1 wr w1) (hd : d.Ok S1 w1) (h0 : F1 0 = F 0 ++ d.entI) (h1 : F1 1 = F 1 ++ d.atI) (h4 : F1 4 = F 4 ++ [d.entT]) (h5 : F1 5 = F 5 ++ [d.atT]) (h16 : F1 16 = F 16 ++ [d.entL]) (h17 : F1 17 = F 17 ++ [d.atL])
    (hF : ∀ j, j ≠ 0 → j ≠ 1 → j ≠ 4 → j ≠ 5 → j ≠ 16 → j ≠ 17 → F1 j = F j) (hh : ∀ k, k < wr.heap.size → 150 ≤ S k → w1.heap[k]? = wr.heap[k]?) (hbase : base ≤ w.heap.size)
    (hW : Below w1.heap.size w1 W1) (ho : w2.ownsRow w.heap.size 62 10 fv' (D.length + 1) (consCells D ++ d.cells)) (hg : W1.grownBy w2 fv.ownBlock) (hn : fv'.ownBlock = fv.ownBlock ∨ ∃ g, fv'.ownBlock = some g ∧ w1.heap.size ≤ g) :
    ∃ S2, LK1 base R S0 F0 w l (k + 1) fv' S2 F1 (D ++ [d]) w2 := by
  have hlt : ∀ g, fv.ownBlock = some g → w.heap.size ≤ g ∧ g < wr.heap.size := h.own.lt
  have hl1 : ∀ g, fv.ownBlock = some g → S1 g = 160 ∧ w.heap.size ≤ g ∧ g < w1.heap.size := fun g hg' => ⟨(hA.lab g (hlt g hg').2).trans (h.lab g hg'), (hlt g hg').1, Nat.lt_of_lt_of_le (hlt g hg').2 hA.size⟩
  obtain ⟨S2, hR2, hA2, hL2⟩ := row_step hR1 hl1 hbase hW hg hn (fun g hg' => (ho.lt g hg').2)
  have gw := grownBy_of_below hW hg
  refine ⟨S2, hR2, (h.agree.trans hA).trans hA2, ?_, hL2, ?_, ?_, ?_, ?_, ?_, ?_, ?_, ?_, fun j a0 a1 a4 a5 a16 a17 => (hF j a0 a1 a4 a5 a16 a17).trans (h.f j a0 a1 a4 a5 a16 a17), fun q hq hS => ?_⟩
  · simpa [consCells] using ho
  · rw [List.map_append, h.rows, List.take_succ_eq_append_getElem hk]; simp [hdc]
  · intro x hx
    rcases List.mem_append.1 hx with hx | hx
    · exact ((h.ok x hx).agree hA).agree hA2
    · rw [List.mem_singleton.1 hx]; exact hd.agree hA2
  · rw [h0, h.f0]; simp
  · rw [h1, h.f1]; simp
  · rw [h4, h.f4]; simp
  · rw [h5, h.f5]; simp
  · rw [h16, h.f16]; simp
  · rw [h17, h.f17]; simp
  · have hq1 : q < wr.heap.size := Nat.lt_of_lt_of_le hq h.agree.size
    exact (gw.block q (Nat.lt_of_lt_of_le hq1 hA.size) (fun he => by have := (hlt q he.symm).1; omega)).trans ((hh q hq1 (by rw [h.agree.lab q hq]; exact hS)).trans (h.high q hq hS))

/-- A mark of a list of constraints. -/
def kMark (j : Nat) : List Value := [.int .i64 0, .int .i64 0, .slice none 0 0, .int .i64 0, .int .i64 0, .int .i64 (lotI j), .int .i64 0, .slice none 0 0, .slice none 0 0, .slice none 0 0]
def kMarks (k : Nat) : List Value := (List.range k).flatMap kMark
theorem kMarks_next (k : Nat) : kMarks (k + 1) = kMarks k ++ kMark k := by unfold kMarks; rw [List.range_succ]; simp
/-- Where the second loop stands. -/
structure LK2 (base R : Nat) (S0 : Lab) (w : World) (l : List Md.Cn) (k : Nat) (fv : Value) (S : Lab) (F : Nat → List Value) (D : List Con1) (wr : World) : Prop where
  room : RoomAt ety base R S F wr
  agree : Agree S0 S w wr
  own : wr.ownsRow w.heap.size 62 10 fv (l.length + k) (consCells D ++ kMarks k)
  lab : ∀ g, fv.ownBlock = some g → S g = 160
  ok : ∀ d ∈ D, d.Ok S wr
  high : ∀ k, k < w.heap.size → 150 ≤ S0 k → wr.heap[k]? = w.heap[k]?
theorem LK2.next {base R : Nat} {S0 : Lab} {w : World} {l : List Md.Cn} {k : Nat} {fv fv' : Value} {S : Lab} {F : Nat → List Value} {D : List Con1} {wr W1 w2 : World} (h : LK2 base R S0 w l k fv S F D wr) (hbase : base ≤ w.heap.size)
    (hW : Below wr.heap.size wr W1) (ho : w2.ownsRow w.heap.size 62 10 fv' (l.length + k + 1) (consCells D ++ kMarks k ++ kMark k)) (hg : W1.grownBy w2 fv.ownBlock) (hn : fv'.ownBlock = fv.ownBlock ∨ ∃ g, fv'.ownBlock = some g ∧ wr.heap.size ≤ g) :
    ∃ S2, LK2 base R S0 w l (k + 1) fv' S2 F D w2 := by
  have hlt : ∀ g, fv.ownBlock = some g → w.heap.size ≤ g ∧ g < wr.heap.size := h.own.lt
  obtain ⟨S2, hR2, hA2, hL2⟩ := row_step h.room (fun g hg' => ⟨h.lab g hg', hlt g hg'⟩) hbase hW hg hn (fun g hg' => (ho.lt g hg').2)
  have gw := grownBy_of_below hW hg
  refine ⟨S2, hR2, h.agree.trans hA2, ?_, hL2, fun d hd => (h.ok d hd).agree hA2, fun q hq hS => (gw.block q (Nat.lt_of_lt_of_le hq h.agree.size) (fun he => by have := (hlt q he.symm).1; omega)).trans (h.high q hq hS)⟩
  rw [kMarks_next, ← List.append_assoc, ← Nat.add_assoc]; exact ho
end Go.Proofs.YtmhfabnpfkkbcaaGreat

namespace Go.Proofs.YtmhfabnpfkkbcaaGreat
open Go.RowKit

theorem und23 : Tryz.prog.underlying 23 = some (.slice 62) := by kernel_rfl
theorem und39 : Tryz.prog.underlying 39 = some (.slice 23) := by kernel_rfl
theorem info23 : (Tryz.prog.info? 23).map (fun i => (i.zero, i.size, i.bytes)) = some (some (.slice none 0 0), 1, 24) := by kernel_rfl
theorem info62 : (Tryz.prog.info? 62).map (fun i => (i.zero, i.size, i.bytes)) = some (some (.agg #[.int .i64 0, .int .i64 0, .slice none 0 0, .int .i64 0, .int .i64 0, .int .i64 0, .int .i64 0, .slice none 0 0, .slice none 0 0, .slice none 0 0]), 10, 144) := by kernel_rfl
theorem costK_mem {l : List Md.Cn} {c : Md.Cn} (h : c ∈ l) : costC c ≤ costK l := by
  induction l with
  | nil => simp at h
  | cons x l ih =>
    rcases List.mem_cons.1 h with rfl | h
    · simp only [costK]; omega
    · have h1 := ih h
      simp only [costK]; omega
def lab160 (S : Lab) (N : Nat) : Lab := fun k => if k = N then 160 else S k
theorem RoomAt.lab160 {base R : Nat} {S : Lab} {F : Nat → List Value} {w : World} (h : RoomAt ety base R S F w) {N : Nat} (hN : N < w.heap.size) (hb : base ≤ N) (h0 : S N = 0) : RoomAt ety base R (lab160 S N) F w := by
  refine ⟨?_, fun k hk => ?_, fun k hk => ?_, h.bas, h.blk, fun f hf => ?_⟩
  · have : R ≠ N := fun e => by rw [← e, h.lab] at h0; omega
    simp [Go.Proofs.YtmhfabnpfkkbcaaGreat.lab160, this, h.lab]
  · have : k ≠ N := by omega
    simp [Go.Proofs.YtmhfabnpfkkbcaaGreat.lab160, this]; exact h.top k hk
  · have : k ≠ N := by omega
    simp [Go.Proofs.YtmhfabnpfkkbcaaGreat.lab160, this]; exact h.low k hk
  · obtain ⟨v, h1, h2, h3⟩ := h.field f hf
    refine ⟨v, h1, h2, fun g hg => ?_⟩
    have a := h3 g hg
    have : g ≠ N := fun e => by rw [← e, a] at h0; omega
    simp [Go.Proofs.YtmhfabnpfkkbcaaGreat.lab160, this, a]
theorem agree_lab160 {S : Lab} {w w1 : World} (hb : Below w.heap.size w w1) : Agree S (lab160 S w.heap.size) w w1 :=
  ⟨hb.os, hb.tape, hb.output, hb.size, fun k hk => by unfold lab160; rw [if_neg (by omega)], fun k hk _ => hb.block k hk⟩
theorem con_cells1 (c : Md.Cn) (bT bX bB bL : Nat) : ∀ u ∈ [Value.int .i64 c.kind, .int .i64 c.op, .slice (some ⟨bT, 0, none⟩) c.terms.length (c.terms.length + 4), .int .i64 c.k, .int .i64 c.v, .int .i64 c.x, .int .i64 c.y, .slice (some ⟨bX, 0, none⟩) c.xs.length (c.xs.length + 4), .slice (some ⟨bB, 0, none⟩) c.table.length (c.table.length + 4), .slice (some ⟨bL, 0, none⟩) c.rows.length (c.rows.length + 4)], u.oneCell' = true := by
  intro u hu
  simp only [List.mem_cons, List.not_mem_nil, or_false] at hu
  rcases hu with rfl | rfl | rfl | rfl | rfl | rfl | rfl | rfl | rfl | rfl <;> rfl
theorem kmark_cells (k2 : Nat) : ∀ u ∈ [Value.int .i64 0, .int .i64 0, .slice none 0 0, .int .i64 0, .int .i64 0, .int .i64 (lotI k2), .int .i64 0, .slice none 0 0, .slice none 0 0, .slice none 0 0], u.oneCell' = true := by
  intro u hu
  simp only [List.mem_cons, List.not_mem_nil, or_false] at hu
  rcases hu with rfl | rfl | rfl | rfl | rfl | rfl | rfl | rfl | rfl | rfl <;> rfl


/-- What layCons leaves. -/
structure LaidK (base R : Nat) (S : Lab) (F : Nat → List Value) (w : World) (l : List Md.Cn) (room : Nat) (e : Ending) (w' : World) : Prop where
  out : ∃ (b cap : Nat) (S' : Lab) (F' : Nat → List Value) (D : List Con1), e = .returned (.slice (some ⟨b, 0, none⟩) l.length (l.length + room)) ∧ RoomAt ety base R S' F' w' ∧ Agree S S' w w' ∧ b < w'.heap.size ∧ S' b = 0 ∧
    D.map Con1.c = l ∧ (∀ d ∈ D, d.Ok S' w') ∧ (∀ j u, (consCells D ++ kMarks room)[j]? = some u → w'.cell? ⟨b, j, none⟩ = some u) ∧
    (F' 0 = F 0 ++ D.flatMap Con1.entI ∧ F' 1 = F 1 ++ D.flatMap Con1.atI ∧ F' 4 = F 4 ++ D.map Con1.entT ∧ F' 5 = F 5 ++ D.map Con1.atT ∧ F' 16 = F 16 ++ D.map Con1.entL ∧ F' 17 = F 17 ++ D.map Con1.atL ∧ F' 18 = F 18 ++ [.slice (some ⟨b, 0, none⟩) (l.length + room) cap] ∧ F' 19 = F 19 ++ [.int .i64 (l.length : Int)]) ∧
    (∀ j, j ≠ 0 → j ≠ 1 → j ≠ 4 → j ≠ 5 → j ≠ 16 → j ≠ 17 → j ≠ 18 → j ≠ 19 → F' j = F j) ∧ ∀ k, k < w.heap.size → 150 ≤ S k → w'.heap[k]? = w.heap[k]?

set_option maxRecDepth 10000 in
set_option maxHeartbeats 4000000 in
theorem layCons_any (base R : Nat) (S : Lab) (F : Nat → List Value) (v : Value) (l : List Md.Cn) (room : Nat) (w w0 : World) (hR : RoomAt ety base R S F w) (h0 : ConsAt w0 v l) (hbw : ∀ wr S', Agree S S' w wr → Below w0.heap.size w0 wr) (hc : costK l ≤ 20000) (hr0 : 0 < room) (hr : room ≤ 40)
    (hF : ∀ j, (F j).length ≤ 100000) :
    Calls Tryz.prog 80 #[.pointer (some ⟨R, 0, none⟩), v, .int .i64 (room : Int)] w (LaidK base R S F w l room) := by
  obtain ⟨a, cap, rfl, hm, ho⟩ := h0
  have HO : Hid (0 < l.length → ∃ b off, a = some ⟨b, off, none⟩ ∧ b < w0.heap.size ∧ ∀ j (h : j < l.length), ∃ vt vx vb vr, CnAt w0 l[j] vt vx vb vr ∧ CnCells w0 b (off + j * 10) l[j] vt vx vb vr) := ho
  have HBW : Hid (∀ wr S', Agree S S' w wr → Below w0.heap.size w0 wr) := hbw
  have HB : Hid (base ≤ w.heap.size) := hR.bas
  have HF : Hid (∀ j, (F j).length ≤ 100000) := hF
  have HC : Hid (costK l ≤ 20000) := hc
  have hll : l.length ≤ 20000 := by
    have h1 : ∀ l : List Md.Cn, l.length ≤ costK l := by
      intro l
      induction l with
      | nil => simp
      | cons c l ih => simp only [costK, costC, List.length_cons]; omega
    have := h1 l; omega
  have HCs : Hid (∀ c ∈ l, c.terms.length ≤ 100000 ∧ c.xs.length ≤ 100000 ∧ c.table.length ≤ 100000 ∧ c.rows.length ≤ 100000 ∧ ∀ r ∈ c.rows, r.length ≤ 100000) := fun c hcl => (costC_bounds (n := 0) (by have := costK_mem hcl; omega)).1
  have hb0 : Below w.heap.size w (w.alloc (.cells #[] 62)) := (Below.refl _ _).alloc (Nat.le_refl _) _
  obtain ⟨W0, hW0⟩ : ∃ W, w.alloc (.cells #[] 62) = W := ⟨_, rfl⟩
  have H1 : Hid (∃ S1, LK1 base R S F w l 0 (.slice (some ⟨w.heap.size, 0, none⟩) 0 0) S1 F [] W0) := by
    rw [← hW0]
    refine ⟨lab160 S w.heap.size, (hR.kept hb0).lab160 (by simp) hR.bas (hR.top _ (Nat.le_refl _)), agree_lab160 hb0, World.ownsRow_made w #[] 0 (Nat.le_refl _) (by unfold maxLen; omega) rfl, fun g hg => by simp [Value.ownBlock] at hg; subst hg; simp [lab160], by simp, fun d hd => by simp at hd, by simp, by simp, by simp, by simp, by simp, by simp, fun _ _ _ _ _ _ _ => rfl, fun q hq _ => hb0.block q hq⟩
  clear hR ho hbw hF hc hb0
  go_enter Tryz.func80, Tryz.ntmps80
  go_wp2_with fail
  go_loopw [7, 8] (fun fv iv wr => ∃ (k : Nat) (S1 : Lab) (F1 : Nat → List Value) (D : List Con1), iv = .int .i64 (k : Int) ∧ k ≤ l.length ∧ Hid (LK1 base R S F w l k fv S1 F1 D wr)) (fun _ iv _ => l.length - (intOf iv).toNat)
  case atStart =>
    obtain ⟨S1, h1⟩ := H1.out
    exact ⟨0, S1, F, [], rfl, Nat.zero_le _, h1⟩
  case round =>
    obtain ⟨k, S1, F1, D, rfl, hk, hH⟩ := hrel
    clear H1
    by_cases hlt : k < l.length
    · have hkI : (k : Int) < (l.length : Int) := by omega
      have hDl := hH.out.len hk
      obtain ⟨b0, o0, rfl, hb0, hcs⟩ := HO.out (by omega)
      obtain ⟨vt, vx, vb, vr, hcn, hcl⟩ := hcs k hlt
      have hbr := HBW.out _ S1 hH.out.agree
      obtain ⟨e0, e1, e2, e3, e4, e5, e6, e7, e8, e9⟩ := hcl.below hbr
      obtain ⟨ta, tc, rfl, _⟩ := hcn.t.form
      obtain ⟨xa, xc, rfl, _⟩ := hcn.x.form
      obtain ⟨ba, bc, rfl, _⟩ := hcn.b.form
      obtain ⟨ra, rc, rfl, _⟩ := hcn.r.form
      obtain ⟨z1, z2, z3⟩ := hH.out.sizes HC.out
      have hDI : D.length ≤ 20000 := z3
      have HL : Hid (Calls Tryz.prog 111 #[.pointer (some ⟨R, 0, none⟩), cnVal l[k] (.slice ta l[k].terms.length tc) (.slice xa l[k].xs.length xc) (.slice ba l[k].table.length bc) (.slice ra l[k].rows.length rc)] _ (LaidC4 base R S1 F1 _ l[k])) :=
        con4_any base R S1 F1 l[k] _ _ _ _ _ hH.out.room (fun wr' S' hA => hcn.below (HBW.out _ _ (hH.out.agree.trans hA))) (HCs.out _ (List.getElem_mem hlt)) ⟨by rw [hH.out.f0]; simp only [List.length_append]; have := HF.out 0; omega, by rw [hH.out.f1]; simp only [List.length_append]; have := HF.out 1; omega, by rw [hH.out.f4]; simp; have := HF.out 4; omega, by rw [hH.out.f5]; simp; have := HF.out 5; omega, by rw [hH.out.f16]; simp; have := HF.out 16; omega, by rw [hH.out.f17]; simp; have := HF.out 17; omega⟩
      unfold cnVal at HL
      obtain ⟨fa, fc, hfv⟩ := own_form hH.out.own
      subst hfv
      have HK : Hid (l[k] = l[k]) := rfl
      generalize hcc : l[k] = c at HL e0 e1 e2 e3 e4 e5 e6 e7 e8 e9
      have HCC : Hid (l[k] = c) := hcc
      clear hcs hcn hcl hDl hbr z1 z2 z3 hcc HK
      go_wp2_with fail
      refine calls_at HL.out (by with_reducible rfl) (by with_reducible rfl) ?_
      rintro e w1 ⟨⟨bT, bX, bB, bL, cT, cX, cB, cL, S2, F2, D2, M2, he, hR2, hA2, dT, dX, dB, dL, f0, f1, f4, f5, f16, f17, fn, hh2⟩⟩
      subst he
      unfold cnVal
      have HO1 : Hid (w1.ownsRow w.heap.size 62 10 (.slice fa D.length fc) D.length (consCells D)) := ownsRow_same hH.out.own (fun g hg => hh2 g (hH.out.own.lt g hg).2 (by rw [hH.out.lab g hg]; decide))
      have HN : Hid (∀ fv' W1 w2, Below w1.heap.size w1 W1 → w2.ownsRow w.heap.size 62 10 fv' (D.length + 1) (consCells D ++ [.int .i64 c.kind, .int .i64 c.op, .slice (some ⟨bT, 0, none⟩) c.terms.length (c.terms.length + 4), .int .i64 c.k, .int .i64 c.v, .int .i64 c.x, .int .i64 c.y, .slice (some ⟨bX, 0, none⟩) c.xs.length (c.xs.length + 4), .slice (some ⟨bB, 0, none⟩) c.table.length (c.table.length + 4), .slice (some ⟨bL, 0, none⟩) c.rows.length (c.rows.length + 4)]) → W1.grownBy w2 (Value.ownBlock (.slice fa D.length fc)) → (fv'.ownBlock = Value.ownBlock (.slice fa D.length fc) ∨ ∃ g, fv'.ownBlock = some g ∧ w1.heap.size ≤ g) → ∃ S3, LK1 base R S F w l (k + 1) fv' S3 F2 (D ++ [⟨bT, bX, bB, bL, cT, cX, cB, cL, D2, M2, c⟩]) w2) := fun fv' W1 w2 q1 q2 q3 q4 =>
        LK1.next (d := ⟨bT, bX, bB, bL, cT, cX, cB, cL, D2, M2, c⟩) hH.out hlt HCC.out.symm hR2 hA2 ⟨dT, dX, dB, dL⟩ (by rw [f0]; simp [Con1.entI]) (by rw [f1]; simp [Con1.atI]) f4 f5 f16 f17 fn hh2 HB.out q1 q2 q3 q4
      have HBS : Hid (w.heap.size ≤ w1.heap.size) := Nat.le_trans hH.out.agree.size hA2.size
      clear hR2 hA2 dT dX dB dL f0 f1 f4 f5 f16 f17 fn hh2 e0 e1 e2 e3 e4 e5 e6 e7 e8 e9
      go_wp2_with (at_builtin; refine append_els w1 [.int .i64 c.kind, .int .i64 c.op, .slice (some ⟨bT, 0, none⟩) c.terms.length (c.terms.length + 4), .int .i64 c.k, .int .i64 c.v, .int .i64 c.x, .int .i64 c.y, .slice (some ⟨bX, 0, none⟩) c.xs.length (c.xs.length + 4), .slice (some ⟨bB, 0, none⟩) c.table.length (c.table.length + 4), .slice (some ⟨bL, 0, none⟩) c.rows.length (c.rows.length + 4)] 10 rfl (by decide) rfl (.tmp 17) (.tmp 24) 23 62 (.agg #[.int .i64 0, .int .i64 0, .slice none 0 0, .int .i64 0, .int .i64 0, .int .i64 0, .int .i64 0, .slice none 0 0, .slice none 0 0, .slice none 0 0]) 144 rfl und23 info62 rfl w.heap.size _ _ _ (by rfl) HO1.out (con_cells1 c bT bX bB bL) _ rfl (by rfl) (by unfold maxLen; omega) (by omega) HBS.out ?_; intro v2 w2 ho2 hg2 hn2)
      obtain ⟨S3, hX⟩ := HN.out v2 _ w2 ((Below.refl _ _).alloc (Nat.le_refl _) _) ho2 hg2 (hn2.imp id (fun h => ⟨_, h, Nat.le_succ _⟩))
      have HX : Hid (LK1 base R S F w l (k + 1) v2 S3 F2 (D ++ [⟨bT, bX, bB, bL, cT, cX, cB, cL, D2, M2, c⟩]) w2) := hX
      clear ho2 hg2 hn2 HN hX
      go_wp2_with fail
      go_roundw
      case rel => exact ⟨k + 1, S3, F2, _, by go_num, by omega, HX⟩
      case measure => simp [intOf]; omega
    · have hkI : ¬ (k : Int) < (l.length : Int) := by omega
      have hkl : k = l.length := by omega
      have hDl := hH.out.len hk
      have HP : Hid (D.map Con1.c = l ∧ (F1 0 = F 0 ++ D.flatMap Con1.entI ∧ F1 1 = F 1 ++ D.flatMap Con1.atI ∧ F1 4 = F 4 ++ D.map Con1.entT ∧ F1 5 = F 5 ++ D.map Con1.atT ∧ F1 16 = F 16 ++ D.map Con1.entL ∧ F1 17 = F 17 ++ D.map Con1.atL) ∧ ∀ j, j ≠ 0 → j ≠ 1 → j ≠ 4 → j ≠ 5 → j ≠ 16 → j ≠ 17 → F1 j = F j) := ⟨by rw [hH.out.rows, hkl, List.take_length], ⟨hH.out.f0, hH.out.f1, hH.out.f4, hH.out.f5, hH.out.f16, hH.out.f17⟩, hH.out.f⟩
      have H2 : Hid (LK2 base R S w l 0 _ S1 F1 D _) := ⟨hH.out.room, hH.out.agree, by have := hH.out.own; rw [hDl, hkl] at this; simpa [kMarks] using this, hH.out.lab, hH.out.ok, hH.out.high⟩
      clear hH hkl hDl
      go_wp2_with fail
      go_loopw [7, 9] (fun fv iv wr => ∃ (k : Nat) (S2 : Lab), iv = .int .i64 (k : Int) ∧ k ≤ room ∧ Hid (LK2 base R S w l k fv S2 F1 D wr)) (fun _ iv _ => room - (intOf iv).toNat)
      case atStart => exact ⟨0, S1, rfl, Nat.zero_le _, H2⟩
      case round =>
        obtain ⟨k2, S2, rfl, hk2, hH⟩ := hrel
        clear H2
        by_cases hlt2 : k2 < room
        · have hkI2 : (k2 : Int) < (room : Int) := by omega
          obtain ⟨fa, fc, hfv⟩ := own_form hH.out.own
          subst hfv
          rename World => wq
          go_wp2_with (first
            | (go_at_call 82; refine (lot_any k2 _).mono ?_; rintro e w' ⟨rfl, hww⟩; rw [hww]; clear hww)
            | (at_builtin; refine append_els wq [.int .i64 0, .int .i64 0, .slice none 0 0, .int .i64 0, .int .i64 0, .int .i64 (lotI k2), .int .i64 0, .slice none 0 0, .slice none 0 0, .slice none 0 0] 10 rfl (by decide) rfl (.tmp 31) (.tmp 35) 23 62 (.agg #[.int .i64 0, .int .i64 0, .slice none 0 0, .int .i64 0, .int .i64 0, .int .i64 0, .int .i64 0, .slice none 0 0, .slice none 0 0, .slice none 0 0]) 144 rfl und23 info62 rfl w.heap.size _ _ _ (by rfl) hH.out.own (kmark_cells k2) _ rfl (by rfl) (by unfold maxLen; omega) (by omega) hH.out.agree.size ?_; intro v2 w2 ho2 hg2 hn2))
          obtain ⟨S3, hX⟩ := hH.out.next HB.out ((Below.refl _ _).alloc (Nat.le_refl _) _) ho2 hg2 (hn2.imp id (fun h => ⟨_, h, Nat.le_succ _⟩))
          have HX : Hid (LK2 base R S w l (k2 + 1) v2 S3 F1 D w2) := hX
          clear ho2 hg2 hn2 hX
          go_roundw
          case rel => exact ⟨k2 + 1, S3, by go_num, by omega, HX⟩
          case measure => simp [intOf]; omega
        · have hkI2 : ¬ (k2 : Int) < (room : Int) := by omega
          obtain rfl : k2 = room := by omega
          rename World => wq
          have hRw := hH.out.room
          obtain ⟨v0, hv0, ho0, hl0⟩ := hRw.field 18 (by decide)
          obtain ⟨b, cp, cur, hfv, hbb, hbg, hbc, hbm, hbs, hbt⟩ : ∃ b cp cur, _ = Value.slice (some ⟨b, 0, none⟩) (l.length + k2) cp ∧ w.heap.size ≤ b ∧ wq.heap[b]? = some (.cells cur 62 (0, 0)) ∧ l.length + k2 ≤ cp ∧ cp ≤ maxLen ∧ cur.size = cp * 10 ∧ cur.toList.take ((l.length + k2) * 10) = consCells D ++ kMarks k2 := by
            rcases hH.out.own.2 with ⟨_, hn⟩ | h
            · omega
            · exact h
          subst hfv
          have hSb : S2 b = 160 := hH.out.lab b rfl
          have hbw : b < wq.heap.size := (Array.getElem?_eq_some_iff.1 hbg).1
          have HCB : Hid (∀ j u, (consCells D ++ kMarks k2)[j]? = some u → wq.cell? ⟨b, j, none⟩ = some u) := fun j u hj => by
            have := hH.out.own.cells (g := b) rfl j u hj
            rwa [addr_none, Nat.zero_add] at this
          have HRW : Hid (RoomAt ety base R S2 F1 wq) := hRw
          have HO0 : Hid (wq.ownsRow base (ety 18) 1 v0 (F1 18).length (F1 18)) := ho0
          have HFL : Hid ((F1 18).length ≤ 100000 ∧ (F1 19).length ≤ 100000) := by
            rw [HP.out.2.2 18 (by decide) (by decide) (by decide) (by decide) (by decide) (by decide), HP.out.2.2 19 (by decide) (by decide) (by decide) (by decide) (by decide) (by decide)]
            exact ⟨HF.out 18, HF.out 19⟩
          have hcpI : (l.length : Int) + (k2 : Int) ≤ (cp : Int) := by omega
          unfold maxLen at hbm
          clear ho0 hl0 hRw hbg hbs hbt
          go_wp2_with (first
            | (at_builtin; refine append_one wq (.slice (some ⟨b, 0, none⟩) (l.length + k2) cp) rfl (.tmp 41) (.tmp 43) 39 23 (.slice none 0 0) 24 rfl und39 info23 rfl base v0 _ _ (by rfl) HO0.out rfl _ rfl (by rfl) (by have := HFL.out.1; unfold maxLen; omega) (by have := HFL.out.1; omega) HRW.out.bas ?_; intro v1 w1 ho1 hg1 hn1;
               obtain ⟨a1, c1, hf1⟩ := own_form ho1;
               subst hf1;
               have hW1 : Below wq.heap.size wq (wq.alloc (.cells #[.slice (some ⟨b, 0, none⟩) (l.length + k2) cp] 23)) := (Below.refl _ _).alloc (Nat.le_refl _) _;
               obtain ⟨hcR, hfR⟩ := HRW.out.after (f := 18) (by decide) hW1 hv0 hg1;
               obtain ⟨S3, hR2, hA2, hz2⟩ := HRW.out.push (f := 18) (by decide) hW1 hv0 ho1 hg1 (by simpa using hn1);
               have hh2 := HRW.out.push_high (v' := .slice a1 ((F1 18).length + 1) c1) (f := 18) (by decide) hW1 hv0 hg1;
               have q0 := (hcR 18).trans hv0;
               have q1 := hfR 18;
               obtain ⟨w2, hw2⟩ : ∃ w2, w1.setCell ⟨R, 18, none⟩ (.slice a1 ((F1 18).length + 1) c1) = w2 := ⟨_, rfl⟩;
               rw [hw2] at hR2 hA2 hh2;
               have HH2 : Hid (∀ k, k < wq.heap.size → 150 ≤ S2 k → w2.heap[k]? = wq.heap[k]?) := hh2;
               have HR2 : Hid (RoomAt ety base R S3 (fun j => if j = 18 then F1 18 ++ [.slice (some ⟨b, 0, none⟩) (l.length + k2) cp] else F1 j) w2) := hR2;
               have HA2 : Hid (Agree S2 S3 wq w2) := hA2;
               clear ho1 hg1 hn1 hW1 hcR hfR hA2 hz2 hh2;
               obtain ⟨vA, hvA, hoA, hlA⟩ := hR2.field 19 (by decide);
               have HOA : Hid (w2.ownsRow base 3 1 vA (F1 19).length (F1 19)) := hoA;
               clear hR2 hoA hlA)
            | (at_builtin; refine append_one w2 (.int .i64 (l.length : Int)) rfl (.tmp 51) (.tmp 54) 27 3 (.int .i64 0) 8 rfl und27 info3 rfl base vA _ _ (by rfl) HOA.out rfl _ rfl (by rfl) (by have := HFL.out.2; unfold maxLen; omega) (by have := HFL.out.2; omega) HR2.out.bas ?_; intro v3 w3 ho3 hg3 hn3;
               obtain ⟨a3, c3, hf3⟩ := own_form ho3;
               subst hf3;
               have hW3 : Below w2.heap.size w2 (w2.alloc (.cells #[.int .i64 (l.length : Int)] 3)) := (Below.refl _ _).alloc (Nat.le_refl _) _;
               obtain ⟨hcR3, hfR3⟩ := HR2.out.after (f := 19) (by decide) hW3 hvA hg3;
               obtain ⟨S4, hR3, hA3, hz3⟩ := HR2.out.push (f := 19) (by decide) hW3 hvA ho3 hg3 (by simpa using hn3);
               have hh3 := HR2.out.push_high (v' := .slice a3 ((F1 19).length + 1) c3) (f := 19) (by decide) hW3 hvA hg3;
               have q3 := (hcR3 19).trans hvA;
               have q4 := hfR3 19;
               obtain ⟨w4, hw4⟩ : ∃ w4, w3.setCell ⟨R, 19, none⟩ (.slice a3 ((F1 19).length + 1) c3) = w4 := ⟨_, rfl⟩;
               rw [hw4] at hR3 hA3 hh3;
               have HH3 : Hid (∀ k, k < w2.heap.size → 150 ≤ S3 k → w4.heap[k]? = w2.heap[k]?) := hh3;
               have HR3 : Hid (RoomAt ety base R S4 (fun j => if j = 19 then F1 19 ++ [.int .i64 (l.length : Int)] else if j = 18 then F1 18 ++ [.slice (some ⟨b, 0, none⟩) (l.length + k2) cp] else F1 j) w4) := hR3;
               have HA3 : Hid (Agree S3 S4 w2 w4) := hA3;
               clear ho3 hg3 hn3 hW3 hcR3 hfR3 hR3 hA3 hz3 hh3))
          go_ret
          have hA := HA2.out.trans HA3.out
          have hS3b : S3 b = 160 := (HA2.out.lab b hbw).trans hSb
          have hS4b : S4 b = 160 := (HA3.out.lab b (Nat.lt_of_lt_of_le hbw HA2.out.size)).trans hS3b
          have hfr : ∀ k, S4 k = 0 → (if k = b then 0 else S4 k) = 0 := fun k h => by split <;> simp_all
          have hblk : w4.heap[b]? = wq.heap[b]? := (HH3.out b (Nat.lt_of_lt_of_le hbw HA2.out.size) (by rw [hS3b]; decide)).trans (HH2.out b hbw (by rw [hSb]; decide))
          refine ⟨⟨b, cp, fun k => if k = b then 0 else S4 k, _, D, rfl, HR3.out.free hS4b, ?_, Nat.lt_of_lt_of_le hbw hA.size, by simp, HP.out.1, fun d hd => ((hH.out.ok d hd).agree hA).free hfr, fun j u hj => (World.cell?_of_block (a := ⟨b, j, none⟩) hblk).trans (HCB.out j u hj), ⟨HP.out.2.1.1, HP.out.2.1.2.1, HP.out.2.1.2.2.1, HP.out.2.1.2.2.2.1, HP.out.2.1.2.2.2.2.1, HP.out.2.1.2.2.2.2.2, ?_, ?_⟩, ?_, ?_⟩⟩
          · have hAA := hH.out.agree.trans hA
            refine ⟨hAA.os, hAA.tape, hAA.output, hAA.size, fun q hq => ?_, hAA.block⟩
            have : q ≠ b := by omega
            simp [this]; exact hAA.lab q hq
          · show F1 18 ++ _ = _
            rw [HP.out.2.2 18 (by decide) (by decide) (by decide) (by decide) (by decide) (by decide)]
          · show F1 19 ++ _ = _
            rw [HP.out.2.2 19 (by decide) (by decide) (by decide) (by decide) (by decide) (by decide)]
          · intro j a0 a1 a4 a5 a16 a17 a18 a19
            simp only [a18, a19, if_false]
            exact HP.out.2.2 j a0 a1 a4 a5 a16 a17
          · intro q hq hS
            have hq1 : q < wq.heap.size := Nat.lt_of_lt_of_le hq hH.out.agree.size
            have hS1 : 150 ≤ S2 q := by rw [hH.out.agree.lab q hq]; exact hS
            exact (HH3.out q (Nat.lt_of_lt_of_le hq1 HA2.out.size) (by rw [HA2.out.lab q hq1]; exact hS1)).trans ((HH2.out q hq1 hS1).trans (hH.out.high q hq hS))
end Go.Proofs.YtmhfabnpfkkbcaaGreat
