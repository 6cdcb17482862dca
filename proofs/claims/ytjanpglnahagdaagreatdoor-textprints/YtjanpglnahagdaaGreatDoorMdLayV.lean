/-
  A room's lists: layVars.
-/
import Derived.Test.YtjanpglnahagdaaGreatDoorMdCon4
import Derived.Test.YtjanpglnahagdaaGreatDoorJ15
namespace Go.Proofs.YtjanpglnahagdaaGreatDoor
open Go.RowKit

/-- Variables, cell by cell. -/
def varCells (l : List Md.Vr) : List Value := l.flatMap fun t => [.string t.name, .int .i64 t.lo, .int .i64 t.hi]
theorem varCells_append (a b : List Md.Vr) : varCells (a ++ b) = varCells a ++ varCells b := by simp [varCells]
theorem varCells_length (l : List Md.Vr) : (varCells l).length = l.length * 3 := by
  induction l with
  | nil => rfl
  | cons t l ih => simp only [varCells, List.flatMap_cons, List.length_append, List.length_cons] at *; rw [ih]; simp; omega
theorem varCells_get (l : List Md.Vr) (k : Nat) (hk : k < l.length) : (varCells l)[k * 3]? = some (.string l[k].name) ∧ (varCells l)[k * 3 + 1]? = some (.int .i64 l[k].lo) ∧ (varCells l)[k * 3 + 2]? = some (.int .i64 l[k].hi) := by
  induction l generalizing k with
  | nil => simp at hk
  | cons t l ih =>
    cases k with
    | zero => exact ⟨rfl, rfl, rfl⟩
    | succ k =>
      have := ih k (by simpa using hk)
      simp only [varCells, List.flatMap_cons, List.getElem_cons_succ] at *
      refine ⟨?_, ?_, ?_⟩
      · rw [List.getElem?_append_right (by simp; omega), ← this.1]; congr 1; simp; omega
      · rw [List.getElem?_append_right (by simp; omega), ← this.2.1]; congr 1; simp; omega
      · rw [List.getElem?_append_right (by simp; omega), ← this.2.2]; congr 1; simp; omega

theorem VarsAt.src {w : World} {v : Value} {l : List Md.Vr} (h : VarsAt w v l) : SrcAt w v l.length 3 (varCells l) := by
  obtain ⟨a, cap, rfl, hm, _, hc⟩ := h
  refine ⟨a, cap, rfl, varCells_length l, fun u hu => ?_, fun ha => ?_, fun ad ha j u hj => ?_⟩
  · simp only [varCells, List.mem_flatMap] at hu
    obtain ⟨t, _, hu⟩ := hu
    simp only [List.mem_cons, List.not_mem_nil, or_false] at hu
    rcases hu with rfl | rfl | rfl <;> rfl
  · rcases Nat.eq_zero_or_pos l.length with h | h
    · exact h
    · obtain ⟨b, off, hb, _⟩ := hc h
      rw [ha] at hb; cases hb
  · have hj' : j < l.length * 3 := by
      obtain ⟨h1, _⟩ := List.getElem?_eq_some_iff.1 hj
      rwa [varCells_length] at h1
    obtain ⟨b, off, hb, hlt, hcell⟩ := hc (by omega)
    rw [ha] at hb
    injection hb with hb
    subst hb
    rw [addr_none]
    have hk : j / 3 < l.length := by omega
    have hg := varCells_get l (j / 3) hk
    have hcl := hcell (j / 3) hk
    have h3 : j % 3 = 0 ∨ j % 3 = 1 ∨ j % 3 = 2 := by omega
    rcases h3 with h0 | h0 | h0
    · have e : j / 3 * 3 = j := by omega
      rw [e] at hg hcl
      rw [hg.1] at hj
      rw [← hj]; exact hcl.1
    · have e : j / 3 * 3 + 1 = j := by omega
      have e2 : off + j / 3 * 3 + 1 = off + j := by omega
      rw [e] at hg
      rw [e2] at hcl
      rw [hg.2.1] at hj
      rw [← hj]; exact hcl.2.1
    · have e : j / 3 * 3 + 2 = j := by omega
      have e2 : off + j / 3 * 3 + 2 = off + j := by omega
      rw [e] at hg
      rw [e2] at hcl
      rw [hg.2.2] at hj
      rw [← hj]; exact hcl.2.2

/-- One element of several cells more: it stands in a new block. -/
theorem append_els {P : Program} {ops : Array Oper} {rest : List Oper} {o : Oper} {a : Act} {Q : Exit → Act → World → Prop} (wr : World) (us : List Value) (size : Nat) (hsz0 : us.length = size) (hsz1 : 0 < size) (hgd : o.guard = none) (s x : Operand) (t e : TypeId) (z : Value) (bytes : Nat)
    (ho : o.op = .call { callee := .builtin .append, args := #[s, x], argTypes := #[t, t] }) (ht : P.underlying t = some (.slice e)) (hinfo : (P.info? e).map (fun i => (i.zero, i.size, i.bytes)) = some (some z, size, bytes)) (hz1 : z.cells.size = size)
    (base : Nat) (v : Value) (n : Nat) (xs : List Value) (hs : a.eval s = v) (hown : wr.ownsRow base e size v n xs) (hu : ∀ u ∈ us, u.oneCell' = true)
    (bk : Nat) (hbk : wr.heap.size = bk) (hx : a.eval x = .slice (some ⟨bk, 0, none⟩) 1 1) (h63 : n + 1 ≤ maxLen) (hbytes : (n + 1) * bytes ≤ 140737488355328) (hbase : base ≤ wr.heap.size)
    (h : ∀ v' w', w'.ownsRow base e size v' (n + 1) (xs ++ us) → (wr.alloc (.cells us.toArray e)).grownBy w' v.ownBlock → (v'.ownBlock = v.ownBlock ∨ v'.ownBlock = some (wr.heap.size + 1)) → wpList P ops Q rest (a.put o.dst v') w') : wpList P ops Q (o :: rest) a (wr.alloc (.cells us.toArray e)) := by
  subst hbk
  obtain ⟨i0, hi, hz0, hz1', hz2⟩ := info_of hinfo
  have hsz : (wr.alloc (.cells us.toArray e)).heap.size = wr.heap.size + 1 := by simp
  refine wpList_append_s _ hgd s x t ho base e i0 z size bytes ht hi hz0 hz1' hz2 hz1 hsz1 v n xs hs (hown.alloc _) ⟨wr.heap.size, 0, none⟩ 1 1 us hx (by rw [hsz0, Nat.one_mul]) ?_ hu h63 hbytes (by rw [hsz]; omega) ?_
  · intro j y hj
    rw [addr_none, Nat.zero_add]
    have hn : (wr.alloc (.cells us.toArray e)).heap[wr.heap.size]? = some (.cells us.toArray e) := heap_alloc_new wr _
    have hj2 : us.toArray[j]? = some y := by rw [List.getElem?_toArray]; exact hj
    simp only [World.cell?, hn, hj2]
    rfl
  · intro v' w' h1 h2 h3
    rw [hsz] at h3
    exact h v' w' h1 h2 h3
theorem append_three {P : Program} {ops : Array Oper} {rest : List Oper} {o : Oper} {a : Act} {Q : Exit → Act → World → Prop} (wr : World) (u1 u2 u3 : Value) (hgd : o.guard = none) (s x : Operand) (t e : TypeId) (z : Value) (bytes : Nat)
    (ho : o.op = .call { callee := .builtin .append, args := #[s, x], argTypes := #[t, t] }) (ht : P.underlying t = some (.slice e)) (hinfo : (P.info? e).map (fun i => (i.zero, i.size, i.bytes)) = some (some z, 3, bytes)) (hz1 : z.cells.size = 3)
    (base : Nat) (v : Value) (n : Nat) (xs : List Value) (hs : a.eval s = v) (hown : wr.ownsRow base e 3 v n xs) (hu1 : u1.oneCell' = true) (hu2 : u2.oneCell' = true) (hu3 : u3.oneCell' = true)
    (bk : Nat) (hbk : wr.heap.size = bk) (hx : a.eval x = .slice (some ⟨bk, 0, none⟩) 1 1) (h63 : n + 1 ≤ maxLen) (hbytes : (n + 1) * bytes ≤ 140737488355328) (hbase : base ≤ wr.heap.size)
    (h : ∀ v' w', w'.ownsRow base e 3 v' (n + 1) (xs ++ [u1, u2, u3]) → (wr.alloc (.cells #[u1, u2, u3] e)).grownBy w' v.ownBlock → (v'.ownBlock = v.ownBlock ∨ v'.ownBlock = some (wr.heap.size + 1)) → wpList P ops Q rest (a.put o.dst v') w') : wpList P ops Q (o :: rest) a (wr.alloc (.cells #[u1, u2, u3] e)) :=
  append_els wr [u1, u2, u3] 3 rfl (by decide) hgd s x t e z bytes ho ht hinfo hz1 base v n xs hs hown (fun u hu => by
    simp only [List.mem_cons, List.not_mem_nil, or_false] at hu
    rcases hu with rfl | rfl | rfl
    · exact hu1
    · exact hu2
    · exact hu3) bk hbk hx h63 hbytes hbase h

theorem und22 : Tryz.prog.underlying 22 = some (.slice 61) := by kernel_rfl
theorem und33 : Tryz.prog.underlying 36 = some (.slice 22) := by kernel_rfl
theorem info78 : (Tryz.prog.info? 61).map (fun i => (i.zero, i.size, i.bytes)) = some (some (.agg #[.string ⟨#[]⟩, .int .i64 0, .int .i64 0]), 3, 32) := by kernel_rfl
theorem info22 : (Tryz.prog.info? 22).map (fun i => (i.zero, i.size, i.bytes)) = some (some (.slice none 0 0), 1, 24) := by kernel_rfl

/-- The cells of a list with its room. -/
def laidVars (l : List Md.Vr) (k : Nat) : List Value := varCells l ++ varCells ((List.range k).map fun j => ⟨⟨#[]⟩, lotI j, 0⟩)
theorem laidVars_next (l : List Md.Vr) (k : Nat) : laidVars l (k + 1) = laidVars l k ++ [.string ⟨#[]⟩, .int .i64 (lotI k), .int .i64 0] := by
  unfold laidVars; rw [List.range_succ, List.map_append, varCells_append]; simp [varCells]

/-- What layVars leaves. -/
structure LaidV (base R : Nat) (S : Lab) (F : Nat → List Value) (w : World) (l : List Md.Vr) (room : Nat) (e : Ending) (w' : World) : Prop where
  out : ∃ b cap S' F', e = .returned (.slice (some ⟨b, 0, none⟩) l.length (l.length + room)) ∧ w.heap.size ≤ b ∧ b < w'.heap.size ∧ S' b = 0 ∧
    RoomAt ety base R S' F' w' ∧ F' 6 = F 6 ++ [.slice (some ⟨b, 0, none⟩) (l.length + room) cap] ∧ F' 7 = F 7 ++ [.int .i64 (l.length : Int)] ∧ (∀ j, j ≠ 6 → j ≠ 7 → F' j = F j) ∧ Agree S S' w w' ∧
    (∀ j u, (laidVars l room)[j]? = some u → w'.cell? ⟨b, j, none⟩ = some u) ∧ ∀ k, k < w.heap.size → 150 ≤ S k → w'.heap[k]? = w.heap[k]?

set_option maxRecDepth 10000 in
set_option maxHeartbeats 2000000 in
theorem layVars_any (base R : Nat) (S : Lab) (F : Nat → List Value) (v : Value) (l : List Md.Vr) (room : Nat) (w : World) (hR : RoomAt ety base R S F w) (hv : VarsAt w v l) (hl : l.length ≤ 100000) (hr0 : 0 < room) (hr : room ≤ 40) (hF0 : (F 6).length ≤ 1000000) (hF1 : (F 7).length ≤ 1000000) :
    Calls Tryz.prog 43 #[.pointer (some ⟨R, 0, none⟩), v, .int .i64 (room : Int)] w (LaidV base R S F w l room) := by
  have HR : Hid (RoomAt ety base R S F w) := hR
  have HV : Hid (VarsAt w v l) := hv
  obtain ⟨a, cap, rfl, hm⟩ := hv.form
  clear hR hv
  have hb0 : Below w.heap.size w (w.alloc (.cells #[] 61)) := (Below.refl _ _).alloc (Nat.le_refl _) _
  have HO : Hid ((w.alloc (.cells #[] 61)).ownsRow w.heap.size 61 3 (.slice (some ⟨w.heap.size, 0, none⟩) 0 0) 0 []) := World.ownsRow_made w #[] 0 (Nat.le_refl _) (by unfold maxLen; omega) rfl
  have HS : Hid (SrcAt (w.alloc (.cells #[] 61)) (.slice a l.length cap) l.length 3 (varCells l)) := (HV.out.below hb0).src
  have HB0 : Hid (Below w.heap.size w (w.alloc (.cells #[] 61))) := hb0
  clear hb0
  go_enter Tryz.func43, Tryz.ntmps43
  go_wp2_with (at_builtin; refine append_src _ rfl (.tmp 10) (.tmp 11) 22 61 (.agg #[.string ⟨#[]⟩, .int .i64 0, .int .i64 0]) 3 32 rfl und22 info78 rfl (by decide) w.heap.size _ _ 0 l.length [] _ (by rfl) (by rfl) HO.out HS.out (by unfold maxLen; omega) (by omega) HB0.out.size ?_; intro v1 w1 ho1 hg1 hn1)
  have HO1 : Hid (w1.ownsRow w.heap.size 61 3 v1 (l.length + 0) (laidVars l 0)) := by
    have : laidVars l 0 = [] ++ varCells l := by simp [laidVars, varCells]
    rw [this]
    rw [Nat.add_comm]; exact ho1
  have HB1 : Hid (Below w.heap.size w w1) := HB0.out.grown hg1 HB0.out.size (fun g hg => by simp [Value.ownBlock] at hg; omega)
  clear ho1 hg1 hn1
  go_loopw [7, 8] (fun fv iv wr => ∃ k : Nat, iv = .int .i64 (k : Int) ∧ k ≤ room ∧ Hid (wr.ownsRow w.heap.size 61 3 fv (l.length + k) (laidVars l k)) ∧ Hid (Below w.heap.size w wr)) (fun _ iv _ => room - (intOf iv).toNat)
  case atStart => exact ⟨0, rfl, Nat.zero_le _, HO1, HB1⟩
  case round =>
    obtain ⟨k, rfl, hk, hO, hB⟩ := hrel
    clear HO HS HB0 HO1 HB1
    by_cases hlt : k < room
    · have hkI : (k : Int) < (room : Int) := by omega
      have hnx := laidVars_next l k
      have HN : Hid (laidVars l (k + 1) = laidVars l k ++ [.string ⟨#[]⟩, .int .i64 (lotI k), .int .i64 0]) := hnx
      clear hnx
      go_wp2_with (first
        | (go_at_call 60; refine (lot_any k _).mono ?_; rintro e w' ⟨rfl, hww⟩; rw [hww])
        | (at_builtin; refine append_three wr (.string ⟨#[]⟩) (.int .i64 (lotI k)) (.int .i64 0) rfl (.tmp 18) (.tmp 22) 22 61 (.agg #[.string ⟨#[]⟩, .int .i64 0, .int .i64 0]) 32 rfl und22 info78 rfl w.heap.size _ _ _ (by rfl) hO.out rfl rfl rfl _ rfl (by rfl) (by unfold maxLen; omega) (by omega) hB.out.size ?_; intro v2 w2 ho2 hg2 hn2))
      have HO2 : Hid (w2.ownsRow w.heap.size 61 3 v2 (l.length + (k + 1)) (laidVars l (k + 1))) := by
        rw [HN.out]; exact ho2
      have HB2 : Hid (Below w.heap.size w w2) := (hB.out.alloc hB.out.size _).grown hg2 (by have := hB.out.size; simp; omega) (fun g hg => (hO.out.lt g hg).1)
      clear ho2 hg2 hn2
      go_wp2_with fail
      go_roundw
      case rel => exact ⟨k + 1, by go_num, by omega, HO2, HB2⟩
      case measure => simp [intOf]; omega
    · have hkI : ¬ (k : Int) < (room : Int) := by omega
      obtain rfl : k = room := by omega
      have hRw := HR.out.kept hB.out
      obtain ⟨v0, hv0, ho0, hl0⟩ := hRw.field 6 (by decide)
      obtain ⟨b, cp, cur, hfv, hbb, hbg, hbc, hbm, hbs, hbt⟩ : ∃ b cp cur, _ = Value.slice (some ⟨b, 0, none⟩) (l.length + k) cp ∧ w.heap.size ≤ b ∧ wr.heap[b]? = some (.cells cur 61 (0, 0)) ∧ l.length + k ≤ cp ∧ cp ≤ maxLen ∧ cur.size = cp * 3 ∧ cur.toList.take ((l.length + k) * 3) = laidVars l k := by
        rcases hO.out.2 with ⟨_, hn⟩ | h
        · omega
        · exact h
      subst hfv
      have hSb : S b = 0 := HR.out.top b hbb
      have hbw : b < wr.heap.size := (Array.getElem?_eq_some_iff.1 hbg).1
      have HCB : Hid (∀ j u, (laidVars l k)[j]? = some u → wr.cell? ⟨b, j, none⟩ = some u) := fun j u hj => by
        have := hO.out.cells (g := b) rfl j u hj
        rwa [addr_none, Nat.zero_add] at this
      have HAG : Hid (Agree S S w wr) := Agree.of_below S hB.out
      have HBW : Hid (Below w.heap.size w wr) := hB.out
      have HRW : Hid (RoomAt ety base R S F wr) := hRw
      have HF : Hid ((F 6).length ≤ 1000000 ∧ (F 7).length ≤ 1000000) := ⟨hF0, hF1⟩
      have HL0 : Hid (∀ g, v0.ownBlock = some g → S g = 6 + 1) := hl0
      have HO0 : Hid (wr.ownsRow base (ety 6) 1 v0 (F 6).length (F 6)) := ho0
      have Hcp : Hid (cp ≤ maxLen) := hbm
      have hcpI : (l.length : Int) + (k : Int) ≤ (cp : Int) := by omega
      unfold maxLen at hbm
      clear ho0 hl0 hRw hbg hbs hbt hO hF0 hF1 hB
      go_wp2_with (first
        | (at_builtin; refine append_one wr (.slice (some ⟨b, 0, none⟩) (l.length + k) cp) rfl (.tmp 28) (.tmp 30) 36 22 (.slice none 0 0) 24 rfl und33 info22 rfl base v0 _ _ (by rfl) HO0.out rfl _ rfl (by rfl) (by have := HF.out.1; unfold maxLen; omega) (by have := HF.out.1; omega) HRW.out.bas ?_; intro v1 w1 ho1 hg1 hn1;
           obtain ⟨a1, c1, hf1⟩ := own_form ho1;
           subst hf1;
           have hW1 : Below wr.heap.size wr (wr.alloc (.cells #[.slice (some ⟨b, 0, none⟩) (l.length + k) cp] 22)) := (Below.refl _ _).alloc (Nat.le_refl _) _;
           obtain ⟨hcR, hfR⟩ := HRW.out.after (f := 6) (by decide) hW1 hv0 hg1;
           obtain ⟨S1, hR1, hA1, hz1⟩ := HRW.out.push (f := 6) (by decide) hW1 hv0 ho1 hg1 (by simpa using hn1);
           have hh1 := HRW.out.push_high (v' := .slice a1 ((F 6).length + 1) c1) (f := 6) (by decide) hW1 hv0 hg1;
           have q0 := (hcR 6).trans hv0;
           have q1 := hfR 6;
           obtain ⟨w2, hw2⟩ : ∃ w2, w1.setCell ⟨R, 6, none⟩ (.slice a1 ((F 6).length + 1) c1) = w2 := ⟨_, rfl⟩;
           rw [hw2] at hR1 hA1 hh1;
           have HH1 : Hid (∀ k, k < wr.heap.size → 150 ≤ S k → w2.heap[k]? = wr.heap[k]?) := hh1;
           have HR1 : Hid (RoomAt ety base R S1 (fun j => if j = 6 then F 6 ++ [.slice (some ⟨b, 0, none⟩) (l.length + k) cp] else F j) w2) := hR1;
           have HA1 : Hid (Agree S S1 wr w2) := hA1;
           clear ho1 hg1 hn1 hW1 hcR hfR hA1 hz1 hh1;
           obtain ⟨vA, hvA, hoA, hlA⟩ := hR1.field 7 (by decide);
           have HOA : Hid (w2.ownsRow base 3 1 vA (F 7).length (F 7)) := hoA;
           clear hR1 hoA hlA)
        | (at_builtin; refine append_one w2 (.int .i64 (l.length : Int)) rfl (.tmp 38) (.tmp 41) 33 3 (.int .i64 0) 8 rfl und27 info3 rfl base vA _ _ (by rfl) HOA.out rfl _ rfl (by rfl) (by have := HF.out.2; unfold maxLen; omega) (by have := HF.out.2; omega) HR1.out.bas ?_; intro v3 w3 ho3 hg3 hn3;
           obtain ⟨a3, c3, hf3⟩ := own_form ho3;
           subst hf3;
           have hW3 : Below w2.heap.size w2 (w2.alloc (.cells #[.int .i64 (l.length : Int)] 3)) := (Below.refl _ _).alloc (Nat.le_refl _) _;
           obtain ⟨hcR3, hfR3⟩ := HR1.out.after (f := 7) (by decide) hW3 hvA hg3;
           obtain ⟨S3, hR3, hA3, hz3⟩ := HR1.out.push (f := 7) (by decide) hW3 hvA ho3 hg3 (by simpa using hn3);
           have hh3 := HR1.out.push_high (v' := .slice a3 ((F 7).length + 1) c3) (f := 7) (by decide) hW3 hvA hg3;
           have q3 := (hcR3 7).trans hvA;
           have q4 := hfR3 7;
           obtain ⟨w4, hw4⟩ : ∃ w4, w3.setCell ⟨R, 7, none⟩ (.slice a3 ((F 7).length + 1) c3) = w4 := ⟨_, rfl⟩;
           rw [hw4] at hR3 hA3 hh3;
           have HH3 : Hid (∀ k, k < w2.heap.size → 150 ≤ S1 k → w4.heap[k]? = w2.heap[k]?) := hh3;
           have HR3 : Hid (RoomAt ety base R S3 (fun j => if j = 7 then F 7 ++ [.int .i64 (l.length : Int)] else if j = 6 then F 6 ++ [.slice (some ⟨b, 0, none⟩) (l.length + k) cp] else F j) w4) := hR3;
           have HA3 : Hid (Agree S1 S3 w2 w4) := hA3;
           clear ho3 hg3 hn3 hW3 hcR3 hfR3 hR3 hA3 hz3 hh3))
      go_ret
      have hs1 : S1 b = 0 := (HA1.out.lab b hbw).trans hSb
      have hbw2 : b < w2.heap.size := Nat.lt_of_lt_of_le hbw HA1.out.size
      refine ⟨⟨b, cp, S3, _, rfl, hbb, Nat.lt_of_lt_of_le hbw2 HA3.out.size, (HA3.out.lab b hbw2).trans hs1, HR3.out, rfl, rfl, fun j h0 h1 => by simp [h0, h1], (HAG.out.trans HA1.out).trans HA3.out, fun j u hj => ?_, fun q hq hS => ?_⟩⟩
      · exact (HA3.out.cell (a := ⟨b, j, none⟩) hbw2 hs1).trans ((HA1.out.cell (a := ⟨b, j, none⟩) hbw hSb).trans (HCB.out j u hj))
      · have hq1 : q < wr.heap.size := Nat.lt_of_lt_of_le hq HBW.out.size
        exact (HH3.out q (Nat.lt_of_lt_of_le hq1 HA1.out.size) (by rw [HA1.out.lab q hq1]; exact hS)).trans ((HH1.out q hq1 hS).trans (HBW.out.block q hq))
end Go.Proofs.YtjanpglnahagdaaGreatDoor
