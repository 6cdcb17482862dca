/-
  Put together: MdLayT, MdLayL.
-/
import Derived.Test.YtjanpglnahagdaaGreatDoorMdLay
namespace Go.Proofs.YtjanpglnahagdaaGreatDoor
open Go.RowKit

/-- Terms, cell by cell. -/
def termCells (l : List (Int × Int)) : List Value := l.flatMap fun t => [.int .i64 t.1, .int .i64 t.2]
theorem termCells_append (a b : List (Int × Int)) : termCells (a ++ b) = termCells a ++ termCells b := by simp [termCells]
theorem termCells_length (l : List (Int × Int)) : (termCells l).length = l.length * 2 := by
  induction l with
  | nil => rfl
  | cons t l ih => simp only [termCells, List.flatMap_cons, List.length_append, List.length_cons] at *; rw [ih]; simp; omega
theorem termCells_get (l : List (Int × Int)) (k : Nat) (hk : k < l.length) : (termCells l)[k * 2]? = some (.int .i64 l[k].1) ∧ (termCells l)[k * 2 + 1]? = some (.int .i64 l[k].2) := by
  induction l generalizing k with
  | nil => simp at hk
  | cons t l ih =>
    cases k with
    | zero => exact ⟨rfl, rfl⟩
    | succ k =>
      have := ih k (by simpa using hk)
      simp only [termCells, List.flatMap_cons, List.getElem_cons_succ] at *
      refine ⟨?_, ?_⟩
      · rw [List.getElem?_append_right (by simp; omega), ← this.1]; congr 1; simp; omega
      · rw [List.getElem?_append_right (by simp; omega), ← this.2]; congr 1; simp; omega

theorem TermsAt.src {w : World} {v : Value} {l : List (Int × Int)} (h : TermsAt w v l) : SrcAt w v l.length 2 (termCells l) := by
  obtain ⟨a, cap, rfl, hm, hc⟩ := h
  refine ⟨a, cap, rfl, termCells_length l, fun u hu => ?_, fun ha => ?_, fun ad ha j u hj => ?_⟩
  · simp only [termCells, List.mem_flatMap] at hu
    obtain ⟨t, _, hu⟩ := hu
    simp only [List.mem_cons, List.not_mem_nil, or_false] at hu
    rcases hu with rfl | rfl <;> rfl
  · rcases Nat.eq_zero_or_pos l.length with h | h
    · exact h
    · obtain ⟨b, off, hb, _⟩ := hc h
      rw [ha] at hb; cases hb
  · have hj' : j < l.length * 2 := by
      obtain ⟨h1, _⟩ := List.getElem?_eq_some_iff.1 hj
      rwa [termCells_length] at h1
    obtain ⟨b, off, hb, hlt, hcell⟩ := hc (by omega)
    rw [ha] at hb
    injection hb with hb
    subst hb
    rw [addr_none]
    have hk : j / 2 < l.length := by omega
    have hg := termCells_get l (j / 2) hk
    have hcl := hcell (j / 2) hk
    rcases Nat.mod_two_eq_zero_or_one j with h0 | h0
    · have e : j / 2 * 2 = j := by omega
      rw [e] at hg hcl
      rw [hg.1] at hj
      rw [← hj]; exact hcl.1
    · have e : j / 2 * 2 + 1 = j := by omega
      have e2 : off + j / 2 * 2 + 1 = off + j := by omega
      rw [e] at hg
      rw [e2] at hcl
      rw [hg.2] at hj
      rw [← hj]; exact hcl.2

/-- One element of two cells more: it stands in a new block. -/
theorem append_two {P : Program} {ops : Array Oper} {rest : List Oper} {o : Oper} {a : Act} {Q : Exit → Act → World → Prop} (wr : World) (u1 u2 : Value) (hgd : o.guard = none) (s x : Operand) (t e : TypeId) (z : Value) (bytes : Nat)
    (ho : o.op = .call { callee := .builtin .append, args := #[s, x], argTypes := #[t, t] }) (ht : P.underlying t = some (.slice e)) (hinfo : (P.info? e).map (fun i => (i.zero, i.size, i.bytes)) = some (some z, 2, bytes)) (hz1 : z.cells.size = 2)
    (base : Nat) (v : Value) (n : Nat) (xs : List Value) (hs : a.eval s = v) (hown : wr.ownsRow base e 2 v n xs) (hu1 : u1.oneCell' = true) (hu2 : u2.oneCell' = true)
    (bk : Nat) (hbk : wr.heap.size = bk) (hx : a.eval x = .slice (some ⟨bk, 0, none⟩) 1 1) (h63 : n + 1 ≤ maxLen) (hbytes : (n + 1) * bytes ≤ 140737488355328) (hbase : base ≤ wr.heap.size)
    (h : ∀ v' w', w'.ownsRow base e 2 v' (n + 1) (xs ++ [u1, u2]) → (wr.alloc (.cells #[u1, u2] e)).grownBy w' v.ownBlock → (v'.ownBlock = v.ownBlock ∨ v'.ownBlock = some (wr.heap.size + 1)) → wpList P ops Q rest (a.put o.dst v') w') : wpList P ops Q (o :: rest) a (wr.alloc (.cells #[u1, u2] e)) := by
  subst hbk
  obtain ⟨i0, hi, hz0, hz1', hz2⟩ := info_of hinfo
  have hsz : (wr.alloc (.cells #[u1, u2] e)).heap.size = wr.heap.size + 1 := by simp
  refine wpList_append_s _ hgd s x t ho base e i0 z 2 bytes ht hi hz0 hz1' hz2 hz1 (by decide) v n xs hs (hown.alloc _) ⟨wr.heap.size, 0, none⟩ 1 1 [u1, u2] hx rfl ?_ ?_ h63 hbytes (by rw [hsz]; omega) ?_
  · intro j y hj
    rw [addr_none]
    match j, hj with
    | 0, hj => simp at hj; subst hj; show World.cell? _ ⟨wr.heap.size, 0, none⟩ = _; unfold World.cell?; rw [heap_alloc_new wr (.cells #[u1, u2] e)]; rfl
    | 1, hj => simp at hj; subst hj; show World.cell? _ ⟨wr.heap.size, 1, none⟩ = _; unfold World.cell?; rw [heap_alloc_new wr (.cells #[u1, u2] e)]; rfl
    | k + 2, hj => simp at hj
  · intro y hy
    simp only [List.mem_cons, List.not_mem_nil, or_false] at hy
    rcases hy with rfl | rfl
    · exact hu1
    · exact hu2
  · intro v' w' h1 h2 h3
    rw [hsz] at h3
    exact h v' w' h1 h2 h3

theorem und24 : Tryz.prog.underlying 24 = some (.slice 101) := by kernel_rfl
theorem und32 : Tryz.prog.underlying 35 = some (.slice 24) := by kernel_rfl
theorem info107 : (Tryz.prog.info? 101).map (fun i => (i.zero, i.size, i.bytes)) = some (some (.agg #[.int .i64 0, .int .i64 0]), 2, 16) := by kernel_rfl
theorem info24 : (Tryz.prog.info? 24).map (fun i => (i.zero, i.size, i.bytes)) = some (some (.slice none 0 0), 1, 24) := by kernel_rfl

/-- The cells of a list with its room. -/
def laidTerms (l : List (Int × Int)) (k : Nat) : List Value := termCells l ++ termCells ((List.range k).map fun j => (lotI j, 0))
theorem laidTerms_next (l : List (Int × Int)) (k : Nat) : laidTerms l (k + 1) = laidTerms l k ++ [.int .i64 (lotI k), .int .i64 0] := by
  unfold laidTerms; rw [List.range_succ, List.map_append, termCells_append]; simp [termCells]

/-- What layTerms leaves. -/
structure LaidT (base R : Nat) (S : Lab) (F : Nat → List Value) (w : World) (l : List (Int × Int)) (room : Nat) (e : Ending) (w' : World) : Prop where
  out : ∃ b cap S' F', e = .returned (.slice (some ⟨b, 0, none⟩) l.length (l.length + room)) ∧ w.heap.size ≤ b ∧ b < w'.heap.size ∧ S' b = 0 ∧
    RoomAt ety base R S' F' w' ∧ F' 4 = F 4 ++ [.slice (some ⟨b, 0, none⟩) (l.length + room) cap] ∧ F' 5 = F 5 ++ [.int .i64 (l.length : Int)] ∧ (∀ j, j ≠ 4 → j ≠ 5 → F' j = F j) ∧ Agree S S' w w' ∧
    (∀ j u, (laidTerms l room)[j]? = some u → w'.cell? ⟨b, j, none⟩ = some u) ∧ ∀ k, k < w.heap.size → 150 ≤ S k → w'.heap[k]? = w.heap[k]?

set_option maxRecDepth 10000 in
set_option maxHeartbeats 2000000 in
theorem layTerms_any (base R : Nat) (S : Lab) (F : Nat → List Value) (v : Value) (l : List (Int × Int)) (room : Nat) (w : World) (hR : RoomAt ety base R S F w) (hv : TermsAt w v l) (hl : l.length ≤ 100000) (hr0 : 0 < room) (hr : room ≤ 40) (hF0 : (F 4).length ≤ 1000000) (hF1 : (F 5).length ≤ 1000000) :
    Calls Tryz.prog 45 #[.pointer (some ⟨R, 0, none⟩), v, .int .i64 (room : Int)] w (LaidT base R S F w l room) := by
  have HR : Hid (RoomAt ety base R S F w) := hR
  have HV : Hid (TermsAt w v l) := hv
  obtain ⟨a, cap, rfl, hm⟩ := hv.form
  clear hR hv
  have hb0 : Below w.heap.size w (w.alloc (.cells #[] 101)) := (Below.refl _ _).alloc (Nat.le_refl _) _
  have HO : Hid ((w.alloc (.cells #[] 101)).ownsRow w.heap.size 101 2 (.slice (some ⟨w.heap.size, 0, none⟩) 0 0) 0 []) := World.ownsRow_made w #[] 0 (Nat.le_refl _) (by unfold maxLen; omega) rfl
  have HS : Hid (SrcAt (w.alloc (.cells #[] 101)) (.slice a l.length cap) l.length 2 (termCells l)) := (HV.out.below hb0).src
  have HB0 : Hid (Below w.heap.size w (w.alloc (.cells #[] 101))) := hb0
  clear hb0
  go_enter Tryz.func45, Tryz.ntmps45
  go_wp2_with (at_builtin; refine append_src _ rfl (.tmp 10) (.tmp 11) 24 101 (.agg #[.int .i64 0, .int .i64 0]) 2 16 rfl und24 info107 rfl (by decide) w.heap.size _ _ 0 l.length [] _ (by rfl) (by rfl) HO.out HS.out (by unfold maxLen; omega) (by omega) HB0.out.size ?_; intro v1 w1 ho1 hg1 hn1)
  have HO1 : Hid (w1.ownsRow w.heap.size 101 2 v1 (l.length + 0) (laidTerms l 0)) := by
    have : laidTerms l 0 = [] ++ termCells l := by simp [laidTerms, termCells]
    rw [this]
    rw [Nat.add_comm]; exact ho1
  have HB1 : Hid (Below w.heap.size w w1) := HB0.out.grown hg1 HB0.out.size (fun g hg => by simp [Value.ownBlock] at hg; omega)
  clear ho1 hg1 hn1
  go_loopw [7, 8] (fun fv iv wr => ∃ k : Nat, iv = .int .i64 (k : Int) ∧ k ≤ room ∧ Hid (wr.ownsRow w.heap.size 101 2 fv (l.length + k) (laidTerms l k)) ∧ Hid (Below w.heap.size w wr)) (fun _ iv _ => room - (intOf iv).toNat)
  case atStart => exact ⟨0, rfl, Nat.zero_le _, HO1, HB1⟩
  case round =>
    obtain ⟨k, rfl, hk, hO, hB⟩ := hrel
    clear HO HS HB0 HO1 HB1
    by_cases hlt : k < room
    · have hkI : (k : Int) < (room : Int) := by omega
      have hnx := laidTerms_next l k
      have HN : Hid (laidTerms l (k + 1) = laidTerms l k ++ [.int .i64 (lotI k), .int .i64 0]) := hnx
      clear hnx
      go_wp2_with (first
        | (go_at_call 60; refine (lot_any k _).mono ?_; rintro e w' ⟨rfl, hww⟩; rw [hww])
        | (at_builtin; refine append_two wr (.int .i64 (lotI k)) (.int .i64 0) rfl (.tmp 18) (.tmp 22) 24 101 (.agg #[.int .i64 0, .int .i64 0]) 16 rfl und24 info107 rfl w.heap.size _ _ _ (by rfl) hO.out rfl rfl _ rfl (by rfl) (by unfold maxLen; omega) (by omega) hB.out.size ?_; intro v2 w2 ho2 hg2 hn2))
      have HO2 : Hid (w2.ownsRow w.heap.size 101 2 v2 (l.length + (k + 1)) (laidTerms l (k + 1))) := by
        rw [HN.out]; exact ho2
      have HB2 : Hid (Below w.heap.size w w2) := (hB.out.alloc hB.out.size _).grown hg2 (by have := hB.out.size; simp; omega) (fun g hg => (hO.out.lt g hg).1)
      clear ho2 hg2 hn2
      go_wp2_with fail
      go_roundw
      case rel => exact ⟨k + 1, by go_num, by omega, HO2, HB2⟩
      case measure => simp [intOf]; omega
    · have hkI : ¬ (k : Int) < (room : Int) := by omega
      obtain rfl : k = room := by omega
      have hRw := HR.out.kept hB.out
      obtain ⟨v0, hv0, ho0, hl0⟩ := hRw.field 4 (by decide)
      obtain ⟨b, cp, cur, hfv, hbb, hbg, hbc, hbm, hbs, hbt⟩ : ∃ b cp cur, _ = Value.slice (some ⟨b, 0, none⟩) (l.length + k) cp ∧ w.heap.size ≤ b ∧ wr.heap[b]? = some (.cells cur 101 (0, 0)) ∧ l.length + k ≤ cp ∧ cp ≤ maxLen ∧ cur.size = cp * 2 ∧ cur.toList.take ((l.length + k) * 2) = laidTerms l k := by
        rcases hO.out.2 with ⟨_, hn⟩ | h
        · omega
        · exact h
      subst hfv
      have hSb : S b = 0 := HR.out.top b hbb
      have hbw : b < wr.heap.size := (Array.getElem?_eq_some_iff.1 hbg).1
      have HCB : Hid (∀ j u, (laidTerms l k)[j]? = some u → wr.cell? ⟨b, j, none⟩ = some u) := fun j u hj => by
        have := hO.out.cells (g := b) rfl j u hj
        rwa [addr_none, Nat.zero_add] at this
      have HAG : Hid (Agree S S w wr) := Agree.of_below S hB.out
      have HBW : Hid (Below w.heap.size w wr) := hB.out
      have HRW : Hid (RoomAt ety base R S F wr) := hRw
      have HF : Hid ((F 4).length ≤ 1000000 ∧ (F 5).length ≤ 1000000) := ⟨hF0, hF1⟩
      have HL0 : Hid (∀ g, v0.ownBlock = some g → S g = 4 + 1) := hl0
      have HO0 : Hid (wr.ownsRow base (ety 4) 1 v0 (F 4).length (F 4)) := ho0
      have Hcp : Hid (cp ≤ maxLen) := hbm
      have hcpI : (l.length : Int) + (k : Int) ≤ (cp : Int) := by omega
      unfold maxLen at hbm
      clear ho0 hl0 hRw hbg hbs hbt hO hF0 hF1 hB
      go_wp2_with (first
        | (at_builtin; refine append_one wr (.slice (some ⟨b, 0, none⟩) (l.length + k) cp) rfl (.tmp 28) (.tmp 30) 35 24 (.slice none 0 0) 24 rfl und32 info24 rfl base v0 _ _ (by rfl) HO0.out rfl _ rfl (by rfl) (by have := HF.out.1; unfold maxLen; omega) (by have := HF.out.1; omega) HRW.out.bas ?_; intro v1 w1 ho1 hg1 hn1;
           obtain ⟨a1, c1, hf1⟩ := own_form ho1;
           subst hf1;
           have hW1 : Below wr.heap.size wr (wr.alloc (.cells #[.slice (some ⟨b, 0, none⟩) (l.length + k) cp] 24)) := (Below.refl _ _).alloc (Nat.le_refl _) _;
           obtain ⟨hcR, hfR⟩ := HRW.out.after (f := 4) (by decide) hW1 hv0 hg1;
           obtain ⟨S1, hR1, hA1, hz1⟩ := HRW.out.push (f := 4) (by decide) hW1 hv0 ho1 hg1 (by simpa using hn1);
           have hh1 := HRW.out.push_high (v' := .slice a1 ((F 4).length + 1) c1) (f := 4) (by decide) hW1 hv0 hg1;
           have q0 := (hcR 4).trans hv0;
           have q1 := hfR 4;
           obtain ⟨w2, hw2⟩ : ∃ w2, w1.setCell ⟨R, 4, none⟩ (.slice a1 ((F 4).length + 1) c1) = w2 := ⟨_, rfl⟩;
           rw [hw2] at hR1 hA1 hh1;
           have HH1 : Hid (∀ k, k < wr.heap.size → 150 ≤ S k → w2.heap[k]? = wr.heap[k]?) := hh1;
           have HR1 : Hid (RoomAt ety base R S1 (fun j => if j = 4 then F 4 ++ [.slice (some ⟨b, 0, none⟩) (l.length + k) cp] else F j) w2) := hR1;
           have HA1 : Hid (Agree S S1 wr w2) := hA1;
           clear ho1 hg1 hn1 hW1 hcR hfR hA1 hz1 hh1;
           obtain ⟨vA, hvA, hoA, hlA⟩ := hR1.field 5 (by decide);
           have HOA : Hid (w2.ownsRow base 3 1 vA (F 5).length (F 5)) := hoA;
           clear hR1 hoA hlA)
        | (at_builtin; refine append_one w2 (.int .i64 (l.length : Int)) rfl (.tmp 38) (.tmp 41) 33 3 (.int .i64 0) 8 rfl und27 info3 rfl base vA _ _ (by rfl) HOA.out rfl _ rfl (by rfl) (by have := HF.out.2; unfold maxLen; omega) (by have := HF.out.2; omega) HR1.out.bas ?_; intro v3 w3 ho3 hg3 hn3;
           obtain ⟨a3, c3, hf3⟩ := own_form ho3;
           subst hf3;
           have hW3 : Below w2.heap.size w2 (w2.alloc (.cells #[.int .i64 (l.length : Int)] 3)) := (Below.refl _ _).alloc (Nat.le_refl _) _;
           obtain ⟨hcR3, hfR3⟩ := HR1.out.after (f := 5) (by decide) hW3 hvA hg3;
           obtain ⟨S3, hR3, hA3, hz3⟩ := HR1.out.push (f := 5) (by decide) hW3 hvA ho3 hg3 (by simpa using hn3);
           have hh3 := HR1.out.push_high (v' := .slice a3 ((F 5).length + 1) c3) (f := 5) (by decide) hW3 hvA hg3;
           have q3 := (hcR3 5).trans hvA;
           have q4 := hfR3 5;
           obtain ⟨w4, hw4⟩ : ∃ w4, w3.setCell ⟨R, 5, none⟩ (.slice a3 ((F 5).length + 1) c3) = w4 := ⟨_, rfl⟩;
           rw [hw4] at hR3 hA3 hh3;
           have HH3 : Hid (∀ k, k < w2.heap.size → 150 ≤ S1 k → w4.heap[k]? = w2.heap[k]?) := hh3;
           have HR3 : Hid (RoomAt ety base R S3 (fun j => if j = 5 then F 5 ++ [.int .i64 (l.length : Int)] else if j = 4 then F 4 ++ [.slice (some ⟨b, 0, none⟩) (l.length + k) cp] else F j) w4) := hR3;
           have HA3 : Hid (Agree S1 S3 w2 w4) := hA3;
           clear ho3 hg3 hn3 hW3 hcR3 hfR3 hR3 hA3 hz3 hh3))
      go_ret
      have hs1 : S1 b = 0 := (HA1.out.lab b hbw).trans hSb
      have hbw2 : b < w2.heap.size := Nat.lt_of_lt_of_le hbw HA1.out.size
      refine ⟨⟨b, cp, S3, _, rfl, hbb, Nat.lt_of_lt_of_le hbw2 HA3.out.size, (HA3.out.lab b hbw2).trans hs1, HR3.out, rfl, rfl, fun j h0 h1 => by simp [h0, h1], (HAG.out.trans HA1.out).trans HA3.out, fun j u hj => ?_, fun q hq hS => ?_⟩⟩
      · exact (HA3.out.cell (a := ⟨b, j, none⟩) hbw2 hs1).trans ((HA1.out.cell (a := ⟨b, j, none⟩) hbw hSb).trans (HCB.out j u hj))
      · have hq1 : q < wr.heap.size := Nat.lt_of_lt_of_le hq HBW.out.size
        exact (HH3.out q (Nat.lt_of_lt_of_le hq1 HA1.out.size) (by rw [HA1.out.lab q hq1]; exact hS)).trans ((HH1.out q hq1 hS).trans (HBW.out.block q hq))
end Go.Proofs.YtjanpglnahagdaaGreatDoor

namespace Go.Proofs.YtjanpglnahagdaaGreatDoor
open Go.RowKit

theorem RoomAt.grown {ety : Nat → TypeId} {base R : Nat} {S : Lab} {F : Nat → List Value} {w w' : World} {row : Option Nat} (h : RoomAt ety base R S F w) (hg : w.grownBy w' row) (h0 : ∀ g, row = some g → S g = 0) : RoomAt ety base R S F w' := by
  have hR := h.lt
  have hb : ∀ k, k < w.heap.size → S k ≠ 0 → w'.heap[k]? = w.heap[k]? := fun k hk hS => hg.block k hk (fun he => hS (h0 k he.symm))
  refine ⟨h.lab, fun k hk => h.top k (Nat.le_trans hg.size hk), h.low, Nat.le_trans h.bas hg.size, ?_, fun f hf => ?_⟩
  · obtain ⟨cs, t, h1, h2⟩ := h.blk
    exact ⟨cs, t, (hb R hR (by rw [h.lab]; decide)).trans h1, h2⟩
  · obtain ⟨v, h1, h2, h3⟩ := h.field f hf
    exact ⟨v, (World.cell?_of_block (a := ⟨R, f, none⟩) (hb R hR (by rw [h.lab]; decide))).trans h1, ownsRow_same h2 (fun g hg' => hb g (h2.lt g hg').2 (by rw [h3 g hg']; omega)), h3⟩
theorem Agree.grown {S S' : Lab} {w w1 w2 : World} {row : Option Nat} (h : Agree S S' w w1) (hg : w1.grownBy w2 row) (hr : ∀ g, row = some g → w.heap.size ≤ g) : Agree S S' w w2 :=
  ⟨hg.os.trans h.os, hg.tape.trans h.tape, hg.output.trans h.output, Nat.le_trans h.size hg.size, h.lab, fun k hk h0 => (hg.block k (Nat.lt_of_lt_of_le hk h.size) (fun he => by have := hr k he.symm; omega)).trans (h.block k hk h0)⟩
theorem grownBy_of_below {w W w' : World} {row : Option Nat} (hW : Below w.heap.size w W) (hg : W.grownBy w' row) : w.grownBy w' row :=
  ⟨hg.os.trans hW.os, hg.tape.trans hW.tape, hg.output.trans hW.output, Nat.le_trans hW.size hg.size, fun k hk hne => (hg.block k (Nat.lt_of_lt_of_le hk hW.size) hne).trans (hW.block k hk)⟩

/-- A list that was laid within a list. -/
structure Row1 where
  b : Nat
  cap : Nat
  l : List Int
def Row1.val (r : Row1) : Value := .slice (some ⟨r.b, 0, none⟩) r.l.length (r.l.length + 4)
def Row1.ent (r : Row1) : Value := .slice (some ⟨r.b, 0, none⟩) (r.l.length + 4) r.cap
def Row1.at_ (r : Row1) : Value := .int .i64 (r.l.length : Int)
/-- It lies there, apart from the row that is being made. -/
structure Row1.Ok (S : Lab) (w : World) (base : Nat) (av : Option Nat) (r : Row1) : Prop where
  ge : base ≤ r.b
  lt : r.b < w.heap.size
  lab : S r.b = 0
  ne : some r.b ≠ av
  cells : ∀ j u, (laidInts r.l 4)[j]? = some u → w.cell? ⟨r.b, j, none⟩ = some u
theorem Row1.Ok.agree {S S' : Lab} {w w' : World} {base : Nat} {av : Option Nat} {r : Row1} (h : r.Ok S w base av) (ha : Agree S S' w w') : r.Ok S' w' base av :=
  ⟨h.ge, Nat.lt_of_lt_of_le h.lt ha.size, (ha.lab _ h.lt).trans h.lab, h.ne, fun j u hj => (ha.cell (a := ⟨r.b, j, none⟩) h.lt h.lab).trans (h.cells j u hj)⟩
theorem Row1.Ok.grown {S : Lab} {w w' : World} {base : Nat} {av av' : Option Nat} {r : Row1} (h : r.Ok S w base av) (hg : w.grownBy w' av) (hn : av' = av ∨ ∃ g, av' = some g ∧ w.heap.size ≤ g) : r.Ok S w' base av' := by
  refine ⟨h.ge, Nat.lt_of_lt_of_le h.lt hg.size, h.lab, ?_, fun j u hj => (World.cell?_of_block (a := ⟨r.b, j, none⟩) (hg.block r.b h.lt h.ne)).trans (h.cells j u hj)⟩
  rcases hn with rfl | ⟨g, rfl, hgg⟩
  · exact h.ne
  · intro he
    injection he with he
    have := h.lt
    omega
/-- A mark of a list of lists. -/
structure MarkOk (S : Lab) (w : World) (av : Option Nat) (m : Nat) (y : Int) : Prop where
  lt : m < w.heap.size
  lab : S m = 0
  ne : some m ≠ av
  cell : w.cell? ⟨m, 0, none⟩ = some (.int .i64 y)
theorem MarkOk.agree {S S' : Lab} {w w' : World} {av : Option Nat} {m : Nat} {y : Int} (h : MarkOk S w av m y) (ha : Agree S S' w w') : MarkOk S' w' av m y :=
  ⟨Nat.lt_of_lt_of_le h.lt ha.size, (ha.lab _ h.lt).trans h.lab, h.ne, (ha.cell (a := ⟨m, 0, none⟩) h.lt h.lab).trans h.cell⟩
theorem MarkOk.grown {S : Lab} {w w' : World} {av av' : Option Nat} {m : Nat} {y : Int} (h : MarkOk S w av m y) (hg : w.grownBy w' av) (hn : av' = av ∨ ∃ g, av' = some g ∧ w.heap.size ≤ g) : MarkOk S w' av' m y := by
  refine ⟨Nat.lt_of_lt_of_le h.lt hg.size, h.lab, ?_, (World.cell?_of_block (a := ⟨m, 0, none⟩) (hg.block m h.lt h.ne)).trans h.cell⟩
  rcases hn with rfl | ⟨g, rfl, hgg⟩
  · exact h.ne
  · intro he
    injection he with he
    have := h.lt
    omega
def markVal (m : Nat) : Value := .slice (some ⟨m, 0, none⟩) 1 1

/-- Where the first loop of layLists stands. -/
structure LL1 (base R : Nat) (S0 : Lab) (F0 : Nat → List Value) (w : World) (l : List (List Int)) (k : Nat) (fv : Value) (S : Lab) (F : Nat → List Value) (D : List Row1) (wr : World) : Prop where
  room : RoomAt ety base R S F wr
  agree : Agree S0 S w wr
  own : wr.ownsRow w.heap.size 33 1 fv D.length (D.map Row1.val)
  lab : ∀ g, fv.ownBlock = some g → S g = 0
  rows : D.map Row1.l = l.take k
  ok : ∀ r ∈ D, r.Ok S wr w.heap.size fv.ownBlock
  f0 : F 0 = F0 0 ++ D.map Row1.ent
  f1 : F 1 = F0 1 ++ D.map Row1.at_
  f : ∀ j, j ≠ 0 → j ≠ 1 → F j = F0 j
  high : ∀ k, k < w.heap.size → 150 ≤ S0 k → wr.heap[k]? = w.heap[k]?

theorem LL1.len {base R : Nat} {S0 : Lab} {F0 : Nat → List Value} {w : World} {l : List (List Int)} {k : Nat} {fv : Value} {S : Lab} {F : Nat → List Value} {D : List Row1} {wr : World} (h : LL1 base R S0 F0 w l k fv S F D wr) (hk : k ≤ l.length) : D.length = k := by
  have := congrArg List.length h.rows
  simp at this
  omega

/-- One list more. -/
theorem LL1.next {base R : Nat} {S0 : Lab} {F0 : Nat → List Value} {w : World} {l : List (List Int)} {k : Nat} {fv fv' : Value} {S S1 : Lab} {F F1 : Nat → List Value} {D : List Row1} {wr w1 w2 : World} (h : LL1 base R S0 F0 w l k fv S F D wr) (hk : k < l.length)
    {b cap : Nat} (hb : wr.heap.size ≤ b) (hb1 : b < w1.heap.size) (hS1 : S1 b = 0) (hR1 : RoomAt ety base R S1 F1 w1) (h0 : F1 0 = F 0 ++ [.slice (some ⟨b, 0, none⟩) ((l[k]).length + 4) cap]) (h1 : F1 1 = F 1 ++ [.int .i64 ((l[k]).length : Int)]) (hF : ∀ j, j ≠ 0 → j ≠ 1 → F1 j = F j)
    (hA : Agree S S1 wr w1) (hc : ∀ j u, (laidInts l[k] 4)[j]? = some u → w1.cell? ⟨b, j, none⟩ = some u) (hh : ∀ k, k < wr.heap.size → 150 ≤ S k → w1.heap[k]? = wr.heap[k]?)
    {W1 : World} (hW : Below w1.heap.size w1 W1) (ho : w2.ownsRow w.heap.size 33 1 fv' (D.length + 1) (D.map Row1.val ++ [.slice (some ⟨b, 0, none⟩) (l[k]).length ((l[k]).length + 4)])) (hg : W1.grownBy w2 fv.ownBlock) (hn : fv'.ownBlock = fv.ownBlock ∨ ∃ g, fv'.ownBlock = some g ∧ w1.heap.size ≤ g) :
    LL1 base R S0 F0 w l (k + 1) fv' S1 F1 (D ++ [⟨b, cap, l[k]⟩]) w2 := by
  have hg1 := grownBy_of_below hW hg
  have hlt : ∀ g, fv.ownBlock = some g → w.heap.size ≤ g ∧ g < wr.heap.size := h.own.lt
  have hl1 : ∀ g, fv.ownBlock = some g → S1 g = 0 := fun g hg' => (hA.lab g (hlt g hg').2).trans (h.lab g hg')
  refine ⟨hR1.grown hg1 hl1, (h.agree.trans hA).grown hg1 (fun g hg' => (hlt g hg').1), ?_, ?_, ?_, ?_, ?_, ?_, fun j hj0 hj1 => (hF j hj0 hj1).trans (h.f j hj0 hj1), fun q hq hS => ?_⟩
  · simpa [Row1.val] using ho
  · intro g hg'
    rcases hn with e | ⟨g', e, hge⟩
    · exact hl1 g (e ▸ hg')
    · rw [e] at hg'
      injection hg' with hg'
      subst hg'
      exact hR1.top g' hge
  · rw [List.map_append, h.rows, List.take_succ_eq_append_getElem hk]; rfl
  · intro r hr
    rcases List.mem_append.1 hr with hr | hr
    · exact ((h.ok r hr).agree hA).grown hg1 hn
    · rw [List.mem_singleton.1 hr]
      have hne : some b ≠ fv.ownBlock := fun he => by have := (hlt b he.symm).2; omega
      exact Row1.Ok.grown (av := fv.ownBlock) ⟨Nat.le_trans h.agree.size hb, hb1, hS1, hne, hc⟩ hg1 hn
  · rw [h0, h.f0]; simp [Row1.ent]
  · rw [h1, h.f1]; simp [Row1.at_]
  · have hq1 : q < wr.heap.size := Nat.lt_of_lt_of_le hq h.agree.size
    exact (hg1.block q (Nat.lt_of_lt_of_le hq1 hA.size) (fun he => by have := (hlt q he.symm).1; omega)).trans ((hh q hq1 (by rw [h.agree.lab q hq]; exact hS)).trans (h.high q hq hS))

/-- Where the second loop of layLists stands. -/
structure LL2 (base R : Nat) (S0 : Lab) (F0 : Nat → List Value) (w : World) (l : List (List Int)) (k : Nat) (fv : Value) (S : Lab) (F : Nat → List Value) (D : List Row1) (M : List Nat) (wr : World) : Prop where
  room : RoomAt ety base R S F wr
  agree : Agree S0 S w wr
  own : wr.ownsRow w.heap.size 33 1 fv (l.length + k) (D.map Row1.val ++ M.map markVal)
  lab : ∀ g, fv.ownBlock = some g → S g = 0
  rows : D.map Row1.l = l
  ok : ∀ r ∈ D, r.Ok S wr w.heap.size fv.ownBlock
  len : M.length = k
  marks : ∀ i (h : i < M.length), MarkOk S wr fv.ownBlock M[i] (lotI i)
  f0 : F 0 = F0 0 ++ D.map Row1.ent
  f1 : F 1 = F0 1 ++ D.map Row1.at_
  f : ∀ j, j ≠ 0 → j ≠ 1 → F j = F0 j
  high : ∀ k, k < w.heap.size → 150 ≤ S0 k → wr.heap[k]? = w.heap[k]?

theorem LL1.done {base R : Nat} {S0 : Lab} {F0 : Nat → List Value} {w : World} {l : List (List Int)} {k : Nat} {fv : Value} {S : Lab} {F : Nat → List Value} {D : List Row1} {wr : World} (h : LL1 base R S0 F0 w l k fv S F D wr) (hk : k = l.length) : LL2 base R S0 F0 w l 0 fv S F D [] wr := by
  have hl := h.len (Nat.le_of_eq hk)
  refine ⟨h.room, h.agree, ?_, h.lab, ?_, h.ok, rfl, fun i h => by simp at h, h.f0, h.f1, h.f, h.high⟩
  · have := h.own
    rw [hl, hk] at this
    simpa using this
  · rw [h.rows, hk, List.take_length]

/-- One mark more. -/
theorem LL2.next {base R : Nat} {S0 : Lab} {F0 : Nat → List Value} {w : World} {l : List (List Int)} {k : Nat} {fv fv' : Value} {S : Lab} {F : Nat → List Value} {D : List Row1} {M : List Nat} {wr W1 w2 : World} (h : LL2 base R S0 F0 w l k fv S F D M wr)
    (hW : Below wr.heap.size wr W1) (hm : wr.heap.size < W1.heap.size) (hc : W1.cell? ⟨wr.heap.size, 0, none⟩ = some (.int .i64 (lotI k))) (ho : w2.ownsRow w.heap.size 33 1 fv' (l.length + k + 1) (D.map Row1.val ++ M.map markVal ++ [.slice (some ⟨wr.heap.size, 0, none⟩) 1 1])) (hg : W1.grownBy w2 fv.ownBlock) (hn : fv'.ownBlock = fv.ownBlock ∨ ∃ g, fv'.ownBlock = some g ∧ W1.heap.size ≤ g) :
    LL2 base R S0 F0 w l (k + 1) fv' S F D (M ++ [wr.heap.size]) w2 := by
  have hg1 := grownBy_of_below hW hg
  have hlt : ∀ g, fv.ownBlock = some g → w.heap.size ≤ g ∧ g < wr.heap.size := h.own.lt
  have hn1 : fv'.ownBlock = fv.ownBlock ∨ ∃ g, fv'.ownBlock = some g ∧ wr.heap.size ≤ g := hn.imp id (fun ⟨g, e, hge⟩ => ⟨g, e, by omega⟩)
  refine ⟨h.room.grown hg1 h.lab, h.agree.grown hg1 (fun g hg' => (hlt g hg').1), ?_, ?_, h.rows, fun r hr => (h.ok r hr).grown hg1 hn1, by simp [h.len], ?_, h.f0, h.f1, h.f, fun q hq hS => (hg1.block q (Nat.lt_of_lt_of_le hq h.agree.size) (fun he => by have := (hlt q he.symm).1; omega)).trans (h.high q hq hS)⟩
  · simpa [markVal, Nat.add_assoc] using ho
  · intro g hg'
    rcases hn1 with e | ⟨g', e, hge⟩
    · exact h.lab g (e ▸ hg')
    · rw [e] at hg'
      injection hg' with hg'
      subst hg'
      exact h.room.top g' hge
  · intro i hi
    by_cases hiM : i < M.length
    · rw [List.getElem_append_left hiM]
      exact (h.marks i hiM).grown hg1 hn1
    · have hik : i = M.length := by simp at hi; omega
      subst hik
      rw [List.getElem_append_right (Nat.le_refl _)]
      simp only [Nat.sub_self, List.getElem_cons_zero]
      have hne : some wr.heap.size ≠ fv.ownBlock := fun he => by have := (hlt _ he.symm).2; omega
      refine ⟨Nat.lt_of_lt_of_le hm hg.size, h.room.top _ (Nat.le_refl _), ?_, ?_⟩
      · rcases hn with e | ⟨g', e, hge⟩
        · rw [e]; exact hne
        · rw [e]; intro he; injection he with he; omega
      · rw [h.len]
        exact (World.cell?_of_block (a := ⟨wr.heap.size, 0, none⟩) (hg.block _ hm hne)).trans hc
end Go.Proofs.YtjanpglnahagdaaGreatDoor
