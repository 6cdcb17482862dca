/-
  The document's numbers (package hallmarkref1): what a value says; Of.
-/
import Derived.Test.YtgckmkdmlaocmaaGreatDoorSmall
import Derived.Test.YtgckmkdmlaocmaaGreatDoorMath
namespace Go.Proofs.YtgckmkdmlaocmaaGreatDoor
open Go.RowKit
open Bn (limbs)

/-- The slice value v reads, in w, as the numbers l. -/
def IntsAt (w : World) (v : Value) (l : List Nat) : Prop :=
  (v = .slice none 0 0 ∧ l = []) ∨ ∃ b cap, v = .slice (some ⟨b, 0, none⟩) l.length cap ∧ b < w.heap.size ∧ l.length ≤ cap ∧ cap ≤ maxLen ∧
    ∀ j (h : j < l.length), w.cell? ⟨b, j, none⟩ = some (.int .i64 ((l[j] : Nat) : Int))

theorem IntsAt.below {w w' : World} {v : Value} {l : List Nat} (h : IntsAt w v l) (hb : Below w.heap.size w w') : IntsAt w' v l := by
  rcases h with h | ⟨b, cap, hv, hlt, hl, hm, hc⟩
  · exact .inl h
  · exact .inr ⟨b, cap, hv, Nat.lt_of_lt_of_le hlt hb.size, hl, hm, fun j hj => (hb.cell (p := ⟨b, j, none⟩) hlt).trans (hc j hj)⟩

/-- The cells of a list of numbers. -/
def cellsOf (l : List Nat) : List Value := l.map fun (d : Nat) => Value.int .i64 (d : Int)

theorem IntsAt.of_owns {w : World} {base : Nat} {v : Value} {l : List Nat} (h : w.ownsRow base 3 1 v l.length (cellsOf l)) : IntsAt w v l := by
  have hlt := h.lt
  have hcs : ∀ g, v.ownBlock = some g → _ := fun g hg => h.cells (g := g) hg
  obtain ⟨_, h | ⟨g, cap, cur, hv, hg, hh, hn, hm, _, _⟩⟩ := h
  · exact .inl ⟨h.1, List.eq_nil_of_length_eq_zero h.2⟩
  · subst hv
    refine .inr ⟨g, cap, rfl, (hlt g rfl).2, hn, hm, fun j hj => ?_⟩
    have := hcs g rfl j (.int .i64 ((l[j] : Nat) : Int)) (by simp [cellsOf, hj])
    cases j with
    | zero => simpa [Addr.add] using this
    | succ j => simpa [Addr.add] using this

/-- The value v says, in w, the document's number z. -/
def RefAt (w : World) (v : Value) (z : Int) : Prop := ∃ s, v = .agg #[.bool (decide (z < 0)), s] ∧ IntsAt w s (limbs z.natAbs)

theorem RefAt.below {w w' : World} {v : Value} {z : Int} (h : RefAt w v z) (hb : Below w.heap.size w w') : RefAt w' v z := by
  obtain ⟨s, hv, hs⟩ := h
  exact ⟨s, hv, hs.below hb⟩

theorem Tryz.info3 : (Tryz.prog.info? 3).map (fun i => (i.zero, i.size, i.bytes)) = some (some (.int .i64 0), 1, 8) := by kernel_rfl

theorem of_step {n k : Int} {done : List Nat} (hk : k ≠ 0) (h : limbs n.natAbs = done ++ limbs k.natAbs) : limbs n.natAbs = (done ++ [k.natAbs % 1000000000]) ++ limbs (k.tdiv 1000000000).natAbs := by
  rw [h, Bn.limbs_pos (by omega), Int.natAbs_tdiv, List.append_assoc]; rfl

theorem limbs_int_le {n : Int} (h1 : -9223372036854775808 ≤ n) (h2 : n ≤ 9223372036854775807) : (limbs n.natAbs).length ≤ 3 := by
  rw [Bn.limbs_length_le]
  have : (1000000000 : Nat) ^ 3 = 1000000000000000000000000000 := by decide
  omega

theorem cellsOf_snoc (l : List Nat) (d : Nat) : cellsOf (l ++ [d]) = cellsOf l ++ [.int .i64 (d : Int)] := by simp [cellsOf]

theorem own_form {w : World} {base : Nat} {e : TypeId} {v : Value} {n : Nat} {xs : List Value} (h : w.ownsRow base e 1 v n xs) : ∃ a cap, v = .slice a n cap := by
  obtain ⟨_, h | ⟨g, cap, cur, hv, _⟩⟩ := h
  · exact ⟨none, 0, by rw [h.1, h.2]⟩
  · exact ⟨_, cap, hv⟩

/-- One number more at the end of a slice that the call itself has made. -/
theorem append_one {P : Program} {ops : Array Oper} {rest : List Oper} {o : Oper} {a : Act} {Q : Exit → Act → World → Prop} (wr : World) (hgd : o.guard = none) (s x : Operand) (t : TypeId)
    (ho : o.op = .call { callee := .builtin .append, args := #[s, x], argTypes := #[t, t] }) (base : Nat) (e : TypeId) (i : TypeInfo) (kd : IntKind) (bytes : Nat)
    (ht : P.underlying t = some (.slice e)) (hi : P.info? e = some i) (hz : i.zero = some (.int kd 0)) (hsize : i.size = 1) (hby : i.bytes = bytes)
    (v : Value) (n : Nat) (xs : List Value) (hs : a.eval s = v) (hown : wr.ownsRow base e 1 v n xs) (c : Int) (bk : Nat) (hbk : wr.heap.size = bk) (hx : a.eval x = .slice (some ⟨bk, 0, none⟩) 1 1)
    (hn : n ≤ 1000000000) (hb8 : bytes ≤ 16) (hbase : base ≤ wr.heap.size)
    (h : ∀ v' w', w'.ownsRow base e 1 v' (n + 1) (xs ++ [.int kd c]) → (wr.alloc (.cells #[.int kd c] e)).grownBy w' v.ownBlock → wpList P ops Q rest (a.put o.dst v') w') : wpList P ops Q (o :: rest) a (wr.alloc (.cells #[.int kd c] e)) := by
  subst hbk
  refine wpList_append_own _ hgd s x t ho base e i (.int kd 0) 1 bytes ht hi hz hsize hby rfl (by decide) v n xs hs (hown.alloc _) ⟨wr.heap.size, 0, none⟩ 1 1 [.int kd c] hx rfl ?_ ?_ ?_ ?_ ?_ ?_
  · intro j u hj
    match j, hj with
    | 0, hj => simp at hj; subst hj; simp [Addr.add]
  · intro u hu; simp at hu; subst hu; rfl
  · unfold maxLen; omega
  · have : (n + 1) * bytes ≤ (n + 1) * 16 := Nat.mul_le_mul_left _ hb8
    omega
  · simp; omega
  · intro v' w' h1 h2 _
    exact h v' w' h1 h2

theorem of_rel {W wr w1 : World} {B : Nat} {v v' : Value} {n k : Int} {done : List Nat} {c : Int} {o : Obj} (hk : k ≠ 0) (hl : limbs n.natAbs = done ++ limbs k.natAbs) (hc : c = ((k.natAbs % 1000000000 : Nat) : Int))
    (hown : wr.ownsRow B 3 1 v done.length (cellsOf done)) (hbel : Below B W wr) (hB : B ≤ wr.heap.size)
    (hown1 : w1.ownsRow B 3 1 v' (done.length + 1) (cellsOf done ++ [.int .i64 c])) (hg : (wr.alloc o).grownBy w1 v.ownBlock) :
    limbs n.natAbs = (done ++ [k.natAbs % 1000000000]) ++ limbs (k.tdiv 1000000000).natAbs ∧ w1.ownsRow B 3 1 v' (done ++ [k.natAbs % 1000000000]).length (cellsOf (done ++ [k.natAbs % 1000000000])) ∧ Below B W w1 ∧
    (k.tdiv 1000000000).natAbs < k.natAbs := by
  refine ⟨of_step hk hl, ?_, ?_, ?_⟩
  · rw [cellsOf_snoc, List.length_append, ← hc]; exact hown1
  · exact (hbel.alloc hB o).grown hg (by simp; omega) (fun g hg => (hown.lt g hg).1)
  · rw [Int.natAbs_tdiv]; exact Nat.div_lt_self (by omega) (by decide)

theorem tdiv_bd {k : Int} (h1 : -9223372036854775808 ≤ k) (h2 : k ≤ 9223372036854775807) : -9223372036854775808 ≤ k.tdiv 1000000000 ∧ k.tdiv 1000000000 ≤ 9223372036854775807 := by
  have h0 := Int.natAbs_tdiv k 1000000000
  have h3 : (k.tdiv 1000000000).natAbs ≤ k.natAbs := by rw [h0]; exact Nat.div_le_self _ _
  have h4 : k.tdiv 1000000000 ≤ (k.natAbs : Int) := by omega
  clear h0
  rcases Int.le_total 0 k with h | h
  · have h5 : 0 ≤ k.tdiv 1000000000 := Int.tdiv_nonneg h (by decide)
    omega
  · have h5 : k.tdiv 1000000000 ≤ 0 := by
      have := Int.tdiv_nonneg (a := -k) (b := 1000000000) (by omega) (by decide)
      rw [Int.neg_tdiv] at this; omega
    omega
theorem tmod_abs {k : Int} : (k.tmod 1000000000).natAbs = k.natAbs % 1000000000 := by rw [Int.natAbs_tmod]; rfl

set_option maxHeartbeats 400000 in
set_option maxRecDepth 100000 in
theorem refOf_any (n : Int) (w : World) (h1 : -9223372036854775808 ≤ n) (h2 : n ≤ 9223372036854775807) :
    Calls Tryz.prog 85 #[.int .i64 n] w fun e w' => ∃ v, e = .returned v ∧ RefAt w' v n ∧ Below w.heap.size w w' := by
  obtain ⟨i0, hi, hz0, hz1, hz2⟩ := info_parts Tryz.info3
  have hlen : Hid ((limbs n.natAbs).length ≤ 3) := limbs_int_le h1 h2
  go_enter Tryz.func85, Tryz.ntmps85
  go_wp2
  go_loopw [0, 4] (fun nv lv wr => ∃ (k : Int) (done : List Nat), nv = .int .i64 k ∧ Hid (limbs n.natAbs = done ++ limbs k.natAbs) ∧ wr.ownsRow (w.heap.size + 1) 3 1 lv done.length (cellsOf done) ∧
      Below (w.heap.size + 1) (w.alloc (.cells #[.bool false, .slice none 0 0] 105)) wr ∧ -9223372036854775808 ≤ k ∧ k ≤ 9223372036854775807) (fun nv _ _ => (intOf nv).natAbs)
  case atStart => exact ⟨n, [], rfl, rfl, World.ownsRow_nil _ _ _ _, Below.refl _ _, h1, h2⟩
  case round =>
    clear h1 h2
    obtain ⟨k, done, rfl, hl, hown, hbel, hk1, hk2⟩ := hrel
    have hd : done.length ≤ 3 := by have h3 := congrArg List.length hl.out; have h4 := hlen.out; rw [List.length_append] at h3; omega
    have hsz : w.heap.size + 1 ≤ wr.heap.size := by have := hbel.size; simpa using this
    by_cases hk : k = 0
    · subst hk
      have hcell : ∀ o, wr.cell? ⟨w.heap.size, o, none⟩ = (w.alloc (.cells #[.bool false, .slice none 0 0] 105)).cell? ⟨w.heap.size, o, none⟩ := fun o => hbel.cell (p := ⟨w.heap.size, o, none⟩) (Nat.lt_succ_self _)
      have hfro : ∀ o, wr.frozen? ⟨w.heap.size, o, none⟩ = (w.alloc (.cells #[.bool false, .slice none 0 0] 105)).frozen? ⟨w.heap.size, o, none⟩ := fun o => hbel.frozen (p := ⟨w.heap.size, o, none⟩) (Nat.lt_succ_self _)
      obtain ⟨a0, cp, hv⟩ := own_form hown
      subst hv
      go_wp2
      refine bodyPost_ret (v := .agg #[.bool (decide (n < 0)), .slice a0 done.length cp]) (by simp [results, Tryz.results85, go_sem, hcell]) rfl ⟨_, rfl, ⟨_, rfl, ?_⟩, ?_⟩
      · have e : limbs n.natAbs = done := by have := hl.out; simpa [Bn.limbs_zero] using this
        rw [e]
        exact IntsAt.of_owns (ownsRow_setCell_below (ownsRow_setCell_below hown (by simp) _) (by simp) _)
      · have h3 := (Below.refl w.heap.size w).alloc (Nat.le_refl _) (.cells #[.bool false, .slice none 0 0] 105)
        exact ((h3.trans (hbel.mono (by omega))).setCell (by simp) _).setCell (by simp) _
    · have hb : ((k == 0) = false) := by simpa using hk
      rcases Int.lt_or_gt_of_ne hk with hneg | hpos
      · have hm := tmod_abs (k := k)
        have hm2 : k.tmod 1000000000 ≤ 0 := by
          have := Int.tmod_nonneg 1000000000 (show 0 ≤ -k by omega)
          rw [Int.neg_tmod] at this; omega
        have hm3 : -1000000000 < k.tmod 1000000000 := by omega
        have hbd := tdiv_bd hk1 hk2
        have HM : Hid _ := hm
        clear hm
        go_wp2_with (at_builtin; refine append_one wr rfl _ _ 45 rfl (w.heap.size + 1) 3 i0 .i64 8 Tryz.underlying45 hi hz0 hz1 hz2 _ _ _ (by rfl) hown _ _ rfl (by rfl) (by omega) (by decide) hsz ?_; intro v' w1 hown1 hgrow)
        all_goals
          have R := of_rel hk hl.out (by have := HM.out; omega) hown hbel hsz hown1 hgrow
          have R1 : Hid _ := R
          clear R hown hown1 hgrow hbel hl HM
          go_wp2
          go_roundw
          case rel => exact ⟨_, _, rfl, R1.out.1, R1.out.2.1, R1.out.2.2.1, hbd.1, hbd.2⟩
          case measure => simp only [intOf]; exact R1.out.2.2.2
      · go_wp2_with (at_builtin; refine append_one wr rfl _ _ 45 rfl (w.heap.size + 1) 3 i0 .i64 8 Tryz.underlying45 hi hz0 hz1 hz2 _ _ _ (by rfl) hown _ _ rfl (by rfl) (by omega) (by decide) hsz ?_; intro v' w1 hown1 hgrow)
        have R := of_rel hk hl.out (by omega) hown hbel hsz hown1 hgrow
        have hbd := tdiv_bd hk1 hk2
        rw [Int.tdiv_eq_ediv_of_nonneg (by omega)] at R hbd
        have R1 : Hid _ := R
        clear R hown hown1 hgrow hbel hl
        go_wp2
        go_roundw
        case rel => exact ⟨_, _, rfl, R1.out.1, R1.out.2.1, R1.out.2.2.1, hbd.1, hbd.2⟩
        case measure => simp [intOf]; exact R1.out.2.2.2

end Go.Proofs.YtgckmkdmlaocmaaGreatDoor
