/-
  Put together: MdLay, MdLayT.
-/
import Derived.Test.YtjanpglnahagdaaGreatDoorJ02
import Derived.Test.YtjanpglnahagdaaGreatDoorJ03
import Derived.Laws.OwnMore
namespace Go.Proofs.YtjanpglnahagdaaGreatDoor
open Go.RowKit

/-- What an append takes over. -/
def SrcAt (w : World) (x : Value) (m : Nat) (size : Nat) (news : List Value) : Prop :=
  ∃ a c, x = .slice a m c ∧ news.length = m * size ∧ (∀ u ∈ news, u.oneCell' = true) ∧ (a = none → m = 0) ∧ ∀ ad, a = some ad → ∀ j u, news[j]? = some u → w.cell? (ad.add j) = some u

theorem wpList_append_none {P : Program} {w : World} {ops : Array Oper} {rest : List Oper} {o : Oper} {a : Act} {Q : Exit → Act → World → Prop} (hgd : o.guard = none) (s x : Operand) (t : TypeId)
    (ho : o.op = .call { callee := .builtin .append, args := #[s, x], argTypes := #[t, t] })
    (base : Nat) (e : TypeId) (i : TypeInfo) (size c : Nat) (ht : P.underlying t = some (.slice e)) (hi : P.info? e = some i)
    (v : Value) (n : Nat) (xs : List Value) (hs : a.eval s = v) (hown : w.ownsRow base e size v n xs) (hx : a.eval x = .slice none 0 c)
    (h : wpList P ops Q rest (a.put o.dst v) w) : wpList P ops Q (o :: rest) a w := by
  refine wpList_plain hgd fun K hK => ?_
  have hrun : (Builtin.append_ #[t, t] o.type #[v, .slice none 0 c]).run P w = .ok v w := by
    rcases hown.2 with ⟨rfl, rfl⟩ | ⟨g, cap, cur, rfl, _, _, hnc, _⟩
    · simp [Builtin.append_, run_underlying ht, sizeOf, typeInfo, hi, Builtin.lenOf, Builtin.firstCells]
    · simp [Builtin.append_, run_underlying ht, sizeOf, typeInfo, hi, Builtin.lenOf, Builtin.firstCells, hnc, storeCells]
  unfold Oper.wp
  simp [execOp, ho, resolve, invoke, builtin, hs, hx, hrun, Result.andThen]
  exact hK _ _ h

theorem info_of {P : Program} {e : TypeId} {z : Value} {size bytes : Nat} (h : (P.info? e).map (fun i => (i.zero, i.size, i.bytes)) = some (some z, size, bytes)) : ∃ i0, P.info? e = some i0 ∧ i0.zero = some z ∧ i0.size = size ∧ i0.bytes = bytes := by
  cases hh : P.info? e with
  | none => rw [hh] at h; cases h
  | some i0 => rw [hh] at h; simp at h; exact ⟨i0, rfl, h.1, h.2.1, h.2.2⟩

/-- A whole list more. -/
theorem append_src {P : Program} {ops : Array Oper} {rest : List Oper} {o : Oper} {a : Act} {Q : Exit → Act → World → Prop} (w : World) (hgd : o.guard = none) (s x : Operand) (t e : TypeId) (z : Value) (size bytes : Nat)
    (ho : o.op = .call { callee := .builtin .append, args := #[s, x], argTypes := #[t, t] }) (ht : P.underlying t = some (.slice e)) (hinfo : (P.info? e).map (fun i => (i.zero, i.size, i.bytes)) = some (some z, size, bytes)) (hzs : z.cells.size = size) (hsz : 0 < size)
    (base : Nat) (v xv : Value) (n m : Nat) (xs news : List Value) (hs : a.eval s = v) (hx : a.eval x = xv) (hown : w.ownsRow base e size v n xs) (hsrc : SrcAt w xv m size news) (h63 : n + m ≤ maxLen) (hbytes : (n + m) * bytes ≤ 140737488355328) (hbase : base ≤ w.heap.size)
    (h : ∀ v' w', w'.ownsRow base e size v' (n + m) (xs ++ news) → w.grownBy w' v.ownBlock → (v'.ownBlock = v.ownBlock ∨ v'.ownBlock = some w.heap.size) → wpList P ops Q rest (a.put o.dst v') w') : wpList P ops Q (o :: rest) a w := by
  obtain ⟨i0, hi, hz0, hz1, hz2⟩ := info_of hinfo
  obtain ⟨ad, c, rfl, hl, h1, hnil, hcells⟩ := hsrc
  cases ad with
  | none =>
    have hm : m = 0 := hnil rfl
    subst hm
    have hn : news = [] := List.length_eq_zero_iff.1 (by omega)
    subst hn
    refine wpList_append_none hgd s x t ho base e i0 size c ht hi v n xs hs hown hx (h v w (by simpa using hown) ⟨rfl, rfl, rfl, Nat.le_refl _, fun _ _ _ => rfl⟩ (.inl rfl))
  | some ad => exact wpList_append_s w hgd s x t ho base e i0 z size bytes ht hi hz0 hz1 hz2 hzs hsz v n xs hs hown ad m c news hx hl (hcells ad rfl) h1 h63 hbytes hbase h

theorem IntsAt.src {w : World} {v : Value} {l : List Int} (h : IntsAt w v l) : SrcAt w v l.length 1 (l.map (.int .i64)) := by
  obtain ⟨a, cap, rfl, hm, hc⟩ := h
  refine ⟨a, cap, rfl, by simp, fun u hu => ?_, fun ha => ?_, fun ad ha j u hj => ?_⟩
  · obtain ⟨n, _, rfl⟩ := List.mem_map.1 hu; rfl
  · rcases Nat.eq_zero_or_pos l.length with h | h
    · exact h
    · obtain ⟨b, off, hb, _⟩ := hc h
      rw [ha] at hb; cases hb
  · have hj' : j < l.length := by
      have := List.getElem?_eq_some_iff.1 hj
      obtain ⟨h1, _⟩ := this
      simpa using h1
    obtain ⟨b, off, hb, hlt, hcell⟩ := hc (by omega)
    rw [ha] at hb
    injection hb with hb
    subst hb
    rw [addr_none]
    rw [List.getElem?_map, List.getElem?_eq_getElem hj'] at hj
    simp at hj
    rw [← hj]; exact hcell j hj'

/-- The types of what a room's rows hold. -/
def ety : Nat → TypeId
  | 0 => 33
  | 1 => 3
  | 4 => 24
  | 5 => 3
  | 6 => 22
  | 7 => 3
  | 16 => 32
  | 17 => 3
  | 18 => 23
  | 19 => 3
  | _ => 3

theorem RoomAt.after {base R : Nat} {S : Lab} {F : Nat → List Value} {w W w' : World} {f : Nat} {v : Value} (h : RoomAt ety base R S F w) (hf : f < 28) (hW : Below w.heap.size w W) (hv : w.cell? ⟨R, f, none⟩ = some v) (hg : W.grownBy w' v.ownBlock) :
    (∀ j, w'.cell? ⟨R, j, none⟩ = w.cell? ⟨R, j, none⟩) ∧ ∀ j, w'.frozen? ⟨R, j, none⟩ = false := by
  have hR := h.lt
  obtain ⟨v0, hv0, hov, hlv⟩ := h.field f hf
  have : v0 = v := by rw [hv] at hv0; injection hv0 with e; exact e.symm
  subst this
  have hneR : some R ≠ v0.ownBlock := fun he => by have h1 := hlv R he.symm; rw [h.lab] at h1; omega
  have hb : w'.heap[R]? = w.heap[R]? := (hg.block R (Nat.lt_of_lt_of_le hR hW.size) hneR).trans (hW.block R hR)
  refine ⟨fun j => World.cell?_of_block (a := ⟨R, j, none⟩) hb, fun j => ?_⟩
  obtain ⟨cs, t, hcs, _⟩ := h.blk
  unfold World.frozen?
  simp [hb, hcs]
theorem RoomAt.thaw {base R : Nat} {S : Lab} {F : Nat → List Value} {w : World} (h : RoomAt ety base R S F w) : ∀ j, w.frozen? ⟨R, j, none⟩ = false := fun j => by
  obtain ⟨cs, t, hcs, _⟩ := h.blk
  unfold World.frozen?
  simp [hcs]

theorem und27 : Tryz.prog.underlying 33 = some (.slice 3) := by kernel_rfl
theorem und30 : Tryz.prog.underlying 32 = some (.slice 33) := by kernel_rfl
theorem info3 : (Tryz.prog.info? 3).map (fun i => (i.zero, i.size, i.bytes)) = some (some (.int .i64 0), 1, 8) := by kernel_rfl
theorem info27 : (Tryz.prog.info? 33).map (fun i => (i.zero, i.size, i.bytes)) = some (some (.slice none 0 0), 1, 24) := by kernel_rfl

theorem own_form {w : World} {base : Nat} {e : TypeId} {size : Nat} {v : Value} {n : Nat} {xs : List Value} (h : w.ownsRow base e size v n xs) : ∃ a c, v = .slice a n c := by
  rcases h.2 with ⟨rfl, rfl⟩ | ⟨g, cap, cur, rfl, _⟩
  · exact ⟨_, _, rfl⟩
  · exact ⟨_, _, rfl⟩

/-- The cells of a list with its room. -/
def laidInts (l : List Int) (k : Nat) : List Value := l.map (.int .i64) ++ (List.range k).map (fun j => .int .i64 (lotI j))
theorem laidInts_next (l : List Int) (k : Nat) : laidInts l (k + 1) = laidInts l k ++ [.int .i64 (lotI k)] := by
  unfold laidInts; rw [List.range_succ]; simp

/-- What layInts leaves. -/
structure LaidI (base R : Nat) (S : Lab) (F : Nat → List Value) (w : World) (l : List Int) (room : Nat) (e : Ending) (w' : World) : Prop where
  out : ∃ b cap S' F', e = .returned (.slice (some ⟨b, 0, none⟩) l.length (l.length + room)) ∧ w.heap.size ≤ b ∧ b < w'.heap.size ∧ S' b = 0 ∧
    RoomAt ety base R S' F' w' ∧ F' 0 = F 0 ++ [.slice (some ⟨b, 0, none⟩) (l.length + room) cap] ∧ F' 1 = F 1 ++ [.int .i64 (l.length : Int)] ∧ (∀ j, j ≠ 0 → j ≠ 1 → F' j = F j) ∧ Agree S S' w w' ∧
    (∀ j u, (laidInts l room)[j]? = some u → w'.cell? ⟨b, j, none⟩ = some u) ∧ ∀ k, k < w.heap.size → 150 ≤ S k → w'.heap[k]? = w.heap[k]?

set_option maxRecDepth 10000 in
set_option maxHeartbeats 2000000 in
theorem layInts_any (base R : Nat) (S : Lab) (F : Nat → List Value) (v : Value) (l : List Int) (room : Nat) (w : World) (hR : RoomAt ety base R S F w) (hv : IntsAt w v l) (hl : l.length ≤ 100000) (hr0 : 0 < room) (hr : room ≤ 40) (hF0 : (F 0).length ≤ 1000000) (hF1 : (F 1).length ≤ 1000000) :
    Calls Tryz.prog 117 #[.pointer (some ⟨R, 0, none⟩), v, .int .i64 (room : Int)] w (LaidI base R S F w l room) := by
  have HR : Hid (RoomAt ety base R S F w) := hR
  have HV : Hid (IntsAt w v l) := hv
  obtain ⟨a, cap, rfl, hm⟩ := hv.form
  clear hR hv
  have hb0 : Below w.heap.size w (w.alloc (.cells #[] 3)) := (Below.refl _ _).alloc (Nat.le_refl _) _
  have HO : Hid ((w.alloc (.cells #[] 3)).ownsRow w.heap.size 3 1 (.slice (some ⟨w.heap.size, 0, none⟩) 0 0) 0 []) := World.ownsRow_made w #[] 0 (Nat.le_refl _) (by unfold maxLen; omega) rfl
  have HS : Hid (SrcAt (w.alloc (.cells #[] 3)) (.slice a l.length cap) l.length 1 (l.map (.int .i64))) := (HV.out.below hb0).src
  have HB0 : Hid (Below w.heap.size w (w.alloc (.cells #[] 3))) := hb0
  clear hb0
  go_enter Tryz.func117, Tryz.ntmps117
  go_wp2_with (at_builtin; refine append_src _ rfl (.tmp 10) (.tmp 11) 33 3 (.int .i64 0) 1 8 rfl und27 info3 rfl (by decide) w.heap.size _ _ 0 l.length [] _ (by rfl) (by rfl) HO.out HS.out (by unfold maxLen; omega) (by omega) HB0.out.size ?_; intro v1 w1 ho1 hg1 hn1)
  have HO1 : Hid (w1.ownsRow w.heap.size 3 1 v1 (l.length + 0) (laidInts l 0)) := by
    have : laidInts l 0 = [] ++ l.map (.int .i64) := by simp [laidInts]
    rw [this]
    rw [Nat.add_comm]; exact ho1
  have HB1 : Hid (Below w.heap.size w w1) := HB0.out.grown hg1 HB0.out.size (fun g hg => by simp [Value.ownBlock] at hg; omega)
  clear ho1 hg1 hn1
  go_loopw [7, 8] (fun fv iv wr => ∃ k : Nat, iv = .int .i64 (k : Int) ∧ k ≤ room ∧ Hid (wr.ownsRow w.heap.size 3 1 fv (l.length + k) (laidInts l k)) ∧ Hid (Below w.heap.size w wr)) (fun _ iv _ => room - (intOf iv).toNat)
  case atStart => exact ⟨0, rfl, Nat.zero_le _, HO1, HB1⟩
  case round =>
    obtain ⟨k, rfl, hk, hO, hB⟩ := hrel
    clear HO HS HB0 HO1 HB1
    by_cases hlt : k < room
    · have hkI : (k : Int) < (room : Int) := by omega
      have hnx := laidInts_next l k
      have HN : Hid (laidInts l (k + 1) = laidInts l k ++ [.int .i64 (lotI k)]) := hnx
      clear hnx
      go_wp2_with (first
        | (go_at_call 60; refine (lot_any k _).mono ?_; rintro e w' ⟨rfl, hww⟩; rw [hww])
        | (at_builtin; refine append_one wr (.int .i64 (lotI k)) rfl (.tmp 18) (.tmp 21) 33 3 (.int .i64 0) 8 rfl und27 info3 rfl w.heap.size _ _ _ (by rfl) hO.out rfl _ rfl (by rfl) (by unfold maxLen; omega) (by omega) hB.out.size ?_; intro v2 w2 ho2 hg2 hn2))
      have HO2 : Hid (w2.ownsRow w.heap.size 3 1 v2 (l.length + (k + 1)) (laidInts l (k + 1))) := by
        rw [HN.out]; exact ho2
      have HB2 : Hid (Below w.heap.size w w2) := (hB.out.alloc hB.out.size _).grown hg2 (by have := hB.out.size; simp; omega) (fun g hg => (hO.out.lt g hg).1)
      clear ho2 hg2 hn2
      go_wp2_with fail
      go_roundw
      case rel => exact ⟨k + 1, by go_num, by omega, HO2, HB2⟩
      case measure => simp [intOf]; omega
    · have hkI : ¬ (k : Int) < (room : Int) := by omega
      obtain rfl : k = room := by omega
      have hRw := HR.out.kept hB.out
      obtain ⟨v0, hv0, ho0, hl0⟩ := hRw.field 0 (by decide)
      obtain ⟨b, cp, cur, hfv, hbb, hbg, hbc, hbm, hbs, hbt⟩ : ∃ b cp cur, _ = Value.slice (some ⟨b, 0, none⟩) (l.length + k) cp ∧ w.heap.size ≤ b ∧ wr.heap[b]? = some (.cells cur 3 (0, 0)) ∧ l.length + k ≤ cp ∧ cp ≤ maxLen ∧ cur.size = cp * 1 ∧ cur.toList.take ((l.length + k) * 1) = laidInts l k := by
        rcases hO.out.2 with ⟨_, hn⟩ | h
        · omega
        · exact h
      subst hfv
      have hSb : S b = 0 := HR.out.top b hbb
      have hbw : b < wr.heap.size := (Array.getElem?_eq_some_iff.1 hbg).1
      have HCB : Hid (∀ j u, (laidInts l k)[j]? = some u → wr.cell? ⟨b, j, none⟩ = some u) := fun j u hj => by
        have := hO.out.cells (g := b) rfl j u hj
        rwa [addr_none, Nat.zero_add] at this
      have HAG : Hid (Agree S S w wr) := Agree.of_below S hB.out
      have HBW : Hid (Below w.heap.size w wr) := hB.out
      have HRW : Hid (RoomAt ety base R S F wr) := hRw
      have HF : Hid ((F 0).length ≤ 1000000 ∧ (F 1).length ≤ 1000000) := ⟨hF0, hF1⟩
      have HL0 : Hid (∀ g, v0.ownBlock = some g → S g = 0 + 1) := hl0
      have HO0 : Hid (wr.ownsRow base (ety 0) 1 v0 (F 0).length (F 0)) := ho0
      have Hcp : Hid (cp ≤ maxLen) := hbm
      have hcpI : (l.length : Int) + (k : Int) ≤ (cp : Int) := by omega
      unfold maxLen at hbm
      clear ho0 hl0 hRw hbg hbs hbt hO hF0 hF1 hB
      go_wp2_with (first
        | (at_builtin; refine append_one wr (.slice (some ⟨b, 0, none⟩) (l.length + k) cp) rfl (.tmp 27) (.tmp 29) 32 33 (.slice none 0 0) 24 rfl und30 info27 rfl base v0 _ _ (by rfl) HO0.out rfl _ rfl (by rfl) (by have := HF.out.1; unfold maxLen; omega) (by have := HF.out.1; omega) HRW.out.bas ?_; intro v1 w1 ho1 hg1 hn1;
           obtain ⟨a1, c1, hf1⟩ := own_form ho1;
           subst hf1;
           have hW1 : Below wr.heap.size wr (wr.alloc (.cells #[.slice (some ⟨b, 0, none⟩) (l.length + k) cp] 33)) := (Below.refl _ _).alloc (Nat.le_refl _) _;
           obtain ⟨hcR, hfR⟩ := HRW.out.after (f := 0) (by decide) hW1 hv0 hg1;
           obtain ⟨S1, hR1, hA1, hz1⟩ := HRW.out.push (f := 0) (by decide) hW1 hv0 ho1 hg1 (by simpa using hn1);
           have hh1 := HRW.out.push_high (v' := .slice a1 ((F 0).length + 1) c1) (f := 0) (by decide) hW1 hv0 hg1;
           have q0 := (hcR 0).trans hv0;
           have q1 := hfR 0;
           obtain ⟨w2, hw2⟩ : ∃ w2, w1.setCell ⟨R, 0, none⟩ (.slice a1 ((F 0).length + 1) c1) = w2 := ⟨_, rfl⟩;
           rw [hw2] at hR1 hA1 hh1;
           have HH1 : Hid (∀ k, k < wr.heap.size → 150 ≤ S k → w2.heap[k]? = wr.heap[k]?) := hh1;
           have HR1 : Hid (RoomAt ety base R S1 (fun j => if j = 0 then F 0 ++ [.slice (some ⟨b, 0, none⟩) (l.length + k) cp] else F j) w2) := hR1;
           have HA1 : Hid (Agree S S1 wr w2) := hA1;
           clear ho1 hg1 hn1 hW1 hcR hfR hA1 hz1 hh1;
           obtain ⟨vA, hvA, hoA, hlA⟩ := hR1.field 1 (by decide);
           have HOA : Hid (w2.ownsRow base 3 1 vA (F 1).length (F 1)) := hoA;
           clear hR1 hoA hlA)
        | (at_builtin; refine append_one w2 (.int .i64 (l.length : Int)) rfl (.tmp 37) (.tmp 40) 33 3 (.int .i64 0) 8 rfl und27 info3 rfl base vA _ _ (by rfl) HOA.out rfl _ rfl (by rfl) (by have := HF.out.2; unfold maxLen; omega) (by have := HF.out.2; omega) HR1.out.bas ?_; intro v3 w3 ho3 hg3 hn3;
           obtain ⟨a3, c3, hf3⟩ := own_form ho3;
           subst hf3;
           have hW3 : Below w2.heap.size w2 (w2.alloc (.cells #[.int .i64 (l.length : Int)] 3)) := (Below.refl _ _).alloc (Nat.le_refl _) _;
           obtain ⟨hcR3, hfR3⟩ := HR1.out.after (f := 1) (by decide) hW3 hvA hg3;
           obtain ⟨S3, hR3, hA3, hz3⟩ := HR1.out.push (f := 1) (by decide) hW3 hvA ho3 hg3 (by simpa using hn3);
           have hh3 := HR1.out.push_high (v' := .slice a3 ((F 1).length + 1) c3) (f := 1) (by decide) hW3 hvA hg3;
           have q3 := (hcR3 1).trans hvA;
           have q4 := hfR3 1;
           obtain ⟨w4, hw4⟩ : ∃ w4, w3.setCell ⟨R, 1, none⟩ (.slice a3 ((F 1).length + 1) c3) = w4 := ⟨_, rfl⟩;
           rw [hw4] at hR3 hA3 hh3;
           have HH3 : Hid (∀ k, k < w2.heap.size → 150 ≤ S1 k → w4.heap[k]? = w2.heap[k]?) := hh3;
           have HR3 : Hid (RoomAt ety base R S3 (fun j => if j = 1 then F 1 ++ [.int .i64 (l.length : Int)] else if j = 0 then F 0 ++ [.slice (some ⟨b, 0, none⟩) (l.length + k) cp] else F j) w4) := hR3;
           have HA3 : Hid (Agree S1 S3 w2 w4) := hA3;
           clear ho3 hg3 hn3 hW3 hcR3 hfR3 hR3 hA3 hz3 hh3))
      go_ret
      have hs1 : S1 b = 0 := (HA1.out.lab b hbw).trans hSb
      have hbw2 : b < w2.heap.size := Nat.lt_of_lt_of_le hbw HA1.out.size
      refine ⟨⟨b, cp, S3, _, rfl, hbb, Nat.lt_of_lt_of_le hbw2 HA3.out.size, (HA3.out.lab b hbw2).trans hs1, HR3.out, rfl, rfl, fun j h0 h1 => by simp [h0, h1], (HAG.out.trans HA1.out).trans HA3.out, fun j u hj => ?_, fun q hq hS => ?_⟩⟩
      · exact (HA3.out.cell (a := ⟨b, j, none⟩) hbw2 hs1).trans ((HA1.out.cell (a := ⟨b, j, none⟩) hbw hSb).trans (HCB.out j u hj))
      · have hq1 : q < wr.heap.size := Nat.lt_of_lt_of_le hq HBW.out.size
        exact (HH3.out q (Nat.lt_of_lt_of_le hq1 HA1.out.size) (by rw [HA1.out.lab q hq1]; exact hS)).trans ((HH1.out q hq1 hS).trans (HBW.out.block q hq))
end Go.Proofs.YtjanpglnahagdaaGreatDoor

namespace Go.Proofs.YtjanpglnahagdaaGreatDoor
open Go.RowKit

/-- Terms, cell by cell. -/
def termCells (l : List (Int × Int)) : List Value := l.flatMap fun t => [.int .i64 t.1, .int .i64 t.2]
theorem termCells_append (a b : List (Int × Int)) : termCells (a ++ b) = termCells a ++ termCells b := by simp [termCells]
theorem termCells_length (l : List (Int × Int)) : (termCells l).length = l.length * 2 := by
  induction l with
  | nil => rfl
  | cons t l ih => simp only [termCells, List.flatMap_cons, List.length_append, List.length_cons] at *; rw [ih]; simp; omega
theorem termCells_get (l : List (Int × Int)) (k : Nat) (hk : k < l.length) : (termCells l)[k * 2]? = some (.int .i64 l[k].1) ∧ (termCells l)[k * 2 + 1]? = some (.int .i64 l[k].2) := by
  induction l generalizing k with
  | nil => simp at hk
  | cons t l ih =>
    cases k with
    | zero => exact ⟨rfl, rfl⟩
    | succ k =>
      have := ih k (by simpa using hk)
      simp only [termCells, List.flatMap_cons, List.getElem_cons_succ] at *
      refine ⟨?_, ?_⟩
      · rw [List.getElem?_append_right (by simp; omega), ← this.1]; congr 1; simp; omega
      · rw [List.getElem?_append_right (by simp; omega), ← this.2]; congr 1; simp; omega

theorem TermsAt.src {w : World} {v : Value} {l : List (Int × Int)} (h : TermsAt w v l) : SrcAt w v l.length 2 (termCells l) := by
  obtain ⟨a, cap, rfl, hm, hc⟩ := h
  refine ⟨a, cap, rfl, termCells_length l, fun u hu => ?_, fun ha => ?_, fun ad ha j u hj => ?_⟩
  · simp only [termCells, List.mem_flatMap] at hu
    obtain ⟨t, _, hu⟩ := hu
    simp only [List.mem_cons, List.not_mem_nil, or_false] at hu
    rcases hu with rfl | rfl <;> rfl
  · rcases Nat.eq_zero_or_pos l.length with h | h
    · exact h
    · obtain ⟨b, off, hb, _⟩ := hc h
      rw [ha] at hb; cases hb
  · have hj' : j < l.length * 2 := by
      obtain ⟨h1, _⟩ := List.getElem?_eq_some_iff.1 hj
      rwa [termCells_length] at h1
    obtain ⟨b, off, hb, hlt, hcell⟩ := hc (by omega)
    rw [ha] at hb
    injection hb with hb
    subst hb
    rw [addr_none]
    have hk : j / 2 < l.length := by omega
    have hg := termCells_get l (j / 2) hk
    have hcl := hcell (j / 2) hk
    rcases Nat.mod_two_eq_zero_or_one j with h0 | h0
    · have e : j / 2 * 2 = j := by omega
      rw [e] at hg hcl
      rw [hg.1] at hj
      rw [← hj]; exact hcl.1
    · have e : j / 2 * 2 + 1 = j := by omega
      have e2 : off + j / 2 * 2 + 1 = off + j := by omega
      rw [e] at hg
      rw [e2] at hcl
      rw [hg.2] at hj
      rw [← hj]; exact hcl.2

/-- One element of two cells more: it stands in a new block. -/
theorem append_two {P : Program} {ops : Array Oper} {rest : List Oper} {o : Oper} {a : Act} {Q : Exit → Act → World → Prop} (wr : World) (u1 u2 : Value) (hgd : o.guard = none) (s x : Operand) (t e : TypeId) (z : Value) (bytes : Nat)
    (ho : o.op = .call { callee := .builtin .append, args := #[s, x], argTypes := #[t, t] }) (ht : P.underlying t = some (.slice e)) (hinfo : (P.info? e).map (fun i => (i.zero, i.size, i.bytes)) = some (some z, 2, bytes)) (hz1 : z.cells.size = 2)
    (base : Nat) (v : Value) (n : Nat) (xs : List Value) (hs : a.eval s = v) (hown : wr.ownsRow base e 2 v n xs) (hu1 : u1.oneCell' = true) (hu2 : u2.oneCell' = true)
    (bk : Nat) (hbk : wr.heap.size = bk) (hx : a.eval x = .slice (some ⟨bk, 0, none⟩) 1 1) (h63 : n + 1 ≤ maxLen) (hbytes : (n + 1) * bytes ≤ 140737488355328) (hbase : base ≤ wr.heap.size)
    (h : ∀ v' w', w'.ownsRow base e 2 v' (n + 1) (xs ++ [u1, u2]) → (wr.alloc (.cells #[u1, u2] e)).grownBy w' v.ownBlock → (v'.ownBlock = v.ownBlock ∨ v'.ownBlock = some (wr.heap.size + 1)) → wpList P ops Q rest (a.put o.dst v') w') : wpList P ops Q (o :: rest) a (wr.alloc (.cells #[u1, u2] e)) := by
  subst hbk
  obtain ⟨i0, hi, hz0, hz1', hz2⟩ := info_of hinfo
  have hsz : (wr.alloc (.cells #[u1, u2] e)).heap.size = wr.heap.size + 1 := by simp
  refine wpList_append_s _ hgd s x t ho base e i0 z 2 bytes ht hi hz0 hz1' hz2 hz1 (by decide) v n xs hs (hown.alloc _) ⟨wr.heap.size, 0, none⟩ 1 1 [u1, u2] hx rfl ?_ ?_ h63 hbytes (by rw [hsz]; omega) ?_
  · intro j y hj
    rw [addr_none]
    match j, hj with
    | 0, hj => simp at hj; subst hj; show World.cell? _ ⟨wr.heap.size, 0, none⟩ = _; unfold World.cell?; rw [heap_alloc_new wr (.cells #[u1, u2] e)]; rfl
    | 1, hj => simp at hj; subst hj; show World.cell? _ ⟨wr.heap.size, 1, none⟩ = _; unfold World.cell?; rw [heap_alloc_new wr (.cells #[u1, u2] e)]; rfl
    | k + 2, hj => simp at hj
  · intro y hy
    simp only [List.mem_cons, List.not_mem_nil, or_false] at hy
    rcases hy with rfl | rfl
    · exact hu1
    · exact hu2
  · intro v' w' h1 h2 h3
    rw [hsz] at h3
    exact h v' w' h1 h2 h3

theorem und24 : Tryz.prog.underlying 24 = some (.slice 101) := by kernel_rfl
theorem und32 : Tryz.prog.underlying 35 = some (.slice 24) := by kernel_rfl
theorem info107 : (Tryz.prog.info? 101).map (fun i => (i.zero, i.size, i.bytes)) = some (some (.agg #[.int .i64 0, .int .i64 0]), 2, 16) := by kernel_rfl
theorem info24 : (Tryz.prog.info? 24).map (fun i => (i.zero, i.size, i.bytes)) = some (some (.slice none 0 0), 1, 24) := by kernel_rfl

/-- The cells of a list with its room. -/
def laidTerms (l : List (Int × Int)) (k : Nat) : List Value := termCells l ++ termCells ((List.range k).map fun j => (lotI j, 0))
theorem laidTerms_next (l : List (Int × Int)) (k : Nat) : laidTerms l (k + 1) = laidTerms l k ++ [.int .i64 (lotI k), .int .i64 0] := by
  unfold laidTerms; rw [List.range_succ, List.map_append, termCells_append]; simp [termCells]

/-- What layTerms leaves. -/
structure LaidT (base R : Nat) (S : Lab) (F : Nat → List Value) (w : World) (l : List (Int × Int)) (room : Nat) (e : Ending) (w' : World) : Prop where
  out : ∃ b cap S' F', e = .returned (.slice (some ⟨b, 0, none⟩) l.length (l.length + room)) ∧ w.heap.size ≤ b ∧ b < w'.heap.size ∧ S' b = 0 ∧
    RoomAt ety base R S' F' w' ∧ F' 4 = F 4 ++ [.slice (some ⟨b, 0, none⟩) (l.length + room) cap] ∧ F' 5 = F 5 ++ [.int .i64 (l.length : Int)] ∧ (∀ j, j ≠ 4 → j ≠ 5 → F' j = F j) ∧ Agree S S' w w' ∧
    (∀ j u, (laidTerms l room)[j]? = some u → w'.cell? ⟨b, j, none⟩ = some u) ∧ ∀ k, k < w.heap.size → 150 ≤ S k → w'.heap[k]? = w.heap[k]?

set_option maxRecDepth 10000 in
set_option maxHeartbeats 2000000 in
theorem layTerms_any (base R : Nat) (S : Lab) (F : Nat → List Value) (v : Value) (l : List (Int × Int)) (room : Nat) (w : World) (hR : RoomAt ety base R S F w) (hv : TermsAt w v l) (hl : l.length ≤ 100000) (hr0 : 0 < room) (hr : room ≤ 40) (hF0 : (F 4).length ≤ 1000000) (hF1 : (F 5).length ≤ 1000000) :
    Calls Tryz.prog 45 #[.pointer (some ⟨R, 0, none⟩), v, .int .i64 (room : Int)] w (LaidT base R S F w l room) := by
  have HR : Hid (RoomAt ety base R S F w) := hR
  have HV : Hid (TermsAt w v l) := hv
  obtain ⟨a, cap, rfl, hm⟩ := hv.form
  clear hR hv
  have hb0 : Below w.heap.size w (w.alloc (.cells #[] 101)) := (Below.refl _ _).alloc (Nat.le_refl _) _
  have HO : Hid ((w.alloc (.cells #[] 101)).ownsRow w.heap.size 101 2 (.slice (some ⟨w.heap.size, 0, none⟩) 0 0) 0 []) := World.ownsRow_made w #[] 0 (Nat.le_refl _) (by unfold maxLen; omega) rfl
  have HS : Hid (SrcAt (w.alloc (.cells #[] 101)) (.slice a l.length cap) l.length 2 (termCells l)) := (HV.out.below hb0).src
  have HB0 : Hid (Below w.heap.size w (w.alloc (.cells #[] 101))) := hb0
  clear hb0
  go_enter Tryz.func45, Tryz.ntmps45
  go_wp2_with (at_builtin; refine append_src _ rfl (.tmp 10) (.tmp 11) 24 101 (.agg #[.int .i64 0, .int .i64 0]) 2 16 rfl und24 info107 rfl (by decide) w.heap.size _ _ 0 l.length [] _ (by rfl) (by rfl) HO.out HS.out (by unfold maxLen; omega) (by omega) HB0.out.size ?_; intro v1 w1 ho1 hg1 hn1)
  have HO1 : Hid (w1.ownsRow w.heap.size 101 2 v1 (l.length + 0) (laidTerms l 0)) := by
    have : laidTerms l 0 = [] ++ termCells l := by simp [laidTerms, termCells]
    rw [this]
    rw [Nat.add_comm]; exact ho1
  have HB1 : Hid (Below w.heap.size w w1) := HB0.out.grown hg1 HB0.out.size (fun g hg => by simp [Value.ownBlock] at hg; omega)
  clear ho1 hg1 hn1
  go_loopw [7, 8] (fun fv iv wr => ∃ k : Nat, iv = .int .i64 (k : Int) ∧ k ≤ room ∧ Hid (wr.ownsRow w.heap.size 101 2 fv (l.length + k) (laidTerms l k)) ∧ Hid (Below w.heap.size w wr)) (fun _ iv _ => room - (intOf iv).toNat)
  case atStart => exact ⟨0, rfl, Nat.zero_le _, HO1, HB1⟩
  case round =>
    obtain ⟨k, rfl, hk, hO, hB⟩ := hrel
    clear HO HS HB0 HO1 HB1
    by_cases hlt : k < room
    · have hkI : (k : Int) < (room : Int) := by omega
      have hnx := laidTerms_next l k
      have HN : Hid (laidTerms l (k + 1) = laidTerms l k ++ [.int .i64 (lotI k), .int .i64 0]) := hnx
      clear hnx
      go_wp2_with (first
        | (go_at_call 60; refine (lot_any k _).mono ?_; rintro e w' ⟨rfl, hww⟩; rw [hww])
        | (at_builtin; refine append_two wr (.int .i64 (lotI k)) (.int .i64 0) rfl (.tmp 18) (.tmp 22) 24 101 (.agg #[.int .i64 0, .int .i64 0]) 16 rfl und24 info107 rfl w.heap.size _ _ _ (by rfl) hO.out rfl rfl _ rfl (by rfl) (by unfold maxLen; omega) (by omega) hB.out.size ?_; intro v2 w2 ho2 hg2 hn2))
      have HO2 : Hid (w2.ownsRow w.heap.size 101 2 v2 (l.length + (k + 1)) (laidTerms l (k + 1))) := by
        rw [HN.out]; exact ho2
      have HB2 : Hid (Below w.heap.size w w2) := (hB.out.alloc hB.out.size _).grown hg2 (by have := hB.out.size; simp; omega) (fun g hg => (hO.out.lt g hg).1)
      clear ho2 hg2 hn2
      go_wp2_with fail
      go_roundw
      case rel => exact ⟨k + 1, by go_num, by omega, HO2, HB2⟩
      case measure => simp [intOf]; omega
    · have hkI : ¬ (k : Int) < (room : Int) := by omega
      obtain rfl : k = room := by omega
      have hRw := HR.out.kept hB.out
      obtain ⟨v0, hv0, ho0, hl0⟩ := hRw.field 4 (by decide)
      obtain ⟨b, cp, cur, hfv, hbb, hbg, hbc, hbm, hbs, hbt⟩ : ∃ b cp cur, _ = Value.slice (some ⟨b, 0, none⟩) (l.length + k) cp ∧ w.heap.size ≤ b ∧ wr.heap[b]? = some (.cells cur 101 (0, 0)) ∧ l.length + k ≤ cp ∧ cp ≤ maxLen ∧ cur.size = cp * 2 ∧ cur.toList.take ((l.length + k) * 2) = laidTerms l k := by
        rcases hO.out.2 with ⟨_, hn⟩ | h
        · omega
        · exact h
      subst hfv
      have hSb : S b = 0 := HR.out.top b hbb
      have hbw : b < wr.heap.size := (Array.getElem?_eq_some_iff.1 hbg).1
      have HCB : Hid (∀ j u, (laidTerms l k)[j]? = some u → wr.cell? ⟨b, j, none⟩ = some u) := fun j u hj => by
        have := hO.out.cells (g := b) rfl j u hj
        rwa [addr_none, Nat.zero_add] at this
      have HAG : Hid (Agree S S w wr) := Agree.of_below S hB.out
      have HBW : Hid (Below w.heap.size w wr) := hB.out
      have HRW : Hid (RoomAt ety base R S F wr) := hRw
      have HF : Hid ((F 4).length ≤ 1000000 ∧ (F 5).length ≤ 1000000) := ⟨hF0, hF1⟩
      have HL0 : Hid (∀ g, v0.ownBlock = some g → S g = 4 + 1) := hl0
      have HO0 : Hid (wr.ownsRow base (ety 4) 1 v0 (F 4).length (F 4)) := ho0
      have Hcp : Hid (cp ≤ maxLen) := hbm
      have hcpI : (l.length : Int) + (k : Int) ≤ (cp : Int) := by omega
      unfold maxLen at hbm
      clear ho0 hl0 hRw hbg hbs hbt hO hF0 hF1 hB
      go_wp2_with (first
        | (at_builtin; refine append_one wr (.slice (some ⟨b, 0, none⟩) (l.length + k) cp) rfl (.tmp 28) (.tmp 30) 35 24 (.slice none 0 0) 24 rfl und32 info24 rfl base v0 _ _ (by rfl) HO0.out rfl _ rfl (by rfl) (by have := HF.out.1; unfold maxLen; omega) (by have := HF.out.1; omega) HRW.out.bas ?_; intro v1 w1 ho1 hg1 hn1;
           obtain ⟨a1, c1, hf1⟩ := own_form ho1;
           subst hf1;
           have hW1 : Below wr.heap.size wr (wr.alloc (.cells #[.slice (some ⟨b, 0, none⟩) (l.length + k) cp] 24)) := (Below.refl _ _).alloc (Nat.le_refl _) _;
           obtain ⟨hcR, hfR⟩ := HRW.out.after (f := 4) (by decide) hW1 hv0 hg1;
           obtain ⟨S1, hR1, hA1, hz1⟩ := HRW.out.push (f := 4) (by decide) hW1 hv0 ho1 hg1 (by simpa using hn1);
           have hh1 := HRW.out.push_high (v' := .slice a1 ((F 4).length + 1) c1) (f := 4) (by decide) hW1 hv0 hg1;
           have q0 := (hcR 4).trans hv0;
           have q1 := hfR 4;
           obtain ⟨w2, hw2⟩ : ∃ w2, w1.setCell ⟨R, 4, none⟩ (.slice a1 ((F 4).length + 1) c1) = w2 := ⟨_, rfl⟩;
           rw [hw2] at hR1 hA1 hh1;
           have HH1 : Hid (∀ k, k < wr.heap.size → 150 ≤ S k → w2.heap[k]? = wr.heap[k]?) := hh1;
           have HR1 : Hid (RoomAt ety base R S1 (fun j => if j = 4 then F 4 ++ [.slice (some ⟨b, 0, none⟩) (l.length + k) cp] else F j) w2) := hR1;
           have HA1 : Hid (Agree S S1 wr w2) := hA1;
           clear ho1 hg1 hn1 hW1 hcR hfR hA1 hz1 hh1;
           obtain ⟨vA, hvA, hoA, hlA⟩ := hR1.field 5 (by decide);
           have HOA : Hid (w2.ownsRow base 3 1 vA (F 5).length (F 5)) := hoA;
           clear hR1 hoA hlA)
        | (at_builtin; refine append_one w2 (.int .i64 (l.length : Int)) rfl (.tmp 38) (.tmp 41) 33 3 (.int .i64 0) 8 rfl und27 info3 rfl base vA _ _ (by rfl) HOA.out rfl _ rfl (by rfl) (by have := HF.out.2; unfold maxLen; omega) (by have := HF.out.2; omega) HR1.out.bas ?_; intro v3 w3 ho3 hg3 hn3;
           obtain ⟨a3, c3, hf3⟩ := own_form ho3;
           subst hf3;
           have hW3 : Below w2.heap.size w2 (w2.alloc (.cells #[.int .i64 (l.length : Int)] 3)) := (Below.refl _ _).alloc (Nat.le_refl _) _;
           obtain ⟨hcR3, hfR3⟩ := HR1.out.after (f := 5) (by decide) hW3 hvA hg3;
           obtain ⟨S3, hR3, hA3, hz3⟩ := HR1.out.push (f := 5) (by decide) hW3 hvA ho3 hg3 (by simpa using hn3);
           have hh3 := HR1.out.push_high (v' := .slice a3 ((F 5).length + 1) c3) (f := 5) (by decide) hW3 hvA hg3;
           have q3 := (hcR3 5).trans hvA;
           have q4 := hfR3 5;
           obtain ⟨w4, hw4⟩ : ∃ w4, w3.setCell ⟨R, 5, none⟩ (.slice a3 ((F 5).length + 1) c3) = w4 := ⟨_, rfl⟩;
           rw [hw4] at hR3 hA3 hh3;
           have HH3 : Hid (∀ k, k < w2.heap.size → 150 ≤ S1 k → w4.heap[k]? = w2.heap[k]?) := hh3;
           have HR3 : Hid (RoomAt ety base R S3 (fun j => if j = 5 then F 5 ++ [.int .i64 (l.length : Int)] else if j = 4 then F 4 ++ [.slice (some ⟨b, 0, none⟩) (l.length + k) cp] else F j) w4) := hR3;
           have HA3 : Hid (Agree S1 S3 w2 w4) := hA3;
           clear ho3 hg3 hn3 hW3 hcR3 hfR3 hR3 hA3 hz3 hh3))
      go_ret
      have hs1 : S1 b = 0 := (HA1.out.lab b hbw).trans hSb
      have hbw2 : b < w2.heap.size := Nat.lt_of_lt_of_le hbw HA1.out.size
      refine ⟨⟨b, cp, S3, _, rfl, hbb, Nat.lt_of_lt_of_le hbw2 HA3.out.size, (HA3.out.lab b hbw2).trans hs1, HR3.out, rfl, rfl, fun j h0 h1 => by simp [h0, h1], (HAG.out.trans HA1.out).trans HA3.out, fun j u hj => ?_, fun q hq hS => ?_⟩⟩
      · exact (HA3.out.cell (a := ⟨b, j, none⟩) hbw2 hs1).trans ((HA1.out.cell (a := ⟨b, j, none⟩) hbw hSb).trans (HCB.out j u hj))
      · have hq1 : q < wr.heap.size := Nat.lt_of_lt_of_le hq HBW.out.size
        exact (HH3.out q (Nat.lt_of_lt_of_le hq1 HA1.out.size) (by rw [HA1.out.lab q hq1]; exact hS)).trans ((HH1.out q hq1 hS).trans (HBW.out.block q hq))
end Go.Proofs.YtjanpglnahagdaaGreatDoor
