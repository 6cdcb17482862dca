/-
  Put together: PbAmong, PbSays, PbAsked.
-/
import Derived.Test.YtjffbndiecjkjaaGreatDoorPbOfs
import Derived.Test.YtjffbndiecjkjaaGreatDoorPbAllMW
import Derived.Test.YtjffbndiecjkjaaGreatDoorPbKnowns
import Derived.Test.YtjffbndiecjkjaaGreatDoorPbFewBit
namespace Go.Proofs.YtjffbndiecjkjaaGreatDoor
open Go.Shelf Go.RowKit Go.Lib Go.Sort
open Bn (limbs)

theorem contains_at {l : List Int} {k : Nat} {n : Int} (hk : k < l.length) : (l.drop k).contains n = (n == l[k] || (l.drop (k + 1)).contains n) := by
  rw [List.drop_eq_getElem_cons hk, List.contains_cons]

set_option maxRecDepth 100000 in
set_option maxHeartbeats 2000000 in
theorem among_any (l : List Int) (v : Value) (n : Int) (w : World) (hA : InAt w v l) (hn : l.length ≤ 1000000) : Calls Tryz.prog 18 #[v, .int .i64 n] w fun e w' => e = .returned (.bool (l.contains n)) ∧ w' = w := by
  obtain ⟨a, c, rfl, hlc, hcm, hcell⟩ := hA
  obtain ⟨N, hN⟩ : ∃ N : Nat, l.length = N := ⟨_, rfl⟩
  have HN : Hid (l.length = N) := hN
  have HC : Hid (∀ k (h : k < l.length), ∃ b off, a = some ⟨b, off, none⟩ ∧ b < w.heap.size ∧ w.cell? ⟨b, off + k, none⟩ = some (.int .i64 l[k])) := hcell
  have hN6 : N ≤ 1000000 := by omega
  rw [hN] at hlc ⊢
  obtain ⟨res, hres⟩ : ∃ r, l.contains n = r := ⟨_, rfl⟩
  have Hres : Hid (l.contains n = res) := hres
  rw [hres]
  clear hN hcell hn hres hcm
  go_enter Tryz.func18, Tryz.ntmps18
  go_wp2_with fail
  go_loopw [5] (fun iv wr => ∃ (k : Nat), iv = .int .i64 (k : Int) ∧ k ≤ N ∧ w = wr ∧ Hid ((l.drop k).contains n = res)) (fun iv _ => N - (intOf iv).toNat)
  case atStart => exact ⟨0, rfl, Nat.zero_le _, rfl, Hres⟩
  case round =>
    obtain ⟨k, rfl, hk, hww, hB⟩ := hrel
    subst hww
    by_cases hkN : k < N
    · have hkI : (k : Int) < (N : Int) := by omega
      have hkl : k < l.length := by have := HN.out; omega
      obtain ⟨b, off, ha, hbl, c0⟩ := HC.out k hkl
      have hnx := contains_at (n := n) hkl
      obtain ⟨x, hp⟩ : ∃ p, l[k] = p := ⟨_, rfl⟩
      rw [hp] at c0 hnx
      subst ha
      by_cases hx : x = n
      · subst hx
        have hr : true = res := by
          have := hnx.symm.trans hB.out
          simpa using this
        subst hr
        clear hnx hB hp
        go_wp2_with fail
        go_ret
        exact ⟨rfl, rfl⟩
      · have hb1 : (x == n) = false := beq_eq_false_iff_ne.2 hx
        have HB2 : Hid ((l.drop (k + 1)).contains n = res) := by
          have h1 : (n == x) = false := beq_eq_false_iff_ne.2 (fun e => hx e.symm)
          have := hnx.symm.trans hB.out
          rw [h1, Bool.false_or] at this
          exact this
        clear hnx hB hp hx
        go_wp2_with fail
        go_roundw
        case rel => exact ⟨k + 1, by go_num, by omega, (by first | rfl | trivial), HB2⟩
        case measure => simp [intOf]; omega
    · obtain rfl : k = N := by omega
      have hd : l.drop k = [] := List.drop_eq_nil_of_le (by have := HN.out; omega)
      rw [hd] at hB
      have hr : false = res := hB.out
      subst hr
      go_wp2_with fail
      go_ret
      exact ⟨rfl, rfl⟩
end Go.Proofs.YtjffbndiecjkjaaGreatDoor

namespace Go.Proofs.YtjffbndiecjkjaaGreatDoor
open Go.Shelf Go.RowKit Go.Lib Go.Sort
open Bn (limbs)

/-- Which variables are told true. -/
def ofT (l : List Int) (v : Nat) : Bool := l.contains (v : Int)
theorem litT_pos (l : List Int) {x : Int} (h : 0 < x) : Pm.litT (ofT l) x = l.contains x := by
  unfold Pm.litT ofT
  rw [decide_eq_true h, show ((x.natAbs : Nat) : Int) = x by omega]
  cases l.contains x <;> rfl
theorem litT_neg (l : List Int) {x : Int} (h : x < 0) : Pm.litT (ofT l) x = !(l.contains (-x)) := by
  unfold Pm.litT ofT
  rw [decide_eq_false (by omega), show ((x.natAbs : Nat) : Int) = -x by omega]
  cases l.contains (-x) <;> rfl

/-- What says makes on its way. -/
structure SyAt (w : World) (rv : Value) (deg : ByteArray) (B : Nat) (S : Int) (wr : World) : Prop where
  arg : wr.heap[w.heap.size]? = some (.cells #[rv, .string deg] 24)
  sum : ∃ n q, wr.heap[B]? = some (.cells #[.int .i64 n, .pointer q] 33) ∧ BigAt wr (.agg #[.int .i64 n, .pointer q]) S
  ge : w.heap.size < B
  rest : RowKit.Below w.heap.size w wr
theorem SyAt.below {w : World} {rv : Value} {deg : ByteArray} {B : Nat} {S : Int} {wr w' : World} (h : SyAt w rv deg B S wr) (hb : RowKit.Below wr.heap.size wr w') : SyAt w rv deg B S w' := by
  obtain ⟨n, q, h1, h2⟩ := h.sum
  exact ⟨(hb.block _ (Array.getElem?_eq_some_iff.1 h.arg).1).trans h.arg, ⟨n, q, (hb.block _ (Array.getElem?_eq_some_iff.1 h1).1).trans h1, h2.below hb⟩, h.ge, h.rest.trans (hb.mono h.rest.size)⟩
theorem SyAt.store {w : World} {rv : Value} {deg : ByteArray} {B : Nat} {S S' : Int} {wr : World} {n : Int} {q : Option Addr} (h : SyAt w rv deg B S wr) (hB : BigAt wr (.agg #[.int .i64 n, .pointer q]) S') :
    SyAt w rv deg B S' ((wr.setCell ⟨B, 0, none⟩ (.int .i64 n)).setCell ⟨B, 1, none⟩ (.pointer q)) := by
  obtain ⟨n0, q0, h1, h2⟩ := h.sum
  have hg := grown_set2 wr B 0 (.int .i64 n) (.pointer q)
  have := h.ge
  exact ⟨(hg.block _ (Array.getElem?_eq_some_iff.1 h.arg).1 (by simp; omega)).trans h.arg, ⟨n, q, box_over h1 _ _, hB.setBox h1 _ _⟩, h.ge, below_of_grown h.rest hg h.rest.size (by omega)⟩

theorem ofPs_sum {f : Int → Bool} {ls : List (ByteArray × Int)} {k : Nat} {p : ByteArray × Int} (hk : k < ls.length) (hp : ls[k] = p) : Pm.sumF f (ofPs (ls.take (k + 1))) = Pm.sumF f (ofPs (ls.take k)) + (if f p.2 then (parseZ p.1.data.toList).getD 0 else 0) := by
  rw [ofPs_next hk hp, Pm.sumF_append]; simp [Pm.sumF]
theorem ofPs_take_abs (ls : List (ByteArray × Int)) (k : Nat) : Pm.absS (ofPs (ls.take k)) ≤ Pm.absS (ofPs ls) := by
  have : ofPs (ls.take k) = (ofPs ls).take k := by unfold ofPs; rw [List.map_take]
  rw [this]; exact Pm.absS_take _ _

/-- What says answers. -/
def SyOut (w : World) (ls : List (ByteArray × Int)) (deg : ByteArray) (of : List Int) (e : Ending) (w' : World) : Prop :=
  ∃ h, e = .returned (.tuple #[.bool h, .bool (decide (ofErr ls deg = 0))]) ∧ RowKit.Below w.heap.size w w' ∧ (ofErr ls deg = 0 → h = decide ((parseZ deg.data.toList).getD 0 ≤ Pm.sumF (Pm.litT (ofT of)) (ofPs ls)))

set_option maxRecDepth 100000 in
set_option maxHeartbeats 4000000 in
theorem says_any (ls : List (ByteArray × Int)) (pv : Value) (deg : ByteArray) (of : List Int) (ov : Value) (w : World) (hA : ApAt w pv ls) (hI : InAt w ov of) (hn : ls.length ≤ 1000000) (hno : of.length ≤ 1000000) (hsz : ∀ p ∈ ls, p.1.size ≤ 1000000) (hds : deg.size ≤ 1000000)
    (hab : (limbs (Pm.absS (ofPs ls))).length ≤ 900000) :
    Calls Tryz.prog 9 #[.agg #[pv, .string deg], ov] w (SyOut w ls deg of) := by
  obtain ⟨a, c, rfl, hlc, hcm, hcell⟩ := hA
  obtain ⟨N, hN⟩ : ∃ N : Nat, ls.length = N := ⟨_, rfl⟩
  have HN : Hid (ls.length = N) := hN
  have HC : Hid (∀ k (h : k < ls.length), ∃ b off, a = some ⟨b, off, none⟩ ∧ b < w.heap.size ∧ w.cell? ⟨b, off + k * 2, none⟩ = some (.string ls[k].1) ∧ w.cell? ⟨b, off + k * 2 + 1, none⟩ = some (.int .i64 ls[k].2)) := hcell
  have Hsz : Hid (∀ p ∈ ls, p.1.size ≤ 1000000) := hsz
  have Hab : Hid ((limbs (Pm.absS (ofPs ls))).length ≤ 900000) := hab
  have HAm : Hid (∀ w', RowKit.Below w.heap.size w w' → ∀ x, Calls Tryz.prog 18 #[ov, .int .i64 x] w' fun e w'' => e = .returned (.bool (of.contains x)) ∧ w'' = w') := fun w' hb x => among_any of ov x w' (hI.below hb) hno
  have HNu : Hid (∀ c w', Calls Tryz.prog 11 #[.int .i64 c] w' fun e w'' => e = .returned (.int .i64 c) ∧ w'' = w') := fun c w' => num_any c w'
  have hN6 : N ≤ 1000000 := by omega
  obtain ⟨oa, oc, rfl, _, _, _⟩ := hI
  rw [hN] at hlc ⊢
  obtain ⟨W, hW⟩ : ∃ W, w.alloc (.cells #[.slice a N c, .string deg] 24) = W := ⟨_, rfl⟩
  obtain ⟨hO, hbW⟩ := new_obj w _ hW
  have HO : Hid (W.heap[w.heap.size]? = some (.cells #[.slice a N c, .string deg] 24)) := hO
  have HB : Hid (RowKit.Below w.heap.size w W) := hbW
  clear hN hcell hsz hab hn hO hbW hno hcm
  go_enter Tryz.func9, Tryz.ntmps9
  go_wp2_with fail
  refine (of_any 0 W).mono ?_
  rintro e w1 ⟨rfl, hb⟩
  clear hW
  go_wp2_with fail
  obtain ⟨V, hV⟩ : ∃ V, w1.alloc (.cells #[.int .i64 0, .pointer none] 33) = V := ⟨_, rfl⟩
  obtain ⟨hO1, hb1⟩ := new_obj w1 _ hV
  rw [hV]
  have HF0 : Hid (SyAt w (.slice a N c) deg w1.heap.size 0 V) := by
    have h := (hb.block _ (Array.getElem?_eq_some_iff.1 HO.out).1).trans HO.out
    exact ⟨(hb1.block _ (Array.getElem?_eq_some_iff.1 h).1).trans h, ⟨0, none, hO1, .inl ⟨by unfold Fits; omega, rfl⟩⟩, Nat.lt_of_lt_of_le (Array.getElem?_eq_some_iff.1 HO.out).1 hb.size, (HB.out.trans (hb.mono HB.out.size)).trans (hb1.mono (Nat.le_trans HB.out.size hb.size))⟩
  obtain ⟨B, hB⟩ : ∃ B, w1.heap.size = B := ⟨_, rfl⟩
  rw [hB] at HF0 ⊢
  clear hb hO1 hb1 hV hB
  go_loopw [7] (fun iv wr => ∃ (k : Nat), iv = .int .i64 (k : Int) ∧ k ≤ N ∧ Hid (SyAt w (.slice a N c) deg B (Pm.sumF (Pm.litT (ofT of)) (ofPs (ls.take k))) wr) ∧ Hid (ofE (ls.take k) = 0)) (fun iv _ => N - (intOf iv).toNat)
  case atStart => exact ⟨0, rfl, Nat.zero_le _, HF0, rfl⟩
  case round =>
    obtain ⟨k, rfl, hk, hF, hE⟩ := hrel
    clear HF0
    by_cases hkN : k < N
    · have hkI : (k : Int) < (N : Int) := by omega
      have hkl : k < ls.length := by have := HN.out; omega
      obtain ⟨b, off, ha, hbl, c0, c1⟩ := HC.out k hkl
      have e0 := (hF.out.rest.cell (p := ⟨b, off + k * 2, none⟩) hbl).trans c0
      have e1 := (hF.out.rest.cell (p := ⟨b, off + k * 2 + 1, none⟩) hbl).trans c1
      have hzs := Hsz.out _ (List.getElem_mem hkl)
      have hnx := ofPs_sum (f := Pm.litT (ofT of)) hkl rfl
      obtain ⟨p, hp⟩ : ∃ p, ls[k] = p := ⟨_, rfl⟩
      have Hp : Hid (ls[k] = p) := hp
      rw [hp] at e0 e1 hzs hnx
      obtain ⟨s, l⟩ := p
      simp only at e0 e1 hzs hnx
      subst ha
      obtain ⟨m0, m1, _, _⟩ := box2_facts hF.out.arg
      clear c0 c1 hp
      go_wp2_with fail
      refine (parse_any s wr hzs).mono ?_
      rintro r w2 ⟨rv, rfl, hB1, hb1⟩
      obtain ⟨n, q, rfl⟩ := hB1.shape
      obtain ⟨V2, hV2⟩ : ∃ V, w2.alloc (.cells #[.int .i64 n, .pointer q] 33) = V := ⟨_, rfl⟩
      obtain ⟨hO2, hbV2⟩ := new_obj w2 _ hV2
      have HF2 : Hid (SyAt w (.slice (some ⟨b, off, none⟩) N c) deg B (Pm.sumF (Pm.litT (ofT of)) (ofPs (ls.take k))) V2) := (hF.out.below hb1).below hbV2
      have HB2 : Hid (BigAt V2 (.agg #[.int .i64 n, .pointer q]) ((parseZ s.data.toList).getD 0)) := hB1.below hbV2
      have HO2 : Hid (V2.heap[w2.heap.size]? = some (.cells #[.int .i64 n, .pointer q] 33)) := hO2
      have hlb : b < wr.heap.size := Nat.lt_of_lt_of_le hbl hF.out.rest.size
      have e1' := ((hb1.trans (hbV2.mono hb1.size)).cell (p := ⟨b, off + k * 2 + 1, none⟩) hlb).trans e1
      obtain ⟨n0, n1, _, _⟩ := box2_facts HF2.out.arg
      obtain ⟨y0, y1, _, _⟩ := box_facts hO2
      obtain ⟨sn, sq, hs2, hsB⟩ := HF2.out.sum
      obtain ⟨s0, s1, s2, s3⟩ := box_facts hs2
      have HSB : Hid (BigAt V2 (.agg #[.int .i64 sn, .pointer sq]) (Pm.sumF (Pm.litT (ofT of)) (ofPs (ls.take k)))) := hsB
      have Hnx : Hid (Pm.sumF (Pm.litT (ofT of)) (ofPs (ls.take (k + 1))) = Pm.sumF (Pm.litT (ofT of)) (ofPs (ls.take k)) + (if Pm.litT (ofT of) l then (parseZ s.data.toList).getD 0 else 0)) := hnx
      have Hbs : Hid ((limbs (Pm.sumF (Pm.litT (ofT of)) (ofPs (ls.take k))).natAbs).length ≤ 1000000 ∧ (limbs ((parseZ s.data.toList).getD 0).natAbs).length ≤ 1000000) := ⟨Nat.le_trans (limbs_abs (Nat.le_trans (Pm.sumF_abs _ _) (ofPs_take_abs ls k)) Hab.out) (by decide), Nat.le_trans (parse_len _) (by simpa using hzs)⟩
      have HAm2 : Hid (∀ x, Calls Tryz.prog 18 #[.slice oa of.length oc, .int .i64 x] V2 fun e w'' => e = .returned (.bool (of.contains x)) ∧ w'' = V2) := fun x => HAm.out V2 HF2.out.rest x
      clear hB1 hb1 hO2 hbV2 hF hs2 hsB e0 e1 hnx m0 m1 hbl hlb
      by_cases hz : (parseZ s.data.toList).isSome = true
      · have he : errOf (parseZ s.data.toList) = 0 := by cases h : parseZ s.data.toList with | none => rw [h] at hz; cases hz | some z => rfl
        rw [he]
        clear he
        by_cases hl : IsLit l
        · have HE4 : Hid (ofE (ls.take (k + 1)) = 0) := ofE_next hkl Hp.out hE.out hz hl
          obtain ⟨h0, h1, h2⟩ := hl
          have hb0 : (l == 0) = false := beq_eq_false_iff_ne.2 h0
          have hb1 : ¬ (1073741824 : Int) < l := by omega
          have hb2 : ¬ l < -1073741824 := by omega
          by_cases hpos : 0 < l
          · have hneg : ¬ l < 0 := by omega
            rw [litT_pos of hpos] at Hnx
            have HA1 := HAm2.out l
            generalize of.contains l = t1 at Hnx HA1
            have HAc : Hid (Calls Tryz.prog 18 #[.slice oa of.length oc, .int .i64 l] V2 fun e w'' => e = .returned (.bool t1) ∧ w'' = V2) := HA1
            clear HA1 h0 h1 h2 hz HAm2
            cases t1
            · go_wp2_with (first | (go_at_call 11; refine calls_at (HNu.out 0 _) (by with_reducible rfl) (by with_reducible rfl) ?_; rintro e w3 ⟨rfl, hww⟩; rw [hww]) | (go_at_call 18; refine calls_at HAc.out (by with_reducible rfl) (by with_reducible rfl) ?_; rintro e w4 ⟨rfl, hww⟩; rw [hww]))
              go_roundw
              case rel => exact ⟨k + 1, by go_num, by omega, by rw [Hnx.out]; simpa using HF2, HE4⟩
              case measure => simp [intOf]; omega
            · go_wp2_with (first | (go_at_call 11; refine calls_at (HNu.out 0 _) (by with_reducible rfl) (by with_reducible rfl) ?_; rintro e w3 ⟨rfl, hww⟩; rw [hww]) | (go_at_call 18; refine calls_at HAc.out (by with_reducible rfl) (by with_reducible rfl) ?_; rintro e w4 ⟨rfl, hww⟩; rw [hww]))
              refine (add_big (Pm.sumF (Pm.litT (ofT of)) (ofPs (ls.take k))) ((parseZ s.data.toList).getD 0) _ _ V2 HSB.out HB2.out Hbs.out.1 Hbs.out.2).mono ?_
              rintro r w6 ⟨r2, rfl, hB3, hb3⟩
              obtain ⟨n2, q2, rfl⟩ := hB3.shape
              have hF2 := HF2.out.below hb3
              obtain ⟨tn, tq, ht2, _⟩ := hF2.sum
              obtain ⟨t0, t1, t2, t3⟩ := box_facts ht2
              have HF3 : Hid (SyAt w (.slice (some ⟨b, off, none⟩) N c) deg B (Pm.sumF (Pm.litT (ofT of)) (ofPs (ls.take (k + 1)))) ((w6.setCell ⟨B, 0, none⟩ (.int .i64 n2)).setCell ⟨B, 1, none⟩ (.pointer q2))) := by
                show SyAt _ _ _ _ _ _
                rw [Hnx.out, if_pos (by decide)]
                exact hF2.store hB3
              clear hF2 ht2 hB3 hb3 s0 s1 s2 s3 HF2 HB2 HSB Hbs Hnx y0 y1 n0 n1 e1'
              go_wp2_with fail
              go_roundw
              case rel => exact ⟨k + 1, by go_num, by omega, HF3, HE4⟩
              case measure => simp [intOf]; omega
          · have hneg : l < 0 := by omega
            rw [litT_neg of hneg] at Hnx
            have HA1 := HAm2.out (-l)
            have HA0 := HAm2.out l
            generalize of.contains (-l) = t1 at Hnx HA1
            generalize of.contains l = t0 at HA0
            have HAc : Hid (Calls Tryz.prog 18 #[.slice oa of.length oc, .int .i64 (-l)] V2 fun e w'' => e = .returned (.bool t1) ∧ w'' = V2) := HA1
            have HAd : Hid (Calls Tryz.prog 18 #[.slice oa of.length oc, .int .i64 l] V2 fun e w'' => e = .returned (.bool t0) ∧ w'' = V2) := HA0
            have hwn : IntKind.i64.wrap (-l) = -l := by rw [IntKind.wrap_i64]; omega
            clear HA1 HA0 h0 h1 h2 hz HAm2
            cases t0 <;> cases t1
            case false.true => 
              go_wp2_with (first | (go_at_call 11; refine calls_at (HNu.out 0 _) (by with_reducible rfl) (by with_reducible rfl) ?_; rintro e w3 ⟨rfl, hww⟩; rw [hww]) | (go_at_call 18; refine calls_at HAd.out (by with_reducible rfl) (by with_reducible rfl) ?_; rintro e w4 ⟨rfl, hww⟩; rw [hww]) | (go_at_call 18; refine calls_at HAc.out (by with_reducible rfl) (by with_reducible rfl) ?_; rintro e w5 ⟨rfl, hww⟩; rw [hww]))
              go_roundw
              case rel => exact ⟨k + 1, by go_num, by omega, by rw [Hnx.out]; simpa using HF2, HE4⟩
              case measure => simp [intOf]; omega
            case true.true => 
              go_wp2_with (first | (go_at_call 11; refine calls_at (HNu.out 0 _) (by with_reducible rfl) (by with_reducible rfl) ?_; rintro e w3 ⟨rfl, hww⟩; rw [hww]) | (go_at_call 18; refine calls_at HAd.out (by with_reducible rfl) (by with_reducible rfl) ?_; rintro e w4 ⟨rfl, hww⟩; rw [hww]) | (go_at_call 18; refine calls_at HAc.out (by with_reducible rfl) (by with_reducible rfl) ?_; rintro e w5 ⟨rfl, hww⟩; rw [hww]))
              go_roundw
              case rel => exact ⟨k + 1, by go_num, by omega, by rw [Hnx.out]; simpa using HF2, HE4⟩
              case measure => simp [intOf]; omega
            case false.false =>
              go_wp2_with (first | (go_at_call 11; refine calls_at (HNu.out 0 _) (by with_reducible rfl) (by with_reducible rfl) ?_; rintro e w3 ⟨rfl, hww⟩; rw [hww]) | (go_at_call 18; refine calls_at HAd.out (by with_reducible rfl) (by with_reducible rfl) ?_; rintro e w4 ⟨rfl, hww⟩; rw [hww]) | (go_at_call 18; refine calls_at HAc.out (by with_reducible rfl) (by with_reducible rfl) ?_; rintro e w5 ⟨rfl, hww⟩; rw [hww]))
              refine (add_big (Pm.sumF (Pm.litT (ofT of)) (ofPs (ls.take k))) ((parseZ s.data.toList).getD 0) _ _ V2 HSB.out HB2.out Hbs.out.1 Hbs.out.2).mono ?_
              rintro r w6 ⟨r2, rfl, hB3, hb3⟩
              obtain ⟨n2, q2, rfl⟩ := hB3.shape
              have hF2 := HF2.out.below hb3
              obtain ⟨tn, tq, ht2, _⟩ := hF2.sum
              obtain ⟨t0, t1, t2, t3⟩ := box_facts ht2
              have HF3 : Hid (SyAt w (.slice (some ⟨b, off, none⟩) N c) deg B (Pm.sumF (Pm.litT (ofT of)) (ofPs (ls.take (k + 1)))) ((w6.setCell ⟨B, 0, none⟩ (.int .i64 n2)).setCell ⟨B, 1, none⟩ (.pointer q2))) := by
                show SyAt _ _ _ _ _ _
                rw [Hnx.out, if_pos (by decide)]
                exact hF2.store hB3
              clear hF2 ht2 hB3 hb3 s0 s1 s2 s3 HF2 HB2 HSB Hbs Hnx y0 y1 n0 n1 e1'
              go_wp2_with fail
              go_roundw
              case rel => exact ⟨k + 1, by go_num, by omega, HF3, HE4⟩
              case measure => simp [intOf]; omega
            case true.false =>
              go_wp2_with (first | (go_at_call 11; refine calls_at (HNu.out 0 _) (by with_reducible rfl) (by with_reducible rfl) ?_; rintro e w3 ⟨rfl, hww⟩; rw [hww]) | (go_at_call 18; refine calls_at HAd.out (by with_reducible rfl) (by with_reducible rfl) ?_; rintro e w4 ⟨rfl, hww⟩; rw [hww]) | (go_at_call 18; refine calls_at HAc.out (by with_reducible rfl) (by with_reducible rfl) ?_; rintro e w5 ⟨rfl, hww⟩; rw [hww]))
              refine (add_big (Pm.sumF (Pm.litT (ofT of)) (ofPs (ls.take k))) ((parseZ s.data.toList).getD 0) _ _ V2 HSB.out HB2.out Hbs.out.1 Hbs.out.2).mono ?_
              rintro r w6 ⟨r2, rfl, hB3, hb3⟩
              obtain ⟨n2, q2, rfl⟩ := hB3.shape
              have hF2 := HF2.out.below hb3
              obtain ⟨tn, tq, ht2, _⟩ := hF2.sum
              obtain ⟨t0, t1, t2, t3⟩ := box_facts ht2
              have HF3 : Hid (SyAt w (.slice (some ⟨b, off, none⟩) N c) deg B (Pm.sumF (Pm.litT (ofT of)) (ofPs (ls.take (k + 1)))) ((w6.setCell ⟨B, 0, none⟩ (.int .i64 n2)).setCell ⟨B, 1, none⟩ (.pointer q2))) := by
                show SyAt _ _ _ _ _ _
                rw [Hnx.out, if_pos (by decide)]
                exact hF2.store hB3
              clear hF2 ht2 hB3 hb3 s0 s1 s2 s3 HF2 HB2 HSB Hbs Hnx y0 y1 n0 n1 e1'
              go_wp2_with fail
              go_roundw
              case rel => exact ⟨k + 1, by go_num, by omega, HF3, HE4⟩
              case measure => simp [intOf]; omega
        · have HE4 : Hid (¬ ofErr ls deg = 0) := by
            show ¬ _
            unfold ofErr
            rw [ofE_nolit hkl Hp.out hE.out hz hl, if_neg (by decide)]; decide
          have Hb : Hid (RowKit.Below w.heap.size w V2) := HF2.out.rest
          have hcase : l = 0 ∨ (l ≠ 0 ∧ 1073741824 < l) ∨ (l ≠ 0 ∧ ¬ 1073741824 < l ∧ l < -1073741824) := by
            unfold IsLit at hl; omega
          clear hz hl HF2 HSB HB2 Hbs Hnx HAm2
          rcases hcase with rfl | ⟨h1, h2⟩ | ⟨h1, h2, h3⟩
          · go_wp2_with (go_at_call 11; refine calls_at (HNu.out 0 _) (by with_reducible rfl) (by with_reducible rfl) ?_; rintro e w3 ⟨rfl, hww⟩; rw [hww])
            go_ret2
            exact ⟨false, by rw [decide_eq_false HE4.out]; rfl, Hb.out, fun h => absurd h HE4.out⟩
          · have hb0 : (l == 0) = false := beq_eq_false_iff_ne.2 h1
            clear h1
            go_wp2_with (go_at_call 11; refine calls_at (HNu.out 0 _) (by with_reducible rfl) (by with_reducible rfl) ?_; rintro e w3 ⟨rfl, hww⟩; rw [hww])
            go_ret2
            exact ⟨false, by rw [decide_eq_false HE4.out]; rfl, Hb.out, fun h => absurd h HE4.out⟩
          · have hb0 : (l == 0) = false := beq_eq_false_iff_ne.2 h1
            clear h1
            go_wp2_with (go_at_call 11; refine calls_at (HNu.out 0 _) (by with_reducible rfl) (by with_reducible rfl) ?_; rintro e w3 ⟨rfl, hww⟩; rw [hww])
            go_ret2
            exact ⟨false, by rw [decide_eq_false HE4.out]; rfl, Hb.out, fun h => absurd h HE4.out⟩
      · have HE4 : Hid (¬ ofErr ls deg = 0) := by
          show ¬ _
          unfold ofErr
          rw [ofE_bad hkl Hp.out hE.out (by simpa using hz), if_neg (by decide)]; decide
        have he : errOf (parseZ s.data.toList) = 10 := by cases h : parseZ s.data.toList with | none => rfl | some z => rw [h] at hz; exact absurd rfl hz
        have Hb : Hid (RowKit.Below w.heap.size w V2) := HF2.out.rest
        rw [he]
        clear he hz HF2 HSB HB2 Hbs Hnx HAm2
        go_wp2_with (go_at_call 11; refine calls_at (HNu.out 10 _) (by with_reducible rfl) (by with_reducible rfl) ?_; rintro e w3 ⟨rfl, hww⟩; rw [hww])
        go_ret2
        exact ⟨false, by rw [decide_eq_false HE4.out]; rfl, Hb.out, fun h => absurd h HE4.out⟩
    · obtain rfl : k = N := by omega
      have htake : ls.take k = ls := List.take_of_length_le (by have := HN.out; omega)
      rw [htake] at hF hE
      obtain ⟨m0, m1, _, _⟩ := box2_facts hF.out.arg
      go_wp2_with fail
      refine (parse_any deg wr hds).mono ?_
      rintro r w2 ⟨rv, rfl, hB1, hb1⟩
      obtain ⟨n, q, rfl⟩ := hB1.shape
      obtain ⟨V2, hV2⟩ : ∃ V, w2.alloc (.cells #[.int .i64 n, .pointer q] 33) = V := ⟨_, rfl⟩
      obtain ⟨hO2, hbV2⟩ := new_obj w2 _ hV2
      have HF2 : Hid (SyAt w (.slice a k c) deg B (Pm.sumF (Pm.litT (ofT of)) (ofPs ls)) V2) := (hF.out.below hb1).below hbV2
      have hBd := hB1.below hbV2
      obtain ⟨y0, y1, _, _⟩ := box_facts hO2
      obtain ⟨sn, sq, hs2, hsB⟩ := HF2.out.sum
      obtain ⟨s0, s1, s2, s3⟩ := box_facts hs2
      obtain ⟨cc, hcc⟩ : ∃ cc, cmpI (Pm.sumF (Pm.litT (ofT of)) (ofPs ls)) ((parseZ deg.data.toList).getD 0) = cc := ⟨_, rfl⟩
      have HCm := cmp_big (Pm.sumF (Pm.litT (ofT of)) (ofPs ls)) ((parseZ deg.data.toList).getD 0) _ _ V2 hsB hBd (Nat.le_trans (limbs_abs (Pm.sumF_abs _ _) Hab.out) (by decide))
      have Hcc : Hid (decide (0 ≤ cc) = decide ((parseZ deg.data.toList).getD 0 ≤ Pm.sumF (Pm.litT (ofT of)) (ofPs ls))) := by
        show _ = _
        rw [← hcc]
        rcases Int.lt_trichotomy (Pm.sumF (Pm.litT (ofT of)) (ofPs ls)) ((parseZ deg.data.toList).getD 0) with h | h | h
        · rw [cmpI_lt h]; simp; omega
        · rw [cmpI_eq (by omega) (by omega)]; simp; omega
        · rw [cmpI_gt h]; simp; omega
      rw [hcc] at HCm
      have HCc : Hid (Calls Tryz.prog 30 #[.agg #[.int .i64 sn, .pointer sq], .agg #[.int .i64 n, .pointer q]] V2 fun e w' => e = .returned (.int .i64 cc) ∧ RowKit.Below V2.heap.size V2 w') := HCm
      have Her : Hid ((errOf (parseZ deg.data.toList) == 0) = decide (ofErr ls deg = 0)) := by
        show _ = _
        unfold ofErr
        rw [if_pos hE.out]
        cases parseZ deg.data.toList <;> rfl
      generalize errOf (parseZ deg.data.toList) = ee at *
      clear hB1 hb1 hO2 hbV2 hF hE hs2 hsB hBd m0 m1 hcc HCm htake
      go_wp2_with (first | (go_at_call 11; refine calls_at (HNu.out ee _) (by with_reducible rfl) (by with_reducible rfl) ?_; rintro e w3 ⟨rfl, hww⟩; rw [hww]) | (go_at_call 30; refine calls_at HCc.out (by with_reducible rfl) (by with_reducible rfl) ?_; rintro e w4 ⟨rfl, hb4⟩))
      go_ret2
      exact ⟨decide (0 ≤ cc), by rw [← Her.out]; rfl, HF2.out.rest.trans (hb4.mono HF2.out.rest.size), fun _ => Hcc.out⟩
end Go.Proofs.YtjffbndiecjkjaaGreatDoor

namespace Go.Proofs.YtjffbndiecjkjaaGreatDoor
open Go.Shelf Go.RowKit Go.Lib Go.Sort
open Bn (limbs)

/-- A block of one Boolean: no number of the program's lies in it. -/
def BitAt (w : World) (g : Nat) (d : Bool) : Prop := w.heap[g]? = some (.cells #[.bool d] 4)
theorem BigAt.bit {w w' : World} {v : Value} {z : Int} {g : Nat} {d : Bool} (h : BigAt w v z) (hB : BitAt w g d) (hg : w.grownBy w' (some g)) : BigAt w' v z := by
  rcases h with h | ⟨h, p, s, hv, hp, h0, h1, hU⟩
  · exact .inl h
  · have hne : some p ≠ some g := by
      intro hrow
      injection hrow with hrow
      subst hrow
      unfold BitAt at hB
      simp [World.cell?, hB] at h1
    have hb := hg.block p hp hne
    refine .inr ⟨h, p, s, hv, Nat.lt_of_lt_of_le hp hg.size, (World.cell?_of_block (a := ⟨p, 0, none⟩) hb).trans h0, (World.cell?_of_block (a := ⟨p, 1, none⟩) hb).trans h1, hU.off hg (fun g' cur e f hg' hc' u hu => ?_) (fun g' hg' => ?_)⟩
    · injection hg' with hg'
      subst hg'
      unfold BitAt at hB
      rw [hB] at hc'
      injection hc' with hc'
      injection hc' with e1 e2 e3
      subst e1
      simp at hu
      subst hu
      intro n hn
      cases hn
    · injection hg' with hg'
      subst hg'
      exact ⟨_, _, _, hB⟩
theorem PiAt.bit {w w' : World} {v : Value} {K : List (Int × Int)} {g : Nat} {d : Bool} (h : PiAt w v K) (hB : BitAt w g d) (hg : w.grownBy w' (some g)) : PiAt w' v K := by
  rcases h with h | ⟨b, cap, L, hv, hlt, hl, hm, hH, hS⟩
  · exact .inl h
  · refine .inr ⟨b, cap, L, hv, Nat.lt_of_lt_of_le hlt hg.size, hl, hm, ?_, hS.mono (fun _ _ hb => hb.bit hB hg)⟩
    rcases Nat.eq_zero_or_pos L.length with h1 | h1
    · intro t ht
      rw [size_flatK] at ht
      simp [h1] at ht
    · have hb : b ≠ g := by
        intro e
        subst e
        obtain ⟨c0, _, _⟩ := pc_cells hH h1
        unfold BitAt at hB
        simp [World.cell?, hB] at c0
      have hbl := hg.block b hlt (fun e => hb (by injection e))
      intro t ht
      exact ⟨(World.cell?_of_block (a := ⟨b, 0 + t, none⟩) hbl).trans (hH t ht).1, by have := (hH t ht).2; simp only [World.frozen?] at this ⊢; rw [hbl]; exact this⟩
theorem InAt.bit {w w' : World} {v : Value} {l : List Int} {g : Nat} {d : Bool} (h : InAt w v l) (hB : BitAt w g d) (hg : w.grownBy w' (some g)) : InAt w' v l := by
  obtain ⟨a, c, hv, h1, h2, h3⟩ := h
  refine ⟨a, c, hv, h1, h2, fun k hk => ?_⟩
  obtain ⟨b, off, ha, hlt, c0⟩ := h3 k hk
  have hb : b ≠ g := by
    intro e
    subst e
    unfold BitAt at hB
    simp only [World.cell?, hB] at c0
    rcases Nat.eq_zero_or_pos (off + k) with h | h
    · rw [h] at c0; simp at c0
    · simp [Array.getElem?_eq_none, show (1 : Nat) ≤ off + k from h] at c0
  exact ⟨b, off, ha, Nat.lt_of_lt_of_le hlt hg.size, (World.cell?_of_block (a := ⟨b, off + k, none⟩) (hg.block b hlt (fun e => hb (by injection e)))).trans c0⟩

/-- What the function finds each time. -/
def AskJ (w0 : World) (g : Nat) (w : World) : Prop := BitAt w g true ∧ w0.grownBy w (some g)
theorem askJ_calm {w0 : World} {g : Nat} (hg : g < w0.heap.size) : Calm w0.heap.size (some g) (AskJ w0 g) := by
  refine ⟨fun w1 w2 P hP hj hgr => ⟨?_, grown_new hj.2 hgr hP⟩, fun g' h => by injection h with h; omega, fun w1 w2 hj hgr v z hb => hb.bit hj.1 hgr, fun w1 w2 hj hgr v K hb => hb.bit hj.1 hgr⟩
  exact (hgr.block g (Array.getElem?_eq_some_iff.1 hj.1).1 (fun e => by injection e with e; omega)).trans hj.1

set_option maxRecDepth 100000 in
set_option maxHeartbeats 1000000 in
theorem ask_any (w0 : World) (g s t : Nat) (own of : List Int) (ov fv : Value) (x : Int) (h0 : BitAt w0 g true) (hs : w0.heap[s]? = some (.cells #[ov] 25)) (ht : w0.heap[t]? = some (.cells #[fv] 25)) (hO : InAt w0 ov own) (hF : InAt w0 fv of) (hno : own.length ≤ 1000000) (hnf : of.length ≤ 1000000)
    (hx : own.contains x = true) (w : World) (hJ : AskJ w0 g w) :
    Calls Tryz.prog 17 (#[.int .i64 x] ++ #[.pointer (some ⟨g, 0, none⟩), .pointer (some ⟨s, 0, none⟩), .pointer (some ⟨t, 0, none⟩)]) w fun e w' => e = .returned (.bool (of.contains x)) ∧ AskJ w0 g w' ∧ w.grownBy w' (some g) := by
  have hOw : InAt w ov own := hO.bit h0 hJ.2
  have hFw : InAt w fv of := hF.bit h0 hJ.2
  obtain ⟨oa, oc, rfl, _, _, _⟩ := hO
  obtain ⟨fa, fc, rfl, _, _, _⟩ := hF
  have hsg : s ≠ g := by
    intro e; subst e; unfold BitAt at h0; rw [h0] at hs; simp at hs
  have htg : t ≠ g := by
    intro e; subst e; unfold BitAt at h0; rw [h0] at ht; simp at ht
  have hs1 := (hJ.2.block s (Array.getElem?_eq_some_iff.1 hs).1 (fun e => hsg (by injection e))).trans hs
  have ht1 := (hJ.2.block t (Array.getElem?_eq_some_iff.1 ht).1 (fun e => htg (by injection e))).trans ht
  obtain ⟨X, hX⟩ : ∃ X, w.setCell ⟨g, 0, none⟩ (.bool true) = X := ⟨_, rfl⟩
  have hgr : w.grownBy X (some g) := by
    rw [← hX]
    exact grown_set1 w g 0 _
  have hBX : BitAt X g true := by
    rw [← hX]
    have := hJ.1
    unfold BitAt at this ⊢
    simp [World.setCell, Array.getElem?_modify, this]
  have HA : Hid (Calls Tryz.prog 18 #[.slice oa own.length oc, .int .i64 x] w fun e w'' => e = .returned (.bool true) ∧ w'' = w) := by
    have := among_any own _ x w hOw hno
    rw [hx] at this; exact this
  have HFc : Hid (Calls Tryz.prog 18 #[.slice fa of.length fc, .int .i64 x] X fun e w'' => e = .returned (.bool (of.contains x)) ∧ w'' = X) := among_any of _ x X (hFw.bit hJ.1 hgr) hnf
  have HR : Hid (AskJ w0 g X ∧ w.grownBy X (some g)) := ⟨⟨hBX, grown_trans hJ.2 hgr⟩, hgr⟩
  have htX := (hgr.block t (Array.getElem?_eq_some_iff.1 ht1).1 (fun e => htg (by injection e))).trans ht1
  have c0 : w.cell? ⟨g, 0, none⟩ = some (.bool true) := by have := hJ.1; unfold BitAt at this; simp [World.cell?, this]
  have f0 : w.frozen? ⟨g, 0, none⟩ = false := by have := hJ.1; unfold BitAt at this; simp [World.frozen?, this]
  have c1 : w.cell? ⟨s, 0, none⟩ = some (.slice oa own.length oc) := by simp [World.cell?, hs1]
  have c2 : X.cell? ⟨t, 0, none⟩ = some (.slice fa of.length fc) := by simp [World.cell?, htX]
  generalize of.contains x = res at *
  clear hs ht hs1 ht1 htX hJ hOw hFw h0 hgr hBX hx
  go_enter Tryz.func17, Tryz.ntmps17
  go_wp2_with (first | (go_at_call 18; refine calls_at HA.out (by with_reducible rfl) (by with_reducible rfl) ?_; rintro e w3 ⟨rfl, hww⟩; rw [hww]) | (go_at_call 18; refine calls_at HFc.out (by with_reducible rfl) (by with_reducible rfl) ?_; rintro e w4 ⟨rfl, hww⟩; rw [hww]))
  go_ret
  exact ⟨rfl, HR.out⟩
end Go.Proofs.YtjffbndiecjkjaaGreatDoor
