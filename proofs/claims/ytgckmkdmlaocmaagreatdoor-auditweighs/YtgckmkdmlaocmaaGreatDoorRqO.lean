/-
  The document's reader: OPS.
-/
import Derived.Test.YtgckmkdmlaocmaaGreatDoorRqR
import Derived.Test.YtgckmkdmlaocmaaGreatDoorJ24
namespace Go.Proofs.YtgckmkdmlaocmaaGreatDoor
open Go.RowKit
open Bn (limbs)

def opR (A : List OpL) (s : RS) : List OpL × RS :=
  if (takeR s).1.1 = [43] then (A ++ [(3, [], 0)], (takeR s).2)
  else if (takeR s).1.1 = [115] then (A ++ [(6, [], 0)], (takeR s).2)
  else if 0 < litR (takeR s).1.1 ∧ isR [119] (takeR s).2 = true then (A ++ [(7, [], litR (takeR s).1.1)], oneR [119] (takeR s).2)
  else if litR (takeR s).1.1 ≠ 0 then (A ++ [(2, [], litR (takeR s).1.1)], (takeR s).2)
  else if (parseZ (takeR s).1.1).isSome = true ∧ ((parseZ (takeR s).1.1).getD 0).sign < 1 then (A, failR 81 (takeR s).2)
  else if (parseZ (takeR s).1.1).isSome = true ∧ isR [42] (takeR s).2 = true then (A ++ [(4, (takeR s).1.1, 0)], oneR [42] (takeR s).2)
  else if (parseZ (takeR s).1.1).isSome = true ∧ isR [100] (takeR s).2 = true then (A ++ [(5, (takeR s).1.1, 0)], oneR [100] (takeR s).2)
  else if (parseZ (takeR s).1.1).isSome = true then (A ++ [(1, (takeR s).1.1, 0)], (takeR s).2)
  else (A, failR 80 (takeR s).2)
def lopsR : Nat → List OpL → RS → List OpL × RS
  | 0, A, s => (A, s)
  | n + 1, A, s => if moreR s = true then lopsR n (opR A s).1 (opR A s).2 else (A, s)
def opsR (s : RS) : List OpL × RS := lopsR (s.1.length + 1) [] (if moreR s = true then s else failR 82 s)
theorem opR_len (A : List OpL) (s : RS) : (opR A s).1.length ≤ A.length + 1 ∧ (opR A s).2.1.length ≤ (takeR s).2.1.length := by
  have h1 : ∀ x, (oneR x (takeR s).2).1.length ≤ (takeR s).2.1.length := fun x => (oneR_len x _).1
  have h2 : ∀ e, (failR e (takeR s).2).1.length ≤ (takeR s).2.1.length := fun e => by rw [failR_len]; exact Nat.le_refl _
  unfold opR
  repeat' split
  all_goals first | exact ⟨by simp, Nat.le_refl _⟩ | exact ⟨by simp, h1 _⟩ | exact ⟨by simp, h2 _⟩
def QoM (g n0 : Nat) (A : List OpL) (s : RS) (all : List OpL × RS) : Prop := 1 ≤ g ∧ (s.2 = 0 → s.1.length + 1 ≤ g ∧ A.length + s.1.length ≤ n0) ∧ A.length ≤ n0 ∧ all = lopsR g A s
theorem qom_stop {g n0 : Nat} {A : List OpL} {s : RS} {all : List OpL × RS} (h : QoM g n0 A s all) (hs : moreR s = false) : all = (A, s) := by
  obtain ⟨h1, _, _, h2⟩ := h
  obtain ⟨g', rfl⟩ : ∃ g', g = g' + 1 := ⟨g - 1, by omega⟩
  rw [h2]
  unfold lopsR
  rw [if_neg (by rw [hs]; simp)]
theorem more_is {s : RS} (h : moreR s = true) : s.2 = 0 ∧ 0 < s.1.length := by
  unfold moreR at h
  simpa using h
theorem take_more {s : RS} (h : moreR s = true) : (takeR s).2.1.length + 1 = s.1.length ∧ (takeR s).2.2 = 0 ∧ (takeR s).1.2 = true := by
  obtain ⟨h1, h2⟩ := more_is h
  obtain ⟨L, f⟩ := s
  cases L with
  | nil => exact absurd h2 (by simp)
  | cons x L =>
    have h3 : f = 0 := h1
    subst h3
    exact ⟨rfl, rfl, rfl⟩
theorem qom_next {g n0 : Nat} {A : List OpL} {s : RS} {all : List OpL × RS} (h : QoM (g + 1) n0 A s all) (hs : moreR s = true) : QoM g n0 (opR A s).1 (opR A s).2 all := by
  obtain ⟨h1, h2, h3, h4⟩ := h
  obtain ⟨m1, m2⟩ := more_is hs
  have h5 := h2 m1
  have h6 := take_more hs
  have h7 := opR_len A s
  refine ⟨by omega, fun _ => by omega, by omega, ?_⟩
  rw [h4]
  conv => lhs; unfold lopsR
  rw [if_pos hs]
structure QoAt (G B b : Nat) (w0 w : World) (v : Value) (A : List OpL) (s : RS) : Prop where
  own : w.ownsRow w0.heap.size 109 3 v A.length (opsC A)
  ln : RrAt G w b s
  gs : G ≤ w0.heap.size
  bw : b < w0.heap.size
  bB : B ≤ b
  stp : SStp B (fun k => k = b) w0 w
theorem QoAt.call {G B b : Nat} {w0 w w' : World} {v : Value} {A : List OpL} {s s' : RS} (h : QoAt G B b w0 w v A s) (h1 : RrAt G w' b s') (h2 : SStp B (fun k => k = b) w w') : QoAt G B b w0 w' v A s' :=
  ⟨own_stp h.own h2 h.bw, h1, h.gs, h.bw, h.bB, h.stp.trans h2⟩
theorem QoAt.below {G B b : Nat} {w0 w w' : World} {v : Value} {A : List OpL} {s : RS} (h : QoAt G B b w0 w v A s) (hb : Below w.heap.size w w') : QoAt G B b w0 w' v A s :=
  ⟨own_below h.own hb, h.ln.below hb, h.gs, h.bw, h.bB, h.stp.next hb (Nat.le_trans h.bB (Nat.le_of_lt h.ln.lt))⟩
theorem opsC_one (A : List OpL) (o : OpL) : opsC (A ++ [o]) = opsC A ++ opC o := by simp [opsC]
theorem QoAt.app {G B b : Nat} {w0 w w6 : World} {v v6 : Value} {A : List OpL} {s : RS} {o : OpL} (h : QoAt G B b w0 w v A s) (h1 : w6.ownsRow w0.heap.size 109 3 v6 (A.length + 1) (opsC A ++ opC o)) (h2 : (w.alloc (.cells (opC o).toArray 109)).grownBy w6 v.ownBlock) : QoAt G B b w0 w6 v6 (A ++ [o]) s := by
  have hv : ∀ g, v.ownBlock = some g → w0.heap.size ≤ g := fun g hg => (h.own.lt g hg).1
  have hz := h.stp.off.size
  have hk : ∀ k, k < w0.heap.size → w6.heap[k]? = w.heap[k]? := fun k h4 => by
    rw [h2.block k (by simp; omega) (fun e => by have := hv k e.symm; omega), heap_alloc_old w _ k (by omega)]
  have hz6 : w.heap.size ≤ w6.heap.size := by have h5 := h2.size; simp at h5; omega
  refine ⟨by rw [List.length_append, opsC_one]; exact h1, h.ln.off (hk b h.bw) (fun k hk1 _ => hk k (by have := h.gs; omega)) hz6, h.gs, h.bw, h.bB, ?_, ⟨Nat.le_trans hz hz6, fun k h3 h4 => (hk k h3).trans (h.stp.off.block k h3 h4)⟩⟩
  have := h.bB
  have := h.bw
  exact h.stp.below.trans (((Below.refl B w).alloc (by omega) _).grown h2 (by simp; omega) (fun k hk => Nat.le_trans (by omega) (hv k hk)))
def QoOut (G B b : Nat) (w : World) (r : List OpL × RS) (e : Ending) (w' : World) : Prop := ∃ v, e = .returned v ∧ w'.ownsRow w.heap.size 109 3 v r.1.length (opsC r.1) ∧ RrAt G w' b r.2 ∧ SStp B (fun k => k = b) w w'

set_option maxRecDepth 10000 in
set_option maxHeartbeats 4000000 in
theorem rops_any {G B b : Nat} {s : RS} (w : World) (h : RrAt G w b s) (hB : B ≤ b) (hn : s.1.length ≤ 9000000) : Calls Tryz.prog 25 #[.pointer (some ⟨b, 0, none⟩)] w (QoOut G B b w (opsR s)) := by
  have hbl := h.lt
  have HMo : Hid (∀ w' s', RrAt G w' b s' → Calls Tryz.prog 27 #[.pointer (some ⟨b, 0, none⟩)] w' fun e w2 => e = .returned (.bool (moreR s')) ∧ w2 = w') := fun w' s' h' => rmore_any w' h'
  have HTk : Hid (∀ w' s', RrAt G w' b s' → Calls Tryz.prog 13 #[.pointer (some ⟨b, 0, none⟩)] w' (LR G B b (.tuple #[.string (txtOf (takeR s').1.1), .bool (takeR s').1.2]) (takeR s').2 w')) := fun w' s' h' => rtake_any w' h' hB
  have HLi : Hid (∀ (w' : World) (x : List UInt8), x.length ≤ 9000000 → Calls Tryz.prog 44 #[.string (txtOf x)] w' fun e w2 => e = .returned (.int .i64 (litR x)) ∧ Below w'.heap.size w' w2) := fun w' x hx => rlit_any x w' hx
  have HPa : Hid (∀ (w' : World) (x : List UInt8), x.length ≤ 9000000 → Calls Tryz.prog 45 #[.string (txtOf x)] w' fun e w2 => ∃ v, e = .returned (.tuple #[v, .bool (parseZ x).isSome]) ∧ RefAt w2 v ((parseZ x).getD 0) ∧ Below w'.heap.size w' w2) := fun w' x hx => rparse_txt x w' hx
  have HSg : Hid (∀ (z : Int) (v : Value) (w' : World), RefAt w' v z → Calls Tryz.prog 47 #[v] w' fun e w2 => e = .returned (.int .i64 z.sign) ∧ Below w'.heap.size w' w2) := fun z v w' h' => refSign_any z v w' h'
  have HIs : Hid (∀ y w' s', RrAt G w' b s' → Calls Tryz.prog 46 #[.pointer (some ⟨b, 0, none⟩), .string (txtOf y)] w' fun e w2 => e = .returned (.bool (isR y s')) ∧ w2 = w') := fun y w' s' h' => ris_any y w' h'
  have HOn : Hid (∀ y w' s', RrAt G w' b s' → Calls Tryz.prog 29 #[.pointer (some ⟨b, 0, none⟩), .string (txtOf y)] w' (LR G B b (.tuple #[]) (oneR y s') w')) := fun y w' s' h' => rone_any y w' h' hB
  have HFa : Hid (∀ (e : Int) w' s', RrAt G w' b s' → Calls Tryz.prog 22 #[.pointer (some ⟨b, 0, none⟩), .int .i64 e] w' (LR G B b (.tuple #[]) (failR e s') w')) := fun e w' s' h' => rfail_any e w' h' hB
  obtain ⟨s0, hs0⟩ : ∃ s0, (if moreR s = true then s else failR 82 s) = s0 := ⟨_, rfl⟩
  have hl0 : s0.1.length = s.1.length := by
    rw [← hs0]
    split
    · rfl
    · rw [failR_len]
  unfold opsR
  rw [hs0]
  obtain ⟨all, hall⟩ : ∃ a, lopsR (s.1.length + 1) [] s0 = a := ⟨_, rfl⟩
  rw [hall]
  have HM0 : Hid (QoM (s.1.length + 1) s.1.length [] s0 all) := ⟨by omega, fun _ => ⟨by omega, by simp; omega⟩, by simp, hall.symm⟩
  have HS0 : Hid ((if moreR s = true then s else failR 82 s) = s0) := hs0
  have HH : Hid (RrAt G w b s) := h
  have HQ0 : Hid (∀ w', RrAt G w' b s0 → SStp B (fun k => k = b) w w' → QoAt G B b w w' (.slice none 0 0) [] s0) := fun w' h1 h2 => ⟨World.ownsRow_nil _ _ _ _, h1, h.gs, hbl, hB, h2⟩
  obtain ⟨mr, hmr⟩ : ∃ m, moreR s = m := ⟨_, rfl⟩
  have HMr : Hid (moreR s = mr) := hmr
  clear h hall hs0 hl0 hmr
  go_enter Tryz.func25, Tryz.ntmps25
  go_wp2_with fail
  refine calls_at (HMo.out w s HH.out) (by with_reducible rfl) (by with_reducible rfl) ?_
  rintro e w1 ⟨rfl, hw1⟩
  rw [hw1, HMr.out]
  clear hw1
  go_upto_if 11 with fail
  go_cut [] from 12 to 13 (fun wx => Hid (QoAt G B b w wx (.slice none 0 0) [] s0))
  case first =>
    cases mr with
    | true =>
      have e0 := HS0.out
      rw [HMr.out, if_pos rfl] at e0
      subst e0
      go_wp2_with fail
      go_meet
      exact HQ0.out w HH.out (SStp.refl _ _ _)
    | false =>
      have e0 := HS0.out
      rw [HMr.out, if_neg (by simp)] at e0
      have HF := HFa.out 82 w s HH.out
      rw [e0] at HF
      have HF2 : Hid (Calls Tryz.prog 22 #[.pointer (some ⟨b, 0, none⟩), .int .i64 82] w (LR G B b (.tuple #[]) s0 w)) := HF
      clear HF e0
      go_wp2_with fail
      refine calls_at HF2.out (by with_reducible rfl) (by with_reducible rfl) ?_
      rintro e w2 ⟨rfl, q1, q2⟩
      have Q : Hid (QoAt G B b w w2 (.slice none 0 0) [] s0) := HQ0.out w2 q1 q2
      clear q1 q2
      go_wp2_with fail
      go_meet
      exact Q.out
  case rest =>
  have HC := hcut
  clear hcut HS0 HMr HQ0
  go_wp2_with fail
  go_loopg [3] (s.1.length + 1) (fun g v3 wr => ∃ (A : List OpL) (sc : RS), Hid (QoM g s.1.length A sc all) ∧ Hid (QoAt G B b w wr v3 A sc))
  case atStart => exact ⟨[], s0, HM0.out, HC.out⟩
  case round =>
    clear HC HM0 HH
    obtain ⟨A, sc, HM, HQ⟩ := hrel
    obtain ⟨va, vc, hvs⟩ := own_slice HQ.out.own
    subst hvs
    cases hm : moreR sc with
    | false =>
      have HRs : Hid (all = (A, sc)) := qom_stop HM.out hm
      have HM1 := HMo.out wr sc HQ.out.ln
      rw [hm] at HM1
      have HM2 : Hid (Calls Tryz.prog 27 #[.pointer (some ⟨b, 0, none⟩)] wr fun e w2 => e = .returned (.bool false) ∧ w2 = wr) := HM1
      clear HM1 hm
      go_wp2_with fail
      refine calls_at HM2.out (by with_reducible rfl) (by with_reducible rfl) ?_
      rintro e w1 ⟨rfl, hw1⟩
      rw [hw1]
      clear hw1
      go_wp2_with fail
      go_ret
      simp only [HRs.out]
      exact ⟨_, rfl, HQ.out.own, HQ.out.ln, HQ.out.stp⟩
    | true =>
      cases gk with
      | zero => exact absurd HM.out.1 (by omega)
      | succ g' =>
      have HMn : Hid (QoM g' s.1.length (opR A sc).1 (opR A sc).2 all) := qom_next HM.out hm
      have HM1 := HMo.out wr sc HQ.out.ln
      rw [hm] at HM1
      have HM2 : Hid (Calls Tryz.prog 27 #[.pointer (some ⟨b, 0, none⟩)] wr fun e w2 => e = .returned (.bool true) ∧ w2 = wr) := HM1
      have hal : A.length ≤ 9000000 := Nat.le_trans HM.out.2.2.1 hn
      have HT1 := HTk.out wr sc HQ.out.ln
      have hxl := takeR_len HQ.out.ln
      have hmx := (take_more hm).2.2
      unfold opR at HMn
      obtain ⟨r, hr⟩ : ∃ r, takeR sc = r := ⟨_, rfl⟩
      rw [hr] at HT1 hxl HMn hmx
      obtain ⟨⟨x, t⟩, s1⟩ := r
      simp only at HT1 hxl HMn hmx
      subst hmx
      have HT2 : Hid (Calls Tryz.prog 13 #[.pointer (some ⟨b, 0, none⟩)] wr (LR G B b (.tuple #[.string (txtOf x), .bool true]) s1 wr)) := HT1
      clear HM1 hm HM hr HT1
      go_wp2_with fail
      refine calls_at HM2.out (by with_reducible rfl) (by with_reducible rfl) ?_
      rintro e w1 ⟨rfl, hw1⟩
      rw [hw1]
      clear hw1 HM2
      go_wp2_with fail
      refine calls_at HT2.out (by with_reducible rfl) (by with_reducible rfl) ?_
      rintro e w2 ⟨rfl, q1, q2⟩
      have HQ2 : Hid (QoAt G B b w w2 (.slice va A.length vc) A s1) := HQ.out.call q1 q2
      clear q1 q2 HT2 HQ
      go_wp2_with fail
      refine calls_at (HLi.out w2 x hxl) (by with_reducible rfl) (by with_reducible rfl) ?_
      rintro e w3 ⟨rfl, hb3⟩
      have HQ3 : Hid (QoAt G B b w w3 (.slice va A.length vc) A s1) := HQ2.out.below hb3
      clear hb3 HQ2
      obtain ⟨l, hl⟩ : ∃ l, litR x = l := ⟨_, rfl⟩
      rw [hl] at HMn
      rw [hl]
      clear hl
      go_wp2_with fail
      refine calls_at (HPa.out w3 x hxl) (by with_reducible rfl) (by with_reducible rfl) ?_
      rintro e w4 ⟨v, rfl, hv, hb4⟩
      obtain ⟨o, ho⟩ : ∃ o, parseZ x = o := ⟨_, rfl⟩
      rw [ho] at HMn hv
      rw [ho]
      clear ho
      obtain ⟨z, hz⟩ : ∃ z, o.getD 0 = z := ⟨_, rfl⟩
      obtain ⟨k, hk⟩ : ∃ k, o.isSome = k := ⟨_, rfl⟩
      rw [hz, hk] at HMn
      rw [hz] at hv
      rw [hk]
      clear hz hk
      obtain ⟨sv, rfl, hsv⟩ := hv
      obtain ⟨ra, rc, rfl, _⟩ := hsv.form
      obtain ⟨NN, hNN⟩ : ∃ NN, (limbs z.natAbs).length = NN := ⟨_, rfl⟩
      obtain ⟨d, hd⟩ : ∃ d, decide (z < 0) = d := ⟨_, rfl⟩
      obtain ⟨V, hV⟩ : ∃ V, w4.alloc (.cells #[.bool d, .slice ra NN rc] 105) = V := ⟨_, rfl⟩
      have hbV : Below w4.heap.size w4 V := by rw [← hV]; exact (Below.refl _ _).alloc (Nat.le_refl _) _
      have gV : V.heap[w4.heap.size]? = some (.cells #[.bool d, .slice ra NN rc] 105 (0, 0)) := by rw [← hV]; exact heap_alloc_new w4 _
      have HR : Hid (RefAt V (.agg #[.bool d, .slice ra NN rc]) z) := by
        show RefAt V _ z
        rw [← hNN, ← hd]; exact ⟨_, rfl, hsv.below hbV⟩
      rw [hNN, hd]
      have HQ5 : Hid (QoAt G B b w V (.slice va A.length vc) A s1) := (HQ3.out.below hb4).below hbV
      have c0 : V.cell? ⟨w4.heap.size, 0, none⟩ = some (.bool d) := cell_of gV 0
      have c1 : V.cell? ⟨w4.heap.size, 1, none⟩ = some (.slice ra NN rc) := cell_of gV 1
      clear hsv hb4 hNN hd gV hbV HQ3
      have e43 := txt_eq x [43]
      have e115 := txt_eq x [115]
      have HSg1 : Hid (Calls Tryz.prog 47 #[.agg #[.bool d, .slice ra NN rc]] V fun e w2 => e = .returned (.int .i64 z.sign) ∧ Below V.heap.size V w2) := HSg.out z _ V HR.out
      have HI119 : Hid (Calls Tryz.prog 46 #[.pointer (some ⟨b, 0, none⟩), .string ⟨#[119]⟩] V fun e w2 => e = .returned (.bool (isR [119] s1)) ∧ w2 = V) := HIs.out [119] V s1 HQ5.out.ln
      clear HR
      by_cases h43 : x = [43]
      · rw [if_pos h43] at HMn
        rw [decide_eq_true h43] at e43
        clear h43 e115
        go_wp2_with (first | (at_builtin; refine append_els V (opC (3, [], 0)) 3 rfl (by decide) rfl (.tmp 33) (.tmp 35) 41 109 (.agg #[.int .i64 0, .string ⟨#[]⟩, .int .i64 0]) 32 rfl un38 inf84 rfl w.heap.size _ A.length _ (by rfl) HQ5.out.own (by intro u hu; simp [opC] at hu; rcases hu with rfl | rfl | rfl <;> rfl) V.heap.size rfl (by rfl) (by unfold maxLen; omega) (by omega) HQ5.out.stp.off.size ?_; intro v6 w6 o1 o2 _; have HN : Hid (QoAt G B b w w6 v6 (A ++ [(3, [], 0)]) s1) := HQ5.out.app o1 o2; obtain ⟨a6, c6, h6⟩ := own_slice o1; subst h6; clear o1 o2))
        go_roundg g'
        case measure => omega
        case rel => exact ⟨_, _, HMn.out, HN.out⟩
      rw [if_neg h43] at HMn
      rw [decide_eq_false h43] at e43
      by_cases h115 : x = [115]
      · rw [if_pos h115] at HMn
        rw [decide_eq_true h115] at e115
        clear h43 h115
        go_wp2_with (first | (at_builtin; refine append_els V (opC (6, [], 0)) 3 rfl (by decide) rfl (.tmp 40) (.tmp 42) 41 109 (.agg #[.int .i64 0, .string ⟨#[]⟩, .int .i64 0]) 32 rfl un38 inf84 rfl w.heap.size _ A.length _ (by rfl) HQ5.out.own (by intro u hu; simp [opC] at hu; rcases hu with rfl | rfl | rfl <;> rfl) V.heap.size rfl (by rfl) (by unfold maxLen; omega) (by omega) HQ5.out.stp.off.size ?_; intro v6 w6 o1 o2 _; have HN : Hid (QoAt G B b w w6 v6 (A ++ [(6, [], 0)]) s1) := HQ5.out.app o1 o2; obtain ⟨a6, c6, h6⟩ := own_slice o1; subst h6; clear o1 o2))
        go_roundg g'
        case measure => omega
        case rel => exact ⟨_, _, HMn.out, HN.out⟩
      rw [if_neg h115] at HMn
      rw [decide_eq_false h115] at e115
      clear h43 h115
      by_cases hl0 : 0 < l
      · obtain ⟨i1, hi1⟩ : ∃ i, isR [119] s1 = i := ⟨_, rfl⟩
        rw [hi1] at HI119 HMn
        clear hi1
        cases i1 with
        | true =>
          rw [if_pos ⟨hl0, rfl⟩] at HMn
          have HO1 : Hid (Calls Tryz.prog 29 #[.pointer (some ⟨b, 0, none⟩), .string ⟨#[119]⟩] V (LR G B b (.tuple #[]) (oneR [119] s1) V)) := HOn.out [119] V s1 HQ5.out.ln
          go_wp2_with fail
          refine calls_at HI119.out (by with_reducible rfl) (by with_reducible rfl) ?_
          rintro e w7 ⟨rfl, hw7⟩
          rw [hw7]
          clear hw7
          go_wp2_with fail
          refine calls_at HO1.out (by with_reducible rfl) (by with_reducible rfl) ?_
          rintro e w8 ⟨rfl, q1, q2⟩
          have HQ8 : Hid (QoAt G B b w w8 (.slice va A.length vc) A (oneR [119] s1)) := HQ5.out.call q1 q2
          clear q1 q2 c0 c1 HO1
          go_wp2_with (first | (at_builtin; refine append_els w8 (opC (7, [], l)) 3 rfl (by decide) rfl (.tmp 53) (.tmp 56) 41 109 (.agg #[.int .i64 0, .string ⟨#[]⟩, .int .i64 0]) 32 rfl un38 inf84 rfl w.heap.size _ A.length _ (by rfl) HQ8.out.own (by intro u hu; simp [opC] at hu; rcases hu with rfl | rfl | rfl <;> rfl) w8.heap.size rfl (by rfl) (by unfold maxLen; omega) (by omega) HQ8.out.stp.off.size ?_; intro v6 w6 o1 o2 _; have HN : Hid (QoAt G B b w w6 v6 (A ++ [(7, [], l)]) (oneR [119] s1)) := HQ8.out.app o1 o2; obtain ⟨a6, c6, h6⟩ := own_slice o1; subst h6; clear o1 o2))
          go_roundg g'
          case measure => omega
          case rel => exact ⟨_, _, HMn.out, HN.out⟩
        | false =>
          rw [if_neg (fun e => by cases e.2)] at HMn
          have hl1 : ¬ l = 0 := by omega
          rw [if_pos hl1] at HMn
          have hl2 : (l == 0) = false := by simpa using hl1
          clear hl1
          go_wp2_with fail
          refine calls_at HI119.out (by with_reducible rfl) (by with_reducible rfl) ?_
          rintro e w7 ⟨rfl, hw7⟩
          rw [hw7]
          clear hw7
          go_wp2_with (first | (at_builtin; refine append_els V (opC (2, [], l)) 3 rfl (by decide) rfl (.tmp 61) (.tmp 64) 41 109 (.agg #[.int .i64 0, .string ⟨#[]⟩, .int .i64 0]) 32 rfl un38 inf84 rfl w.heap.size _ A.length _ (by rfl) HQ5.out.own (by intro u hu; simp [opC] at hu; rcases hu with rfl | rfl | rfl <;> rfl) V.heap.size rfl (by rfl) (by unfold maxLen; omega) (by omega) HQ5.out.stp.off.size ?_; intro v6 w6 o1 o2 _; have HN : Hid (QoAt G B b w w6 v6 (A ++ [(2, [], l)]) s1) := HQ5.out.app o1 o2; obtain ⟨a6, c6, h6⟩ := own_slice o1; subst h6; clear o1 o2))
          go_roundg g'
          case measure => omega
          case rel => exact ⟨_, _, HMn.out, HN.out⟩
      rw [if_neg (fun e => hl0 e.1)] at HMn
      by_cases hl1 : l = 0
      · rw [if_neg (fun e => e hl1)] at HMn
        subst hl1
        cases k with
        | false =>
          rw [if_neg (fun e => by cases e.1), if_neg (fun e => by cases e.1), if_neg (fun e => by cases e.1), if_neg (fun e => by cases e)] at HMn
          have HF1 : Hid (Calls Tryz.prog 22 #[.pointer (some ⟨b, 0, none⟩), .int .i64 80] V (LR G B b (.tuple #[]) (failR 80 s1) V)) := HFa.out 80 V s1 HQ5.out.ln
          go_wp2_with fail
          refine calls_at HF1.out (by with_reducible rfl) (by with_reducible rfl) ?_
          rintro e w8 ⟨rfl, q1, q2⟩
          have HN : Hid (QoAt G B b w w8 (.slice va A.length vc) A (failR 80 s1)) := HQ5.out.call q1 q2
          clear q1 q2 c0 c1 HF1
          go_wp2_with fail
          go_roundg g'
          case measure => omega
          case rel => exact ⟨_, _, HMn.out, HN.out⟩
        | true =>
          obtain ⟨sz, hsz⟩ : ∃ q, z.sign = q := ⟨_, rfl⟩
          rw [hsz] at HMn HSg1
          clear hsz
          by_cases hs1 : sz < 1
          · rw [if_pos ⟨rfl, hs1⟩] at HMn
            go_wp2_with fail
            refine calls_at HSg1.out (by with_reducible rfl) (by with_reducible rfl) ?_
            rintro e w7 ⟨rfl, hb7⟩
            have HQ7 : Hid (QoAt G B b w w7 (.slice va A.length vc) A s1) := HQ5.out.below hb7
            have HF1 : Hid (Calls Tryz.prog 22 #[.pointer (some ⟨b, 0, none⟩), .int .i64 81] w7 (LR G B b (.tuple #[]) (failR 81 s1) w7)) := HFa.out 81 w7 s1 HQ7.out.ln
            clear hb7 c0 c1
            go_wp2_with fail
            refine calls_at HF1.out (by with_reducible rfl) (by with_reducible rfl) ?_
            rintro e w8 ⟨rfl, q1, q2⟩
            have HN : Hid (QoAt G B b w w8 (.slice va A.length vc) A (failR 81 s1)) := HQ7.out.call q1 q2
            clear q1 q2 HF1
            go_wp2_with fail
            go_roundg g'
            case measure => omega
            case rel => exact ⟨_, _, HMn.out, HN.out⟩
          rw [if_neg (fun e => hs1 e.2)] at HMn
          go_wp2_with fail
          refine calls_at HSg1.out (by with_reducible rfl) (by with_reducible rfl) ?_
          rintro e w7 ⟨rfl, hb7⟩
          have HQ7 : Hid (QoAt G B b w w7 (.slice va A.length vc) A s1) := HQ5.out.below hb7
          have HI42 : Hid (Calls Tryz.prog 46 #[.pointer (some ⟨b, 0, none⟩), .string ⟨#[42]⟩] w7 fun e w2 => e = .returned (.bool (isR [42] s1)) ∧ w2 = w7) := HIs.out [42] w7 s1 HQ7.out.ln
          have HI100 : Hid (Calls Tryz.prog 46 #[.pointer (some ⟨b, 0, none⟩), .string ⟨#[100]⟩] w7 fun e w2 => e = .returned (.bool (isR [100] s1)) ∧ w2 = w7) := HIs.out [100] w7 s1 HQ7.out.ln
          clear hb7 c0 c1
          obtain ⟨i2, hi2⟩ : ∃ i, isR [42] s1 = i := ⟨_, rfl⟩
          rw [hi2] at HI42 HMn
          clear hi2
          go_wp2_with fail
          refine calls_at HI42.out (by with_reducible rfl) (by with_reducible rfl) ?_
          rintro e w9 ⟨rfl, hw9⟩
          rw [hw9]
          clear hw9
          cases i2 with
          | true =>
            rw [if_pos (by simp)] at HMn
            have HO1 : Hid (Calls Tryz.prog 29 #[.pointer (some ⟨b, 0, none⟩), .string ⟨#[42]⟩] w7 (LR G B b (.tuple #[]) (oneR [42] s1) w7)) := HOn.out [42] w7 s1 HQ7.out.ln
            go_wp2_with fail
            refine calls_at HO1.out (by with_reducible rfl) (by with_reducible rfl) ?_
            rintro e w8 ⟨rfl, q1, q2⟩
            have HQ8 : Hid (QoAt G B b w w8 (.slice va A.length vc) A (oneR [42] s1)) := HQ7.out.call q1 q2
            clear q1 q2 HO1
            go_wp2_with (first | (at_builtin; refine append_els w8 (opC (4, x, 0)) 3 rfl (by decide) rfl (.tmp 83) (.tmp 86) 41 109 (.agg #[.int .i64 0, .string ⟨#[]⟩, .int .i64 0]) 32 rfl un38 inf84 rfl w.heap.size _ A.length _ (by rfl) HQ8.out.own (by intro u hu; simp [opC] at hu; rcases hu with rfl | rfl | rfl <;> rfl) w8.heap.size rfl (by rfl) (by unfold maxLen; omega) (by omega) HQ8.out.stp.off.size ?_; intro v6 w6 o1 o2 _; have HN : Hid (QoAt G B b w w6 v6 (A ++ [(4, x, 0)]) (oneR [42] s1)) := HQ8.out.app o1 o2; obtain ⟨a6, c6, h6⟩ := own_slice o1; subst h6; clear o1 o2))
            go_roundg g'
            case measure => omega
            case rel => exact ⟨_, _, HMn.out, HN.out⟩
          | false =>
            rw [if_neg (fun e => by cases e.2)] at HMn
            obtain ⟨i3, hi3⟩ : ∃ i, isR [100] s1 = i := ⟨_, rfl⟩
            rw [hi3] at HI100 HMn
            clear hi3
            go_wp2_with fail
            refine calls_at HI100.out (by with_reducible rfl) (by with_reducible rfl) ?_
            rintro e w9 ⟨rfl, hw9⟩
            rw [hw9]
            clear hw9
            cases i3 with
            | true =>
              rw [if_pos (by simp)] at HMn
              have HO1 : Hid (Calls Tryz.prog 29 #[.pointer (some ⟨b, 0, none⟩), .string ⟨#[100]⟩] w7 (LR G B b (.tuple #[]) (oneR [100] s1) w7)) := HOn.out [100] w7 s1 HQ7.out.ln
              go_wp2_with fail
              refine calls_at HO1.out (by with_reducible rfl) (by with_reducible rfl) ?_
              rintro e w8 ⟨rfl, q1, q2⟩
              have HQ8 : Hid (QoAt G B b w w8 (.slice va A.length vc) A (oneR [100] s1)) := HQ7.out.call q1 q2
              clear q1 q2 HO1
              go_wp2_with (first | (at_builtin; refine append_els w8 (opC (5, x, 0)) 3 rfl (by decide) rfl (.tmp 96) (.tmp 99) 41 109 (.agg #[.int .i64 0, .string ⟨#[]⟩, .int .i64 0]) 32 rfl un38 inf84 rfl w.heap.size _ A.length _ (by rfl) HQ8.out.own (by intro u hu; simp [opC] at hu; rcases hu with rfl | rfl | rfl <;> rfl) w8.heap.size rfl (by rfl) (by unfold maxLen; omega) (by omega) HQ8.out.stp.off.size ?_; intro v6 w6 o1 o2 _; have HN : Hid (QoAt G B b w w6 v6 (A ++ [(5, x, 0)]) (oneR [100] s1)) := HQ8.out.app o1 o2; obtain ⟨a6, c6, h6⟩ := own_slice o1; subst h6; clear o1 o2))
              go_roundg g'
              case measure => omega
              case rel => exact ⟨_, _, HMn.out, HN.out⟩
            | false =>
              rw [if_neg (fun e => by cases e.2), if_pos (by simp)] at HMn
              go_wp2_with (first | (at_builtin; refine append_els w7 (opC (1, x, 0)) 3 rfl (by decide) rfl (.tmp 103) (.tmp 106) 41 109 (.agg #[.int .i64 0, .string ⟨#[]⟩, .int .i64 0]) 32 rfl un38 inf84 rfl w.heap.size _ A.length _ (by rfl) HQ7.out.own (by intro u hu; simp [opC] at hu; rcases hu with rfl | rfl | rfl <;> rfl) w7.heap.size rfl (by rfl) (by unfold maxLen; omega) (by omega) HQ7.out.stp.off.size ?_; intro v6 w6 o1 o2 _; have HN : Hid (QoAt G B b w w6 v6 (A ++ [(1, x, 0)]) s1) := HQ7.out.app o1 o2; obtain ⟨a6, c6, h6⟩ := own_slice o1; subst h6; clear o1 o2))
              go_roundg g'
              case measure => omega
              case rel => exact ⟨_, _, HMn.out, HN.out⟩
      · rw [if_pos hl1] at HMn
        have hl2 : (l == 0) = false := by simpa using hl1
        have hl3 : ¬ 0 < l := hl0
        clear hl1 hl0
        go_wp2_with (first | (at_builtin; refine append_els V (opC (2, [], l)) 3 rfl (by decide) rfl (.tmp 61) (.tmp 64) 41 109 (.agg #[.int .i64 0, .string ⟨#[]⟩, .int .i64 0]) 32 rfl un38 inf84 rfl w.heap.size _ A.length _ (by rfl) HQ5.out.own (by intro u hu; simp [opC] at hu; rcases hu with rfl | rfl | rfl <;> rfl) V.heap.size rfl (by rfl) (by unfold maxLen; omega) (by omega) HQ5.out.stp.off.size ?_; intro v6 w6 o1 o2 _; have HN : Hid (QoAt G B b w w6 v6 (A ++ [(2, [], l)]) s1) := HQ5.out.app o1 o2; obtain ⟨a6, c6, h6⟩ := own_slice o1; subst h6; clear o1 o2))
        go_roundg g'
        case measure => omega
        case rel => exact ⟨_, _, HMn.out, HN.out⟩
end Go.Proofs.YtgckmkdmlaocmaaGreatDoor
