/-
  Put together: PbKnM, MdRegV, PbKnown.
-/
import Derived.Test.YtjffbndiecjkjaaGreatDoorPbAdds
import Derived.Test.YtjffbndiecjkjaaGreatDoorPbEaches
import Derived.Test.YtjffbndiecjkjaaGreatDoorPbNegate
import Derived.Test.YtjffbndiecjkjaaGreatDoorPbSames
namespace Go.Proofs.YtjffbndiecjkjaaGreatDoor
open Go.Shelf Go.RowKit Go.Lib Go.Sort
open Bn (limbs)

theorem net_two (a b : Int) (v : Nat) : Pm.net [(a, 1), (b, 2)] v = (if v = 1 then a else 0) + (if v = 2 then b else 0) := by
  simp only [Pm.net, Pm.netP]
  by_cases h1 : v = 1
  · subst h1; simp
  · by_cases h2 : v = 2
    · subst h2; simp
    · rw [if_neg (by simp; omega), if_neg (by simp; omega), if_neg h1, if_neg h2]; simp
def k1L : List (ByteArray × Int) := [(⟨#[50]⟩, 1), (⟨#[45, 51]⟩, 2), (⟨#[49]⟩, -1)]
theorem k1_ps : ofPs k1L = [(2, 1), (-3, 2), (1, -1)] := by kernel_rfl
theorem k1_err : ofErr k1L ⟨#[48]⟩ = 0 := by kernel_rfl
theorem k1_d : (parseZ (⟨#[48]⟩ : ByteArray).data.toList).getD 0 = 0 := by kernel_rfl
theorem k1_form : Pm.IsForm [(2, 1), (-3, 2), (1, -1)] 0 [(1, 1), (3, -2)] 2 := by
  refine ⟨⟨by decide, trivial⟩, fun p hp => ?_, fun v => ?_, by decide⟩
  · simp at hp; rcases hp with rfl | rfl <;> decide
  · simp only [Pm.net, Pm.netP]
    by_cases h1 : v = 1
    · subst h1; decide
    · by_cases h2 : v = 2
      · subst h2; decide
      · rw [if_neg (by simp; omega), if_neg (by simp; omega), if_neg (by simp; omega), if_neg (by simp; omega), if_neg (by simp; omega)]; rfl
def k2L : List (ByteArray × Int) := [(⟨#[51]⟩, 1), (⟨#[50]⟩, 2)]
theorem k2_ps : ofPs k2L = [(3, 1), (2, 2)] := by kernel_rfl
theorem k2_err : ofErr k2L ⟨#[52]⟩ = 0 := by kernel_rfl
theorem k2_d : (parseZ (⟨#[52]⟩ : ByteArray).data.toList).getD 0 = 4 := by kernel_rfl
theorem k2_form : Pm.IsForm [(3, 1), (2, 2)] 4 [(3, 1), (2, 2)] 4 := by
  refine ⟨⟨by decide, trivial⟩, fun p hp => ?_, fun v => rfl, by decide⟩
  simp at hp; rcases hp with rfl | rfl <;> decide
theorem ka_form : Pm.IsForm (clPs [1, 2]) 1 [(1, 1), (1, 2)] 1 := by
  refine ⟨⟨by decide, trivial⟩, fun p hp => ?_, fun v => rfl, by decide⟩
  simp at hp; rcases hp with rfl | rfl <;> decide
theorem kb_form : Pm.IsForm (clPs [-1, 2]) 1 [(1, -1), (1, 2)] 1 := by
  refine ⟨⟨by decide, trivial⟩, fun p hp => ?_, fun v => rfl, by decide⟩
  simp at hp; rcases hp with rfl | rfl <;> decide
theorem kc_form : Pm.IsForm ([(1, 1), (1, 2)] ++ [(1, -1), (1, 2)]) (1 + 1) [(2, 2)] 1 := by
  refine ⟨trivial, fun p hp => ?_, fun v => ?_, by decide⟩
  · simp at hp; rcases hp with rfl; decide
  · simp only [List.cons_append, List.nil_append, Pm.net, Pm.netP]
    by_cases h1 : v = 1
    · subst h1; decide
    · by_cases h2 : v = 2
      · subst h2; decide
      · rw [if_neg (by simp; omega), if_neg (by simp; omega), if_neg (by simp; omega), if_neg (by simp; omega)]; rfl
theorem k_txt1 : txt 1 = ⟨#[49]⟩ := by kernel_rfl
theorem k_txt2 : txt 2 = ⟨#[50]⟩ := by kernel_rfl
theorem k_txt3 : txt 3 = ⟨#[51]⟩ := by kernel_rfl
theorem k_div : Pm.chg (fun z => divUpI z 2) [(3, 1), (2, 2)] = [(2, 1), (1, 2)] ∧ divUpI 4 2 = 2 := ⟨by kernel_rfl, by kernel_rfl⟩
theorem k_sat : satK [(2, 2)] 1 = [(1, 2)] := by kernel_rfl

/-- A box with a row as it is told. -/
def BoxAp (w : World) (B : Nat) (u : Value) (s : ByteArray) (ls : List (ByteArray × Int)) : Prop := w.heap[B]? = some (.cells #[u, .string s] 24) ∧ ApAt w u ls
theorem BoxAp.below {w w' : World} {B : Nat} {u : Value} {s : ByteArray} {ls : List (ByteArray × Int)} (h : BoxAp w B u s ls) (hb : RowKit.Below w.heap.size w w') : BoxAp w' B u s ls := ⟨(hb.block _ (Array.getElem?_eq_some_iff.1 h.1).1).trans h.1, h.2.below hb⟩
/-- A box with a row. -/
def BoxPb (w : World) (B : Nat) (v : Value) (K : List (Int × Int)) (D : Int) : Prop := ∃ a c n q, v = .agg #[.slice a K.length c, .int .i64 n, .pointer q] ∧ w.heap[B]? = some (.cells #[.slice a K.length c, .int .i64 n, .pointer q] 35) ∧ PbAt w v K D
theorem BoxPb.below {w w' : World} {B : Nat} {v : Value} {K : List (Int × Int)} {D : Int} (h : BoxPb w B v K D) (hb : RowKit.Below w.heap.size w w') : BoxPb w' B v K D := by
  obtain ⟨a, c, n, q, h1, h2, h3⟩ := h
  exact ⟨a, c, n, q, h1, (hb.block _ (Array.getElem?_eq_some_iff.1 h2).1).trans h2, h3.below hb⟩
theorem lit_small (l : Int) (h : l ≠ 0) (h1 : -10 ≤ l) (h2 : l ≤ 10) : IsLit l := ⟨h, by omega, by omega⟩
theorem limbs_of (n : Nat) (h : n ≤ 1000) : (limbs n).length ≤ 900000 := limbs_small (by omega)

set_option maxRecDepth 100000 in
set_option maxHeartbeats 600000 in
theorem num_any (c : Int) (w : World) : Calls Tryz.prog 11 #[.int .i64 c] w fun e w' => e = .returned (.int .i64 c) ∧ w' = w := by
  go_enter Tryz.func11, Tryz.ntmps11
  go_wp2
  go_ret
  exact ⟨rfl, rfl⟩

/-- Of, Clause on the chapter's examples. -/
theorem k1_of (v : Value) (w : World) (h : ApAt w v k1L) : Calls Tryz.prog 10 #[.agg #[v, .string ⟨#[48]⟩]] w fun e w' => ∃ r, e = .returned (.tuple #[r, .int .i64 0]) ∧ PbAt w' r [(1, 1), (3, -2)] 2 ∧ RowKit.Below w.heap.size w w' := by
  refine (of_row k1L v ⟨#[48]⟩ w h (by decide) (fun p hp => by simp [k1L] at hp; rcases hp with rfl | rfl | rfl <;> decide) (by decide) (by rw [k1_ps]; exact limbs_of _ (by decide)) (by rw [k1_d]; exact limbs_of _ (by decide))).mono ?_
  rintro e w' ⟨r, K, D, rfl, hpb, _, _, hb, hf, _⟩
  have h1 := hf k1_err
  rw [k1_ps, k1_d] at h1
  obtain ⟨rfl, rfl⟩ := h1.one k1_form
  exact ⟨r, by rw [k1_err], hpb, hb⟩
theorem k2_of (v : Value) (w : World) (h : ApAt w v k2L) : Calls Tryz.prog 10 #[.agg #[v, .string ⟨#[52]⟩]] w fun e w' => ∃ r, e = .returned (.tuple #[r, .int .i64 0]) ∧ PbAt w' r [(3, 1), (2, 2)] 4 ∧ RowKit.Below w.heap.size w w' := by
  refine (of_row k2L v ⟨#[52]⟩ w h (by decide) (fun p hp => by simp [k2L] at hp; rcases hp with rfl | rfl <;> decide) (by decide) (by rw [k2_ps]; exact limbs_of _ (by decide)) (by rw [k2_d]; exact limbs_of _ (by decide))).mono ?_
  rintro e w' ⟨r, K, D, rfl, hpb, _, _, hb, hf, _⟩
  have h1 := hf k2_err
  rw [k2_ps, k2_d] at h1
  obtain ⟨rfl, rfl⟩ := h1.one k2_form
  exact ⟨r, by rw [k2_err], hpb, hb⟩
theorem ka_of (v : Value) (w : World) (h : InAt w v [1, 2]) : Calls Tryz.prog 32 #[v] w fun e w' => ∃ r, e = .returned (.tuple #[r, .int .i64 0]) ∧ PbAt w' r [(1, 1), (1, 2)] 1 ∧ RowKit.Below w.heap.size w w' := by
  refine (clause_any [1, 2] v w h (by decide)).mono ?_
  rintro e w' ⟨r, K, D, c, rfl, hpb, _, _, hb, hf, _⟩
  obtain ⟨rfl, h1⟩ := hf (fun x hx => by simp at hx; rcases hx with rfl | rfl <;> decide)
  obtain ⟨rfl, rfl⟩ := h1.one ka_form
  exact ⟨r, rfl, hpb, hb⟩
theorem kb_of (v : Value) (w : World) (h : InAt w v [-1, 2]) : Calls Tryz.prog 32 #[v] w fun e w' => ∃ r, e = .returned (.tuple #[r, .int .i64 0]) ∧ PbAt w' r [(1, -1), (1, 2)] 1 ∧ RowKit.Below w.heap.size w w' := by
  refine (clause_any [-1, 2] v w h (by decide)).mono ?_
  rintro e w' ⟨r, K, D, c, rfl, hpb, _, _, hb, hf, _⟩
  obtain ⟨rfl, h1⟩ := hf (fun x hx => by simp at hx; rcases hx with rfl | rfl <;> decide)
  obtain ⟨rfl, rfl⟩ := h1.one kb_form
  exact ⟨r, rfl, hpb, hb⟩
theorem kc_of (u v : Value) (w : World) (hu : PbAt w u [(1, 1), (1, 2)] 1) (hv : PbAt w v [(1, -1), (1, 2)] 1) : Calls Tryz.prog 21 #[u, v] w fun e w' => ∃ r, e = .returned r ∧ PbAt w' r [(2, 2)] 1 ∧ RowKit.Below w.heap.size w w' := by
  refine (add_any u v _ _ 1 1 w hu hv ⟨by decide, trivial⟩ ⟨by decide, trivial⟩ (fun p hp => by simp at hp; rcases hp with rfl | rfl <;> decide) (fun p hp => by simp at hp; rcases hp with rfl | rfl <;> decide) (by decide) (by decide) (limbs_of _ (by decide)) (limbs_of _ (by decide)) (limbs_of _ (by decide)) (limbs_of _ (by decide))).mono ?_
  rintro e w' ⟨r, K, D, rfl, hf, hpb, _, _, hb⟩
  obtain ⟨rfl, rfl⟩ := hf.one kc_form
  exact ⟨r, rfl, hpb, hb⟩
theorem kd_of (v : Value) (w : World) (h : PbAt w v [(2, 2)] 1) : Calls Tryz.prog 25 #[v] w fun e w' => ∃ r, e = .returned r ∧ PbAt w' r [(1, 2)] 1 ∧ RowKit.Below w.heap.size w w' := by
  refine (saturate_any v _ 1 w h (by decide) (fun p hp => by simp at hp; rcases hp with rfl; exact Nat.le_trans (limbs_of _ (by decide)) (by decide)) (Nat.le_trans (limbs_of _ (by decide)) (by decide))).mono ?_
  rintro e w' ⟨r, rfl, hpb, hb⟩
  rw [k_sat] at hpb
  exact ⟨r, rfl, hpb, hb⟩
theorem ke_of (v : Value) (w : World) (h : PbAt w v [(3, 1), (2, 2)] 4) : Calls Tryz.prog 24 #[v, .agg #[.int .i64 2, .pointer none]] w fun e w' => ∃ r, e = .returned (.tuple #[r, .int .i64 0]) ∧ PbAt w' r [(2, 1), (1, 2)] 2 ∧ RowKit.Below w.heap.size w w' := by
  refine (div_any v _ 4 _ 2 w h (.inl ⟨by unfold Fits; omega, rfl⟩) (by decide) (fun p hp => by simp at hp; rcases hp with rfl | rfl <;> exact Nat.le_trans (limbs_of _ (by decide)) (by decide)) (Nat.le_trans (limbs_of _ (by decide)) (by decide))).mono ?_
  rintro e w' ⟨r, K', D', c, rfl, hpb, hb, h1, _⟩
  obtain ⟨rfl, rfl, rfl⟩ := h1 (by decide)
  rw [k_div.1] at hpb
  have h2 : PbAt w' r [(2, 1), (1, 2)] (divUpI 4 2) := hpb
  rw [k_div.2] at h2
  exact ⟨r, rfl, h2, hb⟩
theorem kn_of (v : Value) (w : World) (h : PbAt w v [] 0) : Calls Tryz.prog 26 #[v] w fun e w' => ∃ r, e = .returned r ∧ PbAt w' r [] 1 ∧ RowKit.Below w.heap.size w w' :=
  (negate_any v [] 0 w h (fun _ h => by cases h) (by decide) (limbs_of _ (by decide)) (limbs_of _ (by decide)) (Nat.le_trans (limbs_of _ (by decide)) (by decide)))
theorem kp_of (v : Value) (K : List (Int × Int)) (D : Int) (w : World) (h : PbAt w v K D) (hn : K.length ≤ 10) (hk : ∀ p ∈ K, p.1.natAbs ≤ 10) (hd : D.natAbs ≤ 10) (ht : Tab w) : Calls Tryz.prog 13 #[v] w fun e w' => ∃ u, e = .returned (.agg #[u, .string (txt D)]) ∧ ApAt w' u (tells K) ∧ RowKit.Below w.heap.size w w' :=
  plain_any v K D w h (by omega) (fun p hp => Nat.le_trans (limbs_of _ (by have := hk p hp; omega)) (by decide)) (Nat.le_trans (limbs_of _ (by omega)) (by decide)) ht
theorem kz_of (v : Value) (D : Int) (w : World) (h : PbAt w v [] D) : Calls Tryz.prog 27 #[v] w fun e w' => e = .returned (.bool (decide (0 < D))) ∧ RowKit.Below w.heap.size w w' := contra_any v [] D w h (by decide) (limbs_of _ (by decide))
end Go.Proofs.YtjffbndiecjkjaaGreatDoor

namespace Go.Proofs.YtjffbndiecjkjaaGreatDoor

theorem wpAnyT_two {P : Program} {ops : Array Oper} {Q : Exit → Act → World → Prop} {md : Region.Mode} {S C : World → Prop} {st : List Nat} {i j : Nat} {o o' : Oper} {fuel : Nat} {listed : Array Bool} {a : Act} {w : World} (hr : Region.ready md ops listed = [i, j]) (ho : ops[i]? = some o) (ho' : ops[j]? = some o')
    (h : ∀ K' : Act → World → Prop, Shut (∀ a w, HT S C st (listed.setIfInBounds i true) w → wpAnyT P md ops Q S C st fuel (listed.setIfInBounds i true) a w → K' a w) → if Region.wanted o (yielded ops a.tmps) = true then Oper.wp P o a w K' Q else K' (a.put o.dst undef) w)
    (h' : ∀ K' : Act → World → Prop, Shut (∀ a w, HT S C st (listed.setIfInBounds j true) w → wpAnyT P md ops Q S C st fuel (listed.setIfInBounds j true) a w → K' a w) → if Region.wanted o' (yielded ops a.tmps) = true then Oper.wp P o' a w K' Q else K' (a.put o'.dst undef) w) : wpAnyT P md ops Q S C st (fuel + 1) listed a w := by
  refine ⟨fun h0 => (by rw [h0] at hr; cases hr), fun k hk => ?_⟩
  rw [hr] at hk
  rcases List.mem_cons.1 hk with rfl | hk
  · exact wpOp_step ho fun K' hK => h K' fun a w h1 h2 => hK a w ⟨h1, h2⟩
  · rw [List.mem_singleton] at hk
    subst hk
    exact wpOp_step ho' fun K' hK => h' K' fun a w h1 h2 => hK a w ⟨h1, h2⟩
end Go.Proofs.YtjffbndiecjkjaaGreatDoor

namespace Go.Proofs.YtjffbndiecjkjaaGreatDoor
open Go.Shelf Go.RowKit Go.Lib Go.Sort
open Bn (limbs)

theorem ap_of2 {w : World} {b : Nat} {s0 s1 : ByteArray} {l0 l1 : Int} (h : w.heap[b]? = some (.cells #[.string s0, .int .i64 l0, .string s1, .int .i64 l1] 45)) : ApAt w (.slice (some ⟨b, 0, none⟩) 2 2) [(s0, l0), (s1, l1)] := by
  refine ⟨_, 2, rfl, Nat.le_refl _, by unfold maxLen; omega, fun k hk => ⟨b, 0, rfl, (Array.getElem?_eq_some_iff.1 h).1, ?_⟩⟩
  match k, hk with
  | 0, _ => exact ⟨by simp [World.cell?, h], by simp [World.cell?, h]⟩
  | 1, _ => exact ⟨by simp [World.cell?, h], by simp [World.cell?, h]⟩
  | k + 2, hk => simp at hk; omega
theorem ap_of3 {w : World} {b : Nat} {s0 s1 s2 : ByteArray} {l0 l1 l2 : Int} (h : w.heap[b]? = some (.cells #[.string s0, .int .i64 l0, .string s1, .int .i64 l1, .string s2, .int .i64 l2] 45)) : ApAt w (.slice (some ⟨b, 0, none⟩) 3 3) [(s0, l0), (s1, l1), (s2, l2)] := by
  refine ⟨_, 3, rfl, Nat.le_refl _, by unfold maxLen; omega, fun k hk => ⟨b, 0, rfl, (Array.getElem?_eq_some_iff.1 h).1, ?_⟩⟩
  match k, hk with
  | 0, _ => exact ⟨by simp [World.cell?, h], by simp [World.cell?, h]⟩
  | 1, _ => exact ⟨by simp [World.cell?, h], by simp [World.cell?, h]⟩
  | 2, _ => exact ⟨by simp [World.cell?, h], by simp [World.cell?, h]⟩
  | k + 3, hk => simp at hk; omega
theorem in_of2 {w : World} {b : Nat} {l0 l1 : Int} (h : w.heap[b]? = some (.cells #[.int .i64 l0, .int .i64 l1] 3)) : InAt w (.slice (some ⟨b, 0, none⟩) 2 2) [l0, l1] := by
  refine ⟨_, 2, rfl, Nat.le_refl _, by unfold maxLen; omega, fun k hk => ⟨b, 0, rfl, (Array.getElem?_eq_some_iff.1 h).1, ?_⟩⟩
  match k, hk with
  | 0, _ => simp [World.cell?, h]
  | 1, _ => simp [World.cell?, h]
  | k + 2, hk => simp at hk; omega
theorem ap_eql (s1 s2 : ByteArray) (l1 l2 : Int) (w : World) : (binOp .eql 45 (.agg #[.string s1, .int .i64 l1]) (.agg #[.string s2, .int .i64 l2])).run Tryz.prog w = .ok (.bool (s1.toList == s2.toList && l1 == l2)) w := by
  rw [run_eql_struct, run_equalIn_struct (d := 9999) (ht := by kernel_rfl) (hp := by kernel_rfl)]
  have hf := ap_fields
  generalize (Tryz.prog.fieldsOf 45).toList = l at *
  simp only [List.map_eq_cons_iff, List.map_eq_nil_iff, Prod.mk.injEq] at hf
  obtain ⟨f1, l1', rfl, ⟨n1, t1, o1⟩, f2, l2', rfl, ⟨n2, t2, o2⟩, rfl⟩ := hf
  have pa := ap_part (.string s1) (.int .i64 l1) w
  have pb := ap_part (.string s2) (.int .i64 l2) w
  have eq := fun a b => run_equalIn_int (P := Tryz.prog) w 9998 3 .i64 .i64 a b Tryz.underlying3
  have eqs := fun a b => run_equalIn_string (P := Tryz.prog) w 9998 9 a b Tryz.underlying9
  simp only [Op.eqFields, n1, n2, t1, t2, o1, o2, Sem.run_bind, pa, pb, eq, eqs, Result.andThen_ok, Sem.run_ite, Sem.run_pure]
  cases s1.toList == s2.toList <;> cases l1 == l2 <;> simp [Result.andThen]

set_option maxRecDepth 100000 in
set_option maxHeartbeats 4000000 in
theorem known_any (w : World) (ht : Tab w) : Calls Tryz.prog 7 #[] w fun e w' => e = .returned (.bool true) ∧ RowKit.Below w.heap.size w w' := by
  have HT : Hid (Tab w) := ht
  clear ht
  go_enter Tryz.func7, Tryz.ntmps7
  go_wp2_with fail
  obtain ⟨V1, hV1⟩ : ∃ V, w.alloc (.cells #[.string ⟨#[50]⟩, .int .i64 1, .string ⟨#[45, 51]⟩, .int .i64 2, .string ⟨#[49]⟩, .int .i64 (-1)] 45) = V := ⟨_, rfl⟩
  obtain ⟨hO1, hb1⟩ := new_obj w _ hV1
  rw [hV1]
  refine (k1_of _ V1 (ap_of3 hO1)).mono ?_
  rintro e w1 ⟨r, rfl, hp1, hb2⟩
  have HB : Hid (RowKit.Below w.heap.size w w1) := hb1.trans (hb2.mono hb1.size)
  have hp1' := hp1
  obtain ⟨a1, c1, n1, q1, rfl, _, _⟩ := hp1'
  clear hV1 hO1 hb1 hb2
  obtain ⟨V2, hV2⟩ : ∃ V, w1.alloc (.cells #[.slice a1 2 c1, .int .i64 n1, .pointer q1] 35) = V := ⟨_, rfl⟩
  obtain ⟨hO2, hb2⟩ := new_obj w1 _ hV2
  have HB : Hid (RowKit.Below w.heap.size w V2) := HB.out.trans (hb2.mono HB.out.size)
  have HP1 : Hid (PbAt V2 (.agg #[.slice a1 2 c1, .int .i64 n1, .pointer q1]) [(1, 1), (3, -2)] 2) := hp1.below hb2
  obtain ⟨k0, k1, k2, _, _, _⟩ := box3_facts hO2
  clear hO2 hb2 hp1
  simp only [List.length_cons, List.length_nil]
  go_wp2_with fail
  refine (kp_of _ _ _ V2 HP1.out (by decide) (fun p hp => by simp at hp; rcases hp with rfl | rfl <;> decide) (by decide) (HT.out.under HB.out)).mono ?_
  rintro e w2 ⟨u2, rfl, hA2, hb3⟩
  rw [k_txt2]
  have HB : Hid (RowKit.Below w.heap.size w w2) := HB.out.trans (hb3.mono HB.out.size)
  obtain ⟨a2, c2, rfl, _, _, hcell⟩ := hA2
  obtain ⟨b2, o2, rfl, hl2, g0, g1⟩ := hcell 0 (by decide)
  obtain ⟨_, _, e2, _, g2, g3⟩ := hcell 1 (by decide)
  injection e2 with e2
  injection e2 with e3 e4 _
  subst e3
  subst e4
  obtain ⟨V3, hV3⟩ : ∃ V, w2.alloc (.cells #[.slice (some ⟨b2, o2, none⟩) 2 c2, .string ⟨#[50]⟩] 24) = V := ⟨_, rfl⟩
  obtain ⟨hO3, hb4⟩ := new_obj w2 _ hV3
  have HB : Hid (RowKit.Below w.heap.size w V3) := HB.out.trans (hb4.mono HB.out.size)
  have x0 : V3.cell? ⟨b2, o2, none⟩ = some (.string ⟨#[49]⟩) := (hb4.cell (p := ⟨b2, _, none⟩) hl2).trans (by simpa [tells, k_txt1] using g0)
  have x1 : V3.cell? ⟨b2, o2 + 1, none⟩ = some (.int .i64 1) := (hb4.cell (p := ⟨b2, _, none⟩) hl2).trans (by simpa [tells] using g1)
  have x2 : V3.cell? ⟨b2, o2 + 2, none⟩ = some (.string ⟨#[51]⟩) := (hb4.cell (p := ⟨b2, _, none⟩) hl2).trans (by simpa [tells, k_txt3] using g2)
  have x3 : V3.cell? ⟨b2, o2 + 2 + 1, none⟩ = some (.int .i64 (-2)) := (hb4.cell (p := ⟨b2, _, none⟩) hl2).trans (by simpa [tells] using g3)
  obtain ⟨y0, y1, _, _⟩ := box2_facts hO3
  have neq1 := ap_neq ⟨#[49]⟩ ⟨#[49]⟩ 1 1
  have neq2 := ap_neq ⟨#[51]⟩ ⟨#[51]⟩ (-2) (-2)
  rw [show (!((⟨#[49]⟩ : ByteArray).toList == (⟨#[49]⟩ : ByteArray).toList && (1 : Int) == 1)) = false by simp] at neq1
  rw [show (!((⟨#[51]⟩ : ByteArray).toList == (⟨#[51]⟩ : ByteArray).toList && (-2 : Int) == -2)) = false by simp] at neq2
  clear hO3 hb4 g0 g1 g2 g3 hcell hb3 hl2 k0 k1 k2 HP1
  simp only [tells, List.map_cons, List.map_nil, List.length_cons, List.length_nil]
  go_wp2_with (go_at_call 11; refine calls_at (num_any 0 _) (by with_reducible rfl) (by with_reducible rfl) ?_; rintro e w3 ⟨rfl, rfl⟩)
  obtain ⟨V4, hV4⟩ : ∃ V, w3.alloc (.cells #[.int .i64 1, .int .i64 2] 3) = V := ⟨_, rfl⟩
  obtain ⟨hO, hb⟩ := new_obj w3 _ hV4
  rw [hV4]
  have HB : Hid (RowKit.Below w.heap.size w V4) := HB.out.trans (hb.mono HB.out.size)
  clear hb x0 x1 x2 x3 y0 y1 neq1 neq2
  refine (ka_of _ V4 (in_of2 hO)).mono ?_
  rintro e w5 ⟨r, rfl, hp, hb⟩
  have HB : Hid (RowKit.Below w.heap.size w w5) := HB.out.trans (hb.mono HB.out.size)
  have hp' := hp
  obtain ⟨a5, c5, n5, q5, rfl, _, _⟩ := hp'
  clear hb hO hV4
  obtain ⟨V5, hV5⟩ : ∃ V, w5.alloc (.cells #[.slice a5 2 c5, .int .i64 n5, .pointer q5] 35) = V := ⟨_, rfl⟩
  obtain ⟨hO, hb⟩ := new_obj w5 _ hV5
  have HB : Hid (RowKit.Below w.heap.size w V5) := HB.out.trans (hb.mono HB.out.size)
  have HP5 : Hid (BoxPb V5 w5.heap.size (.agg #[.slice a5 2 c5, .int .i64 n5, .pointer q5]) [(1, 1), (1, 2)] 1) := ⟨_, _, _, _, rfl, hO, hp.below hb⟩
  clear hb hO hp
  simp only [List.length_cons, List.length_nil]
  go_wp2_with fail
  obtain ⟨V6, hV6⟩ : ∃ V, V5.alloc (.cells #[.int .i64 (-1), .int .i64 2] 3) = V := ⟨_, rfl⟩
  obtain ⟨hO, hb⟩ := new_obj V5 _ hV6
  rw [hV6]
  have HB : Hid (RowKit.Below w.heap.size w V6) := HB.out.trans (hb.mono HB.out.size)
  have HP5 : Hid (BoxPb V6 w5.heap.size (.agg #[.slice a5 2 c5, .int .i64 n5, .pointer q5]) [(1, 1), (1, 2)] 1) := HP5.out.below hb
  clear hb
  refine (kb_of _ V6 (in_of2 hO)).mono ?_
  rintro e w7 ⟨r, rfl, hp, hb⟩
  have HB : Hid (RowKit.Below w.heap.size w w7) := HB.out.trans (hb.mono HB.out.size)
  have HP5 : Hid (BoxPb w7 w5.heap.size (.agg #[.slice a5 2 c5, .int .i64 n5, .pointer q5]) [(1, 1), (1, 2)] 1) := HP5.out.below hb
  have hp' := hp
  obtain ⟨a7, c7, n7, q7, rfl, _, _⟩ := hp'
  clear hb hO hV6 hV5
  obtain ⟨V7, hV7⟩ : ∃ V, w7.alloc (.cells #[.slice a7 2 c7, .int .i64 n7, .pointer q7] 35) = V := ⟨_, rfl⟩
  obtain ⟨hO, hb⟩ := new_obj w7 _ hV7
  have HB : Hid (RowKit.Below w.heap.size w V7) := HB.out.trans (hb.mono HB.out.size)
  have HP5 : Hid (BoxPb V7 w5.heap.size (.agg #[.slice a5 2 c5, .int .i64 n5, .pointer q5]) [(1, 1), (1, 2)] 1) := HP5.out.below hb
  have HP7 : Hid (BoxPb V7 w7.heap.size (.agg #[.slice a7 2 c7, .int .i64 n7, .pointer q7]) [(1, -1), (1, 2)] 1) := ⟨_, _, _, _, rfl, hO, hp.below hb⟩
  have f5 : V7.heap[w5.heap.size]? = some (.cells #[.slice a5 2 c5, .int .i64 n5, .pointer q5] 35) := by obtain ⟨_, _, _, _, e1, h, _⟩ := HP5.out; injection e1 with e1; injection e1 with e1; simp only [List.cons.injEq, Value.slice.injEq, Value.int.injEq, Value.pointer.injEq, and_true, true_and] at e1; obtain ⟨⟨rfl, _, rfl⟩, rfl, rfl⟩ := e1; exact h
  obtain ⟨k0, k1, k2, _, _, _⟩ := box3_facts f5
  obtain ⟨m0, m1, m2, _, _, _⟩ := box3_facts hO
  have HQ5 : Hid (PbAt V7 (.agg #[.slice a5 2 c5, .int .i64 n5, .pointer q5]) [(1, 1), (1, 2)] 1) := by obtain ⟨_, _, _, _, _, _, h⟩ := HP5.out; exact h
  have HQ7 : Hid (PbAt V7 (.agg #[.slice a7 2 c7, .int .i64 n7, .pointer q7]) [(1, -1), (1, 2)] 1) := hp.below hb
  clear hb hO hp f5 HP5 HP7
  simp only [List.length_cons, List.length_nil]
  go_wp2_with fail
  refine (kc_of _ _ V7 HQ5.out HQ7.out).mono ?_
  rintro e w8 ⟨r8, rfl, hp, hb⟩
  have HB : Hid (RowKit.Below w.heap.size w w8) := HB.out.trans (hb.mono HB.out.size)
  clear k0 k1 k2 m0 m1 m2 HQ5 HQ7 hV7 hb
  have HP8 : Hid (PbAt w8 r8 [(2, 2)] 1) := hp
  clear hp
  go_wp2_with fail
  refine (kd_of _ w8 HP8.out).mono ?_
  rintro e w9 ⟨r9, rfl, hp, hb⟩
  have HB : Hid (RowKit.Below w.heap.size w w9) := HB.out.trans (hb.mono HB.out.size)
  have HP9 : Hid (PbAt w9 r9 [(1, 2)] 1) := hp
  clear hp hb HP8
  go_wp2_with fail
  refine (kp_of _ _ _ w9 HP9.out (by decide) (fun p hp => by simp at hp; rcases hp with rfl; decide) (by decide) (HT.out.under HB.out)).mono ?_
  rintro e w10 ⟨u10, rfl, hA, hb⟩
  rw [k_txt1]
  have HB : Hid (RowKit.Below w.heap.size w w10) := HB.out.trans (hb.mono HB.out.size)
  obtain ⟨a10, c10, rfl, _, _, hcell⟩ := hA
  obtain ⟨b10, o10, rfl, hl10, g0, g1⟩ := hcell 0 (by decide)
  clear hb HP9
  obtain ⟨V10, hV10⟩ : ∃ V, w10.alloc (.cells #[.slice (some ⟨b10, o10, none⟩) 1 c10, .string ⟨#[49]⟩] 24) = V := ⟨_, rfl⟩
  obtain ⟨hO, hb⟩ := new_obj w10 _ hV10
  have HB : Hid (RowKit.Below w.heap.size w V10) := HB.out.trans (hb.mono HB.out.size)
  have HY : Hid (V10.heap[w10.heap.size]? = some (.cells #[.slice (some ⟨b10, o10, none⟩) 1 c10, .string ⟨#[49]⟩] 24) ∧ V10.cell? ⟨b10, o10, none⟩ = some (.string ⟨#[49]⟩) ∧ V10.cell? ⟨b10, o10 + 1, none⟩ = some (.int .i64 2) ∧ b10 < V10.heap.size) := ⟨hO, (hb.cell (p := ⟨b10, _, none⟩) hl10).trans (by simpa [tells, k_txt1] using g0), (hb.cell (p := ⟨b10, _, none⟩) hl10).trans (by simpa [tells] using g1), Nat.lt_of_lt_of_le hl10 hb.size⟩
  clear hO hb g0 g1 hcell hl10
  simp only [tells, List.map_cons, List.map_nil, List.length_cons, List.length_nil]
  go_wp2_with fail
  obtain ⟨V11, hV11⟩ : ∃ V, V10.alloc (.cells #[.string ⟨#[51]⟩, .int .i64 1, .string ⟨#[50]⟩, .int .i64 2] 45) = V := ⟨_, rfl⟩
  obtain ⟨hO, hb⟩ := new_obj V10 _ hV11
  rw [hV11]
  have HB : Hid (RowKit.Below w.heap.size w V11) := HB.out.trans (hb.mono HB.out.size)
  have HY : Hid (V11.heap[w10.heap.size]? = some (.cells #[.slice (some ⟨b10, o10, none⟩) 1 c10, .string ⟨#[49]⟩] 24) ∧ V11.cell? ⟨b10, o10, none⟩ = some (.string ⟨#[49]⟩) ∧ V11.cell? ⟨b10, o10 + 1, none⟩ = some (.int .i64 2) ∧ b10 < V11.heap.size) := ⟨(hb.block _ (Array.getElem?_eq_some_iff.1 HY.out.1).1).trans HY.out.1, (hb.cell (p := ⟨b10, _, none⟩) HY.out.2.2.2).trans HY.out.2.1, (hb.cell (p := ⟨b10, _, none⟩) HY.out.2.2.2).trans HY.out.2.2.1, Nat.lt_of_lt_of_le HY.out.2.2.2 hb.size⟩
  clear hb
  refine (k2_of _ V11 (ap_of2 hO)).mono ?_
  rintro e w12 ⟨r, rfl, hp, hb⟩
  have HB : Hid (RowKit.Below w.heap.size w w12) := HB.out.trans (hb.mono HB.out.size)
  have HY : Hid (w12.heap[w10.heap.size]? = some (.cells #[.slice (some ⟨b10, o10, none⟩) 1 c10, .string ⟨#[49]⟩] 24) ∧ w12.cell? ⟨b10, o10, none⟩ = some (.string ⟨#[49]⟩) ∧ w12.cell? ⟨b10, o10 + 1, none⟩ = some (.int .i64 2) ∧ b10 < w12.heap.size) := ⟨(hb.block _ (Array.getElem?_eq_some_iff.1 HY.out.1).1).trans HY.out.1, (hb.cell (p := ⟨b10, _, none⟩) HY.out.2.2.2).trans HY.out.2.1, (hb.cell (p := ⟨b10, _, none⟩) HY.out.2.2.2).trans HY.out.2.2.1, Nat.lt_of_lt_of_le HY.out.2.2.2 hb.size⟩
  have hp' := hp
  obtain ⟨a12, c12, n12, q12, rfl, _, _⟩ := hp'
  clear hb hO hV11 hV10
  obtain ⟨V12, hV12⟩ : ∃ V, w12.alloc (.cells #[.slice a12 2 c12, .int .i64 n12, .pointer q12] 35) = V := ⟨_, rfl⟩
  obtain ⟨hO, hb⟩ := new_obj w12 _ hV12
  have HB : Hid (RowKit.Below w.heap.size w V12) := HB.out.trans (hb.mono HB.out.size)
  have HY : Hid (V12.heap[w10.heap.size]? = some (.cells #[.slice (some ⟨b10, o10, none⟩) 1 c10, .string ⟨#[49]⟩] 24) ∧ V12.cell? ⟨b10, o10, none⟩ = some (.string ⟨#[49]⟩) ∧ V12.cell? ⟨b10, o10 + 1, none⟩ = some (.int .i64 2) ∧ b10 < V12.heap.size) := ⟨(hb.block _ (Array.getElem?_eq_some_iff.1 HY.out.1).1).trans HY.out.1, (hb.cell (p := ⟨b10, _, none⟩) HY.out.2.2.2).trans HY.out.2.1, (hb.cell (p := ⟨b10, _, none⟩) HY.out.2.2.2).trans HY.out.2.2.1, Nat.lt_of_lt_of_le HY.out.2.2.2 hb.size⟩
  have HQ12 : Hid (PbAt V12 (.agg #[.slice a12 2 c12, .int .i64 n12, .pointer q12]) [(3, 1), (2, 2)] 4) := hp.below hb
  have HO12 : Hid (V12.heap[w12.heap.size]? = some (.cells #[.slice a12 2 c12, .int .i64 n12, .pointer q12] 35)) := hO
  obtain ⟨k0, k1, k2, _, _, _⟩ := box3_facts hO
  clear hb hO hp
  simp only [List.length_cons, List.length_nil]
  go_wp2_with fail
  have HW : Hid (RowKit.Below V12.heap.size V12 V12.drew) := (Below.refl _ _).drew
  have HKe : Hid (∀ w', RowKit.Below V12.heap.size V12 w' → Calls Tryz.prog 24 #[.agg #[.slice a12 2 c12, .int .i64 n12, .pointer q12], .agg #[.int .i64 2, .pointer none]] w' fun e w'' => ∃ r, e = .returned (.tuple #[r, .int .i64 0]) ∧ PbAt w'' r [(2, 1), (1, 2)] 2 ∧ RowKit.Below w'.heap.size w' w'') := fun w' hb => ke_of _ w' (HQ12.out.below hb)
  have HAl : Hid (∀ w', RowKit.Below V12.heap.size V12 w' → w'.cell? ⟨w12.heap.size, 0, none⟩ = some (.slice a12 2 c12) ∧ w'.cell? ⟨w12.heap.size, 1, none⟩ = some (.int .i64 n12) ∧ w'.cell? ⟨w12.heap.size, 2, none⟩ = some (.pointer q12)) := fun w' hb => by
    obtain ⟨z0, z1, z2, _, _, _⟩ := box3_facts ((hb.block _ (Array.getElem?_eq_some_iff.1 HO12.out).1).trans HO12.out)
    exact ⟨z0, z1, z2⟩
  refine wp_region_T (fun w' => w'.cell? ⟨w12.heap.size, 0, none⟩ = some (.slice a12 2 c12) ∧ w'.cell? ⟨w12.heap.size, 1, none⟩ = some (.int .i64 n12) ∧ w'.cell? ⟨w12.heap.size, 2, none⟩ = some (.pointer q12)) (fun _ => True) [7, 8] (by kernel_rfl) ⟨HAl.out _ HW.out, trivial⟩ (fun hHeld => ?_)
  refine wpAnyT_takeB (i := 0) (oi := ⟨some 80, .load 35 (.tmp 9), _, _, _, _⟩) (v := ?vT1x0) rfl (by kernel_rfl) (by kernel_rfl) (by kernel_rfl) (by kernel_rfl) (fun _ _ _ h => h) (Or.inl ⟨by rfl, ?hyT1x0⟩) (by assumption) ?restT1x0
  case hyT1x0 => (intro w hSw; (try dsimp only at hSw); go_simp; try (with_reducible rfl))
  try simp only [Act.put, List.setIfInBounds_toArray, List.set_cons_zero, List.set_cons_succ]
  refine wpAnyT_two (i := 1) (j := 6) (o := ⟨some 81, .call { callee := .value (.func 33), args := #[(.const (.int .i64 2))], argTypes := #[3] }, _, _, _, _⟩) (o' := ⟨some 11, .alloc 35, _, _, _, _⟩) (by kernel_rfl) rfl rfl (fun Kq hK => ?_) (fun Kq hK => ?_)
  · go_simp
    refine calls_at (of_any 2 V12.drew) (by with_reducible rfl) (by with_reducible rfl) ?_
    rintro e wf ⟨rfl, hbf⟩
    have HW : Hid (RowKit.Below V12.heap.size V12 wf) := HW.out.trans (hbf.mono HW.out.size)
    clear hbf
    go_wp2_with fail
    refine hK.out _ _ ⟨HAl.out _ HW.out, fun _ => trivial⟩ ?_
    have hHeld := (⟨HAl.out _ HW.out, trivial⟩ : _ ∧ True)
    clear hK Kq
    try simp only [Act.put, List.setIfInBounds_toArray, List.set_cons_zero, List.set_cons_succ]
    refine wpAnyT_two (i := 2) (j := 6) (o := ⟨some 82, .call { callee := .value (.func 24), args := #[(.tmp 80), (.tmp 81)], argTypes := #[35, 33] }, _, _, _, _⟩) (o' := ⟨some 11, .alloc 35, _, _, _, _⟩) (by kernel_rfl) rfl rfl (fun Kq hK => ?_) (fun Kq hK => ?_)
    · go_simp
      refine calls_at (HKe.out wf HW.out) (by with_reducible rfl) (by with_reducible rfl) ?_
      rintro e w13 ⟨r, rfl, hp, hb⟩
      have HW : Hid (RowKit.Below V12.heap.size V12 w13) := HW.out.trans (hb.mono HW.out.size)
      have hp' := hp
      obtain ⟨a13, c13, n13, q13, rfl, _, _⟩ := hp'
      have HP13 : Hid (PbAt w13 (.agg #[.slice a13 2 c13, .int .i64 n13, .pointer q13]) [(2, 1), (1, 2)] 2) := hp
      clear hb hp
      go_wp2_with fail
      refine hK.out _ _ ⟨HAl.out _ HW.out, fun _ => trivial⟩ ?_
      have hHeld := (⟨HAl.out _ HW.out, trivial⟩ : _ ∧ True)
      clear hK Kq
      try simp only [Act.put, List.setIfInBounds_toArray, List.set_cons_zero, List.set_cons_succ]
      refine wpAnyT_takeB (i := 3) (oi := ⟨some 79, .move (.tmp 82), _, _, _, _⟩) (v := ?vT2x3) rfl (by kernel_rfl) (by kernel_rfl) (by kernel_rfl) (by kernel_rfl) (fun _ _ _ h => h) (Or.inl ⟨by rfl, ?hyT2x3⟩) (by assumption) ?restT2x3
      case hyT2x3 => (intro w hSw; (try dsimp only at hSw); go_simp; try (with_reducible rfl))
      try simp only [Act.put, List.setIfInBounds_toArray, List.set_cons_zero, List.set_cons_succ]
      refine wpAnyT_takeB (i := 4) (oi := ⟨some 83, .extract (.tmp 79) 0, _, _, _, _⟩) (v := ?vT3x4) rfl (by kernel_rfl) (by kernel_rfl) (by kernel_rfl) (by kernel_rfl) (fun _ _ _ h => h) (Or.inl ⟨by rfl, ?hyT3x4⟩) (by assumption) ?restT3x4
      case hyT3x4 => (intro w hSw; (try dsimp only at hSw); go_simp; try (with_reducible rfl))
      try simp only [Act.put, List.setIfInBounds_toArray, List.set_cons_zero, List.set_cons_succ]
      refine wpAnyT_takeB (i := 5) (oi := ⟨some 84, .extract (.tmp 79) 1, _, _, _, _⟩) (v := ?vT4x5) rfl (by kernel_rfl) (by kernel_rfl) (by kernel_rfl) (by kernel_rfl) (fun _ _ _ h => h) (Or.inl ⟨by rfl, ?hyT4x5⟩) (by assumption) ?restT4x5
      case hyT4x5 => (intro w hSw; (try dsimp only at hSw); go_simp; try (with_reducible rfl))
      try simp only [Act.put, List.setIfInBounds_toArray, List.set_cons_zero, List.set_cons_succ]
      refine wpAnyT_one (i := 6) (o := ⟨some 11, .alloc 35, _, _, _, _⟩) (by kernel_rfl) rfl (fun Kq hK => ?_)
      go_simp
      have HGE : Hid (V12.heap.size ≤ w13.heap.size) := HW.out.size
      obtain ⟨V13, hV13⟩ : ∃ V, World.alloc w13 (.cells #[.slice none 0 0, .int .i64 0, .pointer none] 35) = V := ⟨_, rfl⟩
      obtain ⟨hO, hb⟩ := new_obj w13 _ hV13
      rw [hV13]
      have HZ : Hid (Box0 V13 (World.heap w13).size) := hO
      have HW : Hid (RowKit.Below V12.heap.size V12 V13) := HW.out.trans (hb.mono HW.out.size)
      have HP13 : Hid (PbAt V13 (.agg #[.slice a13 2 c13, .int .i64 n13, .pointer q13]) [(2, 1), (1, 2)] 2) := HP13.out.below hb
      clear hO hb hV13
      refine hK.out _ _ ⟨HAl.out _ HW.out, fun _ => trivial⟩ ?_
      have hHeld := (⟨HAl.out _ HW.out, trivial⟩ : _ ∧ True)
      clear hK Kq
      try simp only [Act.put, List.setIfInBounds_toArray, List.set_cons_zero, List.set_cons_succ]
      obtain ⟨x0, x1, x2, f0, f1, f2⟩ := HZ.out.cells
      obtain ⟨X, hX⟩ : ∃ X, ((V13.setCell ⟨w13.heap.size, 0, none⟩ (.slice a13 2 c13)).setCell ⟨w13.heap.size, 1, none⟩ (.int .i64 n13)).setCell ⟨w13.heap.size, 2, none⟩ (.pointer q13) = X := ⟨_, rfl⟩
      have hQ := HP13.out
      obtain ⟨a14, c14, n14, q14, e14, hPi, hBg⟩ := hQ
      have hE : a14 = a13 ∧ c14 = c13 ∧ n14 = n13 ∧ q14 = q13 := by
        injection e14 with e14; injection e14 with e14
        simp only [List.cons.injEq, Value.slice.injEq, Value.int.injEq, Value.pointer.injEq, and_true, true_and] at e14
        exact ⟨e14.1.1.symm, e14.1.2.2.symm, e14.2.1.symm, e14.2.2.symm⟩
      obtain ⟨rfl, rfl, rfl, rfl⟩ := hE
      obtain ⟨y0, y1, y2, hPbX, hbX⟩ := row_ret HZ.out hPi hBg hX
      have HgX : Hid (V13.grownBy X (some w13.heap.size)) := by show World.grownBy _ _ _; rw [← hX]; exact grown_set3 V13 (w13.heap.size) 0 _ _ _
      have HX : Hid (((V13.setCell ⟨w13.heap.size, 0, none⟩ (.slice a14 2 c14)).setCell ⟨w13.heap.size, 1, none⟩ (.int .i64 n14)).setCell ⟨w13.heap.size, 2, none⟩ (.pointer q14) = X) := hX
      have Hge : Hid (V12.heap.size ≤ w13.heap.size) := HGE.out
      have HPX : Hid (PbAt X (.agg #[.slice a14 2 c14, .int .i64 n14, .pointer q14]) [(2, 1), (1, 2)] 2) := hPbX
      have HWX : Hid (RowKit.Below V12.heap.size V12 X) := hbX _ _ Hge.out HW.out
      clear hX hPi hBg hPbX hbX e14
      refine wpAnyT_late (i := 7) (o := ⟨none, .store 35 (.tmp 11) (.tmp 83), _, _, _, _⟩) (by kernel_rfl) rfl (by kernel_rfl) (fun Kq hK => ?_)
      go_simp
      rw [HX.out]
      refine hK.out _ _ (HAl.out _ HWX.out) ?_
      clear hK Kq x0 x1 x2 f0 f1 f2
      try simp only [Act.put, List.setIfInBounds_toArray, List.set_cons_zero, List.set_cons_succ]
      refine wpAnyT_late (i := 8) (o := ⟨some 12, .assign (.tmp 84), _, _, _, _⟩) (by kernel_rfl) rfl (by kernel_rfl) (fun Kq hK => ?_)
      go_simp
      refine hK.out _ _ (HAl.out _ HWX.out) ?_
      clear hK Kq
      try simp only [Act.put, List.setIfInBounds_toArray, List.set_cons_zero, List.set_cons_succ]
      refine wpAnyT_done (by kernel_rfl) ?_ _
      obtain ⟨B, hB⟩ : ∃ B, w13.heap.size = B := ⟨_, rfl⟩
      rw [hB] at y0 y1 y2 ⊢
      have HB : Hid (RowKit.Below w.heap.size w X) := HB.out.trans (HWX.out.mono HB.out.size)
      have HY : Hid (X.heap[w10.heap.size]? = some (.cells #[.slice (some ⟨b10, o10, none⟩) 1 c10, .string ⟨#[49]⟩] 24) ∧ X.cell? ⟨b10, o10, none⟩ = some (.string ⟨#[49]⟩) ∧ X.cell? ⟨b10, o10 + 1, none⟩ = some (.int .i64 2) ∧ b10 < X.heap.size) := ⟨(HWX.out.block _ (Array.getElem?_eq_some_iff.1 HY.out.1).1).trans HY.out.1, (HWX.out.cell (p := ⟨b10, _, none⟩) HY.out.2.2.2).trans HY.out.2.1, (HWX.out.cell (p := ⟨b10, _, none⟩) HY.out.2.2.2).trans HY.out.2.2.1, Nat.lt_of_lt_of_le HY.out.2.2.2 HWX.out.size⟩
      clear hB HX HgX Hge HWX HZ HW HP13 hHeld
      go_wp2_with fail
      refine (kp_of _ _ _ X HPX.out (by decide) (fun p hp => by simp at hp; rcases hp with rfl | rfl <;> decide) (by decide) (HT.out.under HB.out)).mono ?_
      rintro e w15 ⟨u15, rfl, hA, hb⟩
      rw [k_txt2]
      have HB : Hid (RowKit.Below w.heap.size w w15) := HB.out.trans (hb.mono HB.out.size)
      have HY : Hid (w15.heap[w10.heap.size]? = some (.cells #[.slice (some ⟨b10, o10, none⟩) 1 c10, .string ⟨#[49]⟩] 24) ∧ w15.cell? ⟨b10, o10, none⟩ = some (.string ⟨#[49]⟩) ∧ w15.cell? ⟨b10, o10 + 1, none⟩ = some (.int .i64 2) ∧ b10 < w15.heap.size) := ⟨(hb.block _ (Array.getElem?_eq_some_iff.1 HY.out.1).1).trans HY.out.1, (hb.cell (p := ⟨b10, _, none⟩) HY.out.2.2.2).trans HY.out.2.1, (hb.cell (p := ⟨b10, _, none⟩) HY.out.2.2.2).trans HY.out.2.2.1, Nat.lt_of_lt_of_le HY.out.2.2.2 hb.size⟩
      obtain ⟨a15, c15, rfl, _, _, hcell⟩ := hA
      obtain ⟨b15, o15, rfl, hl15, g0, g1⟩ := hcell 0 (by decide)
      obtain ⟨_, _, e2, _, g2, g3⟩ := hcell 1 (by decide)
      injection e2 with e2
      injection e2 with e3 e4 _
      subst e3
      subst e4
      clear hb
      obtain ⟨V15, hV15⟩ : ∃ V, w15.alloc (.cells #[.slice (some ⟨b15, o15, none⟩) 2 c15, .string ⟨#[50]⟩] 24) = V := ⟨_, rfl⟩
      obtain ⟨hO, hb⟩ := new_obj w15 _ hV15
      have HB : Hid (RowKit.Below w.heap.size w V15) := HB.out.trans (hb.mono HB.out.size)
      have HY : Hid (V15.heap[w10.heap.size]? = some (.cells #[.slice (some ⟨b10, o10, none⟩) 1 c10, .string ⟨#[49]⟩] 24) ∧ V15.cell? ⟨b10, o10, none⟩ = some (.string ⟨#[49]⟩) ∧ V15.cell? ⟨b10, o10 + 1, none⟩ = some (.int .i64 2) ∧ b10 < V15.heap.size) := ⟨(hb.block _ (Array.getElem?_eq_some_iff.1 HY.out.1).1).trans HY.out.1, (hb.cell (p := ⟨b10, _, none⟩) HY.out.2.2.2).trans HY.out.2.1, (hb.cell (p := ⟨b10, _, none⟩) HY.out.2.2.2).trans HY.out.2.2.1, Nat.lt_of_lt_of_le HY.out.2.2.2 hb.size⟩
      have z0 : V15.cell? ⟨b15, o15, none⟩ = some (.string ⟨#[50]⟩) := (hb.cell (p := ⟨b15, _, none⟩) hl15).trans (by simpa [tells, k_txt2] using g0)
      have z2 : V15.cell? ⟨b15, o15 + 2, none⟩ = some (.string ⟨#[49]⟩) := (hb.cell (p := ⟨b15, _, none⟩) hl15).trans (by simpa [tells, k_txt1] using g2)
      have hl15' : b15 < V15.heap.size := Nat.lt_of_lt_of_le hl15 hb.size
      have HOz : Hid (V15.heap[w15.heap.size]? = some (.cells #[.slice (some ⟨b15, o15, none⟩) 2 c15, .string ⟨#[50]⟩] 24)) := hO
      clear hb hO g0 g1 g2 g3 hcell hl15
      obtain ⟨V16, hV16⟩ : ∃ V, V15.alloc (.cells #[.slice none 0 0, .int .i64 0, .pointer none] 35) = V := ⟨_, rfl⟩
      obtain ⟨hO, hb⟩ := new_obj V15 _ hV16
      have HB : Hid (RowKit.Below w.heap.size w V16) := HB.out.trans (hb.mono HB.out.size)
      have HY : Hid (V16.heap[w10.heap.size]? = some (.cells #[.slice (some ⟨b10, o10, none⟩) 1 c10, .string ⟨#[49]⟩] 24) ∧ V16.cell? ⟨b10, o10, none⟩ = some (.string ⟨#[49]⟩) ∧ V16.cell? ⟨b10, o10 + 1, none⟩ = some (.int .i64 2) ∧ b10 < V16.heap.size) := ⟨(hb.block _ (Array.getElem?_eq_some_iff.1 HY.out.1).1).trans HY.out.1, (hb.cell (p := ⟨b10, _, none⟩) HY.out.2.2.2).trans HY.out.2.1, (hb.cell (p := ⟨b10, _, none⟩) HY.out.2.2.2).trans HY.out.2.2.1, Nat.lt_of_lt_of_le HY.out.2.2.2 hb.size⟩
      have HX0 : Hid (Box0 V16 V15.heap.size) := hO
      have z0' := (hb.cell (p := ⟨b15, _, none⟩) hl15').trans z0
      have z2' := (hb.cell (p := ⟨b15, _, none⟩) hl15').trans z2
      have hOz := (hb.block _ (Array.getElem?_eq_some_iff.1 HOz.out).1).trans HOz.out
      obtain ⟨zz0, zz1, _, _⟩ := box2_facts hOz
      obtain ⟨yy0, yy1, _, _⟩ := box2_facts HY.out.1
      have yc0 := HY.out.2.1
      have yc1 := HY.out.2.2.1
      obtain ⟨t0, t1, t2, _, _, _⟩ := HX0.out.cells
      have eq1 := ap_eql ⟨#[49]⟩ ⟨#[49]⟩ 2 2
      rw [show ((⟨#[49]⟩ : ByteArray).toList == (⟨#[49]⟩ : ByteArray).toList && (2 : Int) == 2) = true by simp] at eq1
      have HKn : Hid (Calls Tryz.prog 26 #[.agg #[.slice none 0 0, .int .i64 0, .pointer none]] V16 fun e w' => ∃ r, e = .returned r ∧ PbAt w' r [] 1 ∧ RowKit.Below V16.heap.size V16 w') := kn_of _ V16 (PbAt.zero _)
      clear hb hO hOz z0 z2 HOz hl15' y0 y1 y2 HPX
      simp only [tells, List.map_cons, List.map_nil, List.length_cons, List.length_nil]
      go_wp2_with (first | (go_at_call 11; refine calls_at (num_any 0 V16) (by with_reducible rfl) (by with_reducible rfl) ?_; rintro e w3' ⟨rfl, hww⟩; rw [hww]) | (go_at_call 26; refine calls_at HKn.out (by with_reducible rfl) (by with_reducible rfl) ?_; rintro e w17 ⟨r17, rfl, hp17, hb17⟩; have HP17 : Hid (PbAt w17 r17 [] 1) := hp17; have HB17 : Hid (RowKit.Below V16.heap.size V16 w17) := hb17; clear hp17 hb17) | (go_at_call 27; refine calls_at (kz_of _ 1 w17 HP17.out) (by with_reducible rfl) (by with_reducible rfl) ?_; rintro e w18 ⟨rfl, hb18⟩; have HB18 : Hid (RowKit.Below V16.heap.size V16 w18) := HB17.out.trans (hb18.mono HB17.out.size); obtain ⟨s0, s1, s2, _, _, _⟩ := ((HX0.out.below HB18.out).cells); clear hb18; rw [show decide ((0 : Int) < 1) = true from rfl]) | (go_at_call 27; refine calls_at (kz_of _ 0 w18 (PbAt.zero _)) (by with_reducible rfl) (by with_reducible rfl) ?_; rintro e w19 ⟨rfl, hb19⟩; rw [show decide ((0 : Int) < 0) = false from rfl]))
      go_ret
      exact ⟨rfl, HB.out.trans ((HB18.out.trans (hb19.mono HB18.out.size)).mono HB.out.size)⟩
    · go_simp
      have HGE : Hid (V12.heap.size ≤ wf.heap.size) := HW.out.size
      obtain ⟨V13, hV13⟩ : ∃ V, World.alloc wf (.cells #[.slice none 0 0, .int .i64 0, .pointer none] 35) = V := ⟨_, rfl⟩
      obtain ⟨hO, hb⟩ := new_obj wf _ hV13
      rw [hV13]
      have HZ : Hid (Box0 V13 (World.heap wf).size) := hO
      have HW : Hid (RowKit.Below V12.heap.size V12 V13) := HW.out.trans (hb.mono HW.out.size)
      clear hO hb hV13
      refine hK.out _ _ ⟨HAl.out _ HW.out, fun _ => trivial⟩ ?_
      have hHeld := (⟨HAl.out _ HW.out, trivial⟩ : _ ∧ True)
      clear hK Kq
      try simp only [Act.put, List.setIfInBounds_toArray, List.set_cons_zero, List.set_cons_succ]
      refine wpAnyT_one (i := 2) (o := ⟨some 82, .call { callee := .value (.func 24), args := #[(.tmp 80), (.tmp 81)], argTypes := #[35, 33] }, _, _, _, _⟩) (by kernel_rfl) rfl (fun Kq hK => ?_)
      go_simp
      refine calls_at (HKe.out V13 HW.out) (by with_reducible rfl) (by with_reducible rfl) ?_
      rintro e w13 ⟨r, rfl, hp, hb⟩
      have HW : Hid (RowKit.Below V12.heap.size V12 w13) := HW.out.trans (hb.mono HW.out.size)
      have HZ : Hid (Box0 w13 wf.heap.size) := HZ.out.below hb
      have hp' := hp
      obtain ⟨a13, c13, n13, q13, rfl, _, _⟩ := hp'
      have HP13 : Hid (PbAt w13 (.agg #[.slice a13 2 c13, .int .i64 n13, .pointer q13]) [(2, 1), (1, 2)] 2) := hp
      clear hb hp
      go_wp2_with fail
      refine hK.out _ _ ⟨HAl.out _ HW.out, fun _ => trivial⟩ ?_
      have hHeld := (⟨HAl.out _ HW.out, trivial⟩ : _ ∧ True)
      clear hK Kq
      try simp only [Act.put, List.setIfInBounds_toArray, List.set_cons_zero, List.set_cons_succ]
      refine wpAnyT_takeB (i := 3) (oi := ⟨some 79, .move (.tmp 82), _, _, _, _⟩) (v := ?vT5x3) rfl (by kernel_rfl) (by kernel_rfl) (by kernel_rfl) (by kernel_rfl) (fun _ _ _ h => h) (Or.inl ⟨by rfl, ?hyT5x3⟩) (by assumption) ?restT5x3
      case hyT5x3 => (intro w hSw; (try dsimp only at hSw); go_simp; try (with_reducible rfl))
      try simp only [Act.put, List.setIfInBounds_toArray, List.set_cons_zero, List.set_cons_succ]
      refine wpAnyT_takeB (i := 4) (oi := ⟨some 83, .extract (.tmp 79) 0, _, _, _, _⟩) (v := ?vT6x4) rfl (by kernel_rfl) (by kernel_rfl) (by kernel_rfl) (by kernel_rfl) (fun _ _ _ h => h) (Or.inl ⟨by rfl, ?hyT6x4⟩) (by assumption) ?restT6x4
      case hyT6x4 => (intro w hSw; (try dsimp only at hSw); go_simp; try (with_reducible rfl))
      try simp only [Act.put, List.setIfInBounds_toArray, List.set_cons_zero, List.set_cons_succ]
      refine wpAnyT_takeB (i := 5) (oi := ⟨some 84, .extract (.tmp 79) 1, _, _, _, _⟩) (v := ?vT7x5) rfl (by kernel_rfl) (by kernel_rfl) (by kernel_rfl) (by kernel_rfl) (fun _ _ _ h => h) (Or.inl ⟨by rfl, ?hyT7x5⟩) (by assumption) ?restT7x5
      case hyT7x5 => (intro w hSw; (try dsimp only at hSw); go_simp; try (with_reducible rfl))
      try simp only [Act.put, List.setIfInBounds_toArray, List.set_cons_zero, List.set_cons_succ]
      obtain ⟨x0, x1, x2, f0, f1, f2⟩ := HZ.out.cells
      obtain ⟨X, hX⟩ : ∃ X, ((w13.setCell ⟨wf.heap.size, 0, none⟩ (.slice a13 2 c13)).setCell ⟨wf.heap.size, 1, none⟩ (.int .i64 n13)).setCell ⟨wf.heap.size, 2, none⟩ (.pointer q13) = X := ⟨_, rfl⟩
      have hQ := HP13.out
      obtain ⟨a14, c14, n14, q14, e14, hPi, hBg⟩ := hQ
      have hE : a14 = a13 ∧ c14 = c13 ∧ n14 = n13 ∧ q14 = q13 := by
        injection e14 with e14; injection e14 with e14
        simp only [List.cons.injEq, Value.slice.injEq, Value.int.injEq, Value.pointer.injEq, and_true, true_and] at e14
        exact ⟨e14.1.1.symm, e14.1.2.2.symm, e14.2.1.symm, e14.2.2.symm⟩
      obtain ⟨rfl, rfl, rfl, rfl⟩ := hE
      obtain ⟨y0, y1, y2, hPbX, hbX⟩ := row_ret HZ.out hPi hBg hX
      have HgX : Hid (w13.grownBy X (some wf.heap.size)) := by show World.grownBy _ _ _; rw [← hX]; exact grown_set3 w13 (wf.heap.size) 0 _ _ _
      have HX : Hid (((w13.setCell ⟨wf.heap.size, 0, none⟩ (.slice a14 2 c14)).setCell ⟨wf.heap.size, 1, none⟩ (.int .i64 n14)).setCell ⟨wf.heap.size, 2, none⟩ (.pointer q14) = X) := hX
      have Hge : Hid (V12.heap.size ≤ wf.heap.size) := HGE.out
      have HPX : Hid (PbAt X (.agg #[.slice a14 2 c14, .int .i64 n14, .pointer q14]) [(2, 1), (1, 2)] 2) := hPbX
      have HWX : Hid (RowKit.Below V12.heap.size V12 X) := hbX _ _ Hge.out HW.out
      clear hX hPi hBg hPbX hbX e14
      refine wpAnyT_late (i := 7) (o := ⟨none, .store 35 (.tmp 11) (.tmp 83), _, _, _, _⟩) (by kernel_rfl) rfl (by kernel_rfl) (fun Kq hK => ?_)
      go_simp
      rw [HX.out]
      refine hK.out _ _ (HAl.out _ HWX.out) ?_
      clear hK Kq x0 x1 x2 f0 f1 f2
      try simp only [Act.put, List.setIfInBounds_toArray, List.set_cons_zero, List.set_cons_succ]
      refine wpAnyT_late (i := 8) (o := ⟨some 12, .assign (.tmp 84), _, _, _, _⟩) (by kernel_rfl) rfl (by kernel_rfl) (fun Kq hK => ?_)
      go_simp
      refine hK.out _ _ (HAl.out _ HWX.out) ?_
      clear hK Kq
      try simp only [Act.put, List.setIfInBounds_toArray, List.set_cons_zero, List.set_cons_succ]
      refine wpAnyT_done (by kernel_rfl) ?_ _
      obtain ⟨B, hB⟩ : ∃ B, wf.heap.size = B := ⟨_, rfl⟩
      rw [hB] at y0 y1 y2 ⊢
      have HB : Hid (RowKit.Below w.heap.size w X) := HB.out.trans (HWX.out.mono HB.out.size)
      have HY : Hid (X.heap[w10.heap.size]? = some (.cells #[.slice (some ⟨b10, o10, none⟩) 1 c10, .string ⟨#[49]⟩] 24) ∧ X.cell? ⟨b10, o10, none⟩ = some (.string ⟨#[49]⟩) ∧ X.cell? ⟨b10, o10 + 1, none⟩ = some (.int .i64 2) ∧ b10 < X.heap.size) := ⟨(HWX.out.block _ (Array.getElem?_eq_some_iff.1 HY.out.1).1).trans HY.out.1, (HWX.out.cell (p := ⟨b10, _, none⟩) HY.out.2.2.2).trans HY.out.2.1, (HWX.out.cell (p := ⟨b10, _, none⟩) HY.out.2.2.2).trans HY.out.2.2.1, Nat.lt_of_lt_of_le HY.out.2.2.2 HWX.out.size⟩
      clear hB HX HgX Hge HWX HZ HW HP13 hHeld
      go_wp2_with fail
      refine (kp_of _ _ _ X HPX.out (by decide) (fun p hp => by simp at hp; rcases hp with rfl | rfl <;> decide) (by decide) (HT.out.under HB.out)).mono ?_
      rintro e w15 ⟨u15, rfl, hA, hb⟩
      rw [k_txt2]
      have HB : Hid (RowKit.Below w.heap.size w w15) := HB.out.trans (hb.mono HB.out.size)
      have HY : Hid (w15.heap[w10.heap.size]? = some (.cells #[.slice (some ⟨b10, o10, none⟩) 1 c10, .string ⟨#[49]⟩] 24) ∧ w15.cell? ⟨b10, o10, none⟩ = some (.string ⟨#[49]⟩) ∧ w15.cell? ⟨b10, o10 + 1, none⟩ = some (.int .i64 2) ∧ b10 < w15.heap.size) := ⟨(hb.block _ (Array.getElem?_eq_some_iff.1 HY.out.1).1).trans HY.out.1, (hb.cell (p := ⟨b10, _, none⟩) HY.out.2.2.2).trans HY.out.2.1, (hb.cell (p := ⟨b10, _, none⟩) HY.out.2.2.2).trans HY.out.2.2.1, Nat.lt_of_lt_of_le HY.out.2.2.2 hb.size⟩
      obtain ⟨a15, c15, rfl, _, _, hcell⟩ := hA
      obtain ⟨b15, o15, rfl, hl15, g0, g1⟩ := hcell 0 (by decide)
      obtain ⟨_, _, e2, _, g2, g3⟩ := hcell 1 (by decide)
      injection e2 with e2
      injection e2 with e3 e4 _
      subst e3
      subst e4
      clear hb
      obtain ⟨V15, hV15⟩ : ∃ V, w15.alloc (.cells #[.slice (some ⟨b15, o15, none⟩) 2 c15, .string ⟨#[50]⟩] 24) = V := ⟨_, rfl⟩
      obtain ⟨hO, hb⟩ := new_obj w15 _ hV15
      have HB : Hid (RowKit.Below w.heap.size w V15) := HB.out.trans (hb.mono HB.out.size)
      have HY : Hid (V15.heap[w10.heap.size]? = some (.cells #[.slice (some ⟨b10, o10, none⟩) 1 c10, .string ⟨#[49]⟩] 24) ∧ V15.cell? ⟨b10, o10, none⟩ = some (.string ⟨#[49]⟩) ∧ V15.cell? ⟨b10, o10 + 1, none⟩ = some (.int .i64 2) ∧ b10 < V15.heap.size) := ⟨(hb.block _ (Array.getElem?_eq_some_iff.1 HY.out.1).1).trans HY.out.1, (hb.cell (p := ⟨b10, _, none⟩) HY.out.2.2.2).trans HY.out.2.1, (hb.cell (p := ⟨b10, _, none⟩) HY.out.2.2.2).trans HY.out.2.2.1, Nat.lt_of_lt_of_le HY.out.2.2.2 hb.size⟩
      have z0 : V15.cell? ⟨b15, o15, none⟩ = some (.string ⟨#[50]⟩) := (hb.cell (p := ⟨b15, _, none⟩) hl15).trans (by simpa [tells, k_txt2] using g0)
      have z2 : V15.cell? ⟨b15, o15 + 2, none⟩ = some (.string ⟨#[49]⟩) := (hb.cell (p := ⟨b15, _, none⟩) hl15).trans (by simpa [tells, k_txt1] using g2)
      have hl15' : b15 < V15.heap.size := Nat.lt_of_lt_of_le hl15 hb.size
      have HOz : Hid (V15.heap[w15.heap.size]? = some (.cells #[.slice (some ⟨b15, o15, none⟩) 2 c15, .string ⟨#[50]⟩] 24)) := hO
      clear hb hO g0 g1 g2 g3 hcell hl15
      obtain ⟨V16, hV16⟩ : ∃ V, V15.alloc (.cells #[.slice none 0 0, .int .i64 0, .pointer none] 35) = V := ⟨_, rfl⟩
      obtain ⟨hO, hb⟩ := new_obj V15 _ hV16
      have HB : Hid (RowKit.Below w.heap.size w V16) := HB.out.trans (hb.mono HB.out.size)
      have HY : Hid (V16.heap[w10.heap.size]? = some (.cells #[.slice (some ⟨b10, o10, none⟩) 1 c10, .string ⟨#[49]⟩] 24) ∧ V16.cell? ⟨b10, o10, none⟩ = some (.string ⟨#[49]⟩) ∧ V16.cell? ⟨b10, o10 + 1, none⟩ = some (.int .i64 2) ∧ b10 < V16.heap.size) := ⟨(hb.block _ (Array.getElem?_eq_some_iff.1 HY.out.1).1).trans HY.out.1, (hb.cell (p := ⟨b10, _, none⟩) HY.out.2.2.2).trans HY.out.2.1, (hb.cell (p := ⟨b10, _, none⟩) HY.out.2.2.2).trans HY.out.2.2.1, Nat.lt_of_lt_of_le HY.out.2.2.2 hb.size⟩
      have HX0 : Hid (Box0 V16 V15.heap.size) := hO
      have z0' := (hb.cell (p := ⟨b15, _, none⟩) hl15').trans z0
      have z2' := (hb.cell (p := ⟨b15, _, none⟩) hl15').trans z2
      have hOz := (hb.block _ (Array.getElem?_eq_some_iff.1 HOz.out).1).trans HOz.out
      obtain ⟨zz0, zz1, _, _⟩ := box2_facts hOz
      obtain ⟨yy0, yy1, _, _⟩ := box2_facts HY.out.1
      have yc0 := HY.out.2.1
      have yc1 := HY.out.2.2.1
      obtain ⟨t0, t1, t2, _, _, _⟩ := HX0.out.cells
      have eq1 := ap_eql ⟨#[49]⟩ ⟨#[49]⟩ 2 2
      rw [show ((⟨#[49]⟩ : ByteArray).toList == (⟨#[49]⟩ : ByteArray).toList && (2 : Int) == 2) = true by simp] at eq1
      have HKn : Hid (Calls Tryz.prog 26 #[.agg #[.slice none 0 0, .int .i64 0, .pointer none]] V16 fun e w' => ∃ r, e = .returned r ∧ PbAt w' r [] 1 ∧ RowKit.Below V16.heap.size V16 w') := kn_of _ V16 (PbAt.zero _)
      clear hb hO hOz z0 z2 HOz hl15' y0 y1 y2 HPX
      simp only [tells, List.map_cons, List.map_nil, List.length_cons, List.length_nil]
      go_wp2_with (first | (go_at_call 11; refine calls_at (num_any 0 V16) (by with_reducible rfl) (by with_reducible rfl) ?_; rintro e w3' ⟨rfl, hww⟩; rw [hww]) | (go_at_call 26; refine calls_at HKn.out (by with_reducible rfl) (by with_reducible rfl) ?_; rintro e w17 ⟨r17, rfl, hp17, hb17⟩; have HP17 : Hid (PbAt w17 r17 [] 1) := hp17; have HB17 : Hid (RowKit.Below V16.heap.size V16 w17) := hb17; clear hp17 hb17) | (go_at_call 27; refine calls_at (kz_of _ 1 w17 HP17.out) (by with_reducible rfl) (by with_reducible rfl) ?_; rintro e w18 ⟨rfl, hb18⟩; have HB18 : Hid (RowKit.Below V16.heap.size V16 w18) := HB17.out.trans (hb18.mono HB17.out.size); obtain ⟨s0, s1, s2, _, _, _⟩ := ((HX0.out.below HB18.out).cells); clear hb18; rw [show decide ((0 : Int) < 1) = true from rfl]) | (go_at_call 27; refine calls_at (kz_of _ 0 w18 (PbAt.zero _)) (by with_reducible rfl) (by with_reducible rfl) ?_; rintro e w19 ⟨rfl, hb19⟩; rw [show decide ((0 : Int) < 0) = false from rfl]))
      go_ret
      exact ⟨rfl, HB.out.trans ((HB18.out.trans (hb19.mono HB18.out.size)).mono HB.out.size)⟩
  · go_simp
    obtain ⟨V13, hV13⟩ : ∃ V, (V12.alloc (.cells #[.slice none 0 0, .int .i64 0, .pointer none] 35)).drew = V := ⟨_, rfl⟩
    have hO : V13.heap[V12.heap.size]? = some (.cells #[.slice none 0 0, .int .i64 0, .pointer none] 35) := by rw [← hV13]; exact World.alloc_heap_new V12 _
    have hb : RowKit.Below V12.heap.size V12 V13 := by rw [← hV13]; exact ((Below.refl _ _).alloc (Nat.le_refl _) _).drew
    rw [hV13]
    have HZ : Hid (Box0 V13 V12.heap.size) := hO
    have HW : Hid (RowKit.Below V12.heap.size V12 V13) := hb
    clear hO hb hV13
    refine hK.out _ _ ⟨HAl.out _ HW.out, fun _ => trivial⟩ ?_
    have hHeld := (⟨HAl.out _ HW.out, trivial⟩ : _ ∧ True)
    clear hK Kq
    try simp only [Act.put, List.setIfInBounds_toArray, List.set_cons_zero, List.set_cons_succ]
    refine wpAnyT_one (i := 1) (o := ⟨some 81, .call { callee := .value (.func 33), args := #[(.const (.int .i64 2))], argTypes := #[3] }, _, _, _, _⟩) (by kernel_rfl) rfl (fun Kq hK => ?_)
    go_simp
    refine calls_at (of_any 2 V13) (by with_reducible rfl) (by with_reducible rfl) ?_
    rintro e wf ⟨rfl, hbf⟩
    have HW : Hid (RowKit.Below V12.heap.size V12 wf) := HW.out.trans (hbf.mono HW.out.size)
    have HZ : Hid (Box0 wf V12.heap.size) := HZ.out.below hbf
    clear hbf
    go_wp2_with fail
    refine hK.out _ _ ⟨HAl.out _ HW.out, fun _ => trivial⟩ ?_
    have hHeld := (⟨HAl.out _ HW.out, trivial⟩ : _ ∧ True)
    clear hK Kq
    try simp only [Act.put, List.setIfInBounds_toArray, List.set_cons_zero, List.set_cons_succ]
    refine wpAnyT_one (i := 2) (o := ⟨some 82, .call { callee := .value (.func 24), args := #[(.tmp 80), (.tmp 81)], argTypes := #[35, 33] }, _, _, _, _⟩) (by kernel_rfl) rfl (fun Kq hK => ?_)
    go_simp
    refine calls_at (HKe.out wf HW.out) (by with_reducible rfl) (by with_reducible rfl) ?_
    rintro e w13 ⟨r, rfl, hp, hb⟩
    have HW : Hid (RowKit.Below V12.heap.size V12 w13) := HW.out.trans (hb.mono HW.out.size)
    have HZ : Hid (Box0 w13 V12.heap.size) := HZ.out.below hb
    have hp' := hp
    obtain ⟨a13, c13, n13, q13, rfl, _, _⟩ := hp'
    have HP13 : Hid (PbAt w13 (.agg #[.slice a13 2 c13, .int .i64 n13, .pointer q13]) [(2, 1), (1, 2)] 2) := hp
    clear hb hp
    go_wp2_with fail
    refine hK.out _ _ ⟨HAl.out _ HW.out, fun _ => trivial⟩ ?_
    have hHeld := (⟨HAl.out _ HW.out, trivial⟩ : _ ∧ True)
    clear hK Kq
    try simp only [Act.put, List.setIfInBounds_toArray, List.set_cons_zero, List.set_cons_succ]
    refine wpAnyT_takeB (i := 3) (oi := ⟨some 79, .move (.tmp 82), _, _, _, _⟩) (v := ?vT8x3) rfl (by kernel_rfl) (by kernel_rfl) (by kernel_rfl) (by kernel_rfl) (fun _ _ _ h => h) (Or.inl ⟨by rfl, ?hyT8x3⟩) (by assumption) ?restT8x3
    case hyT8x3 => (intro w hSw; (try dsimp only at hSw); go_simp; try (with_reducible rfl))
    try simp only [Act.put, List.setIfInBounds_toArray, List.set_cons_zero, List.set_cons_succ]
    refine wpAnyT_takeB (i := 4) (oi := ⟨some 83, .extract (.tmp 79) 0, _, _, _, _⟩) (v := ?vT9x4) rfl (by kernel_rfl) (by kernel_rfl) (by kernel_rfl) (by kernel_rfl) (fun _ _ _ h => h) (Or.inl ⟨by rfl, ?hyT9x4⟩) (by assumption) ?restT9x4
    case hyT9x4 => (intro w hSw; (try dsimp only at hSw); go_simp; try (with_reducible rfl))
    try simp only [Act.put, List.setIfInBounds_toArray, List.set_cons_zero, List.set_cons_succ]
    refine wpAnyT_takeB (i := 5) (oi := ⟨some 84, .extract (.tmp 79) 1, _, _, _, _⟩) (v := ?vT10x5) rfl (by kernel_rfl) (by kernel_rfl) (by kernel_rfl) (by kernel_rfl) (fun _ _ _ h => h) (Or.inl ⟨by rfl, ?hyT10x5⟩) (by assumption) ?restT10x5
    case hyT10x5 => (intro w hSw; (try dsimp only at hSw); go_simp; try (with_reducible rfl))
    try simp only [Act.put, List.setIfInBounds_toArray, List.set_cons_zero, List.set_cons_succ]
    obtain ⟨x0, x1, x2, f0, f1, f2⟩ := HZ.out.cells
    obtain ⟨X, hX⟩ : ∃ X, ((w13.setCell ⟨V12.heap.size, 0, none⟩ (.slice a13 2 c13)).setCell ⟨V12.heap.size, 1, none⟩ (.int .i64 n13)).setCell ⟨V12.heap.size, 2, none⟩ (.pointer q13) = X := ⟨_, rfl⟩
    have hQ := HP13.out
    obtain ⟨a14, c14, n14, q14, e14, hPi, hBg⟩ := hQ
    have hE : a14 = a13 ∧ c14 = c13 ∧ n14 = n13 ∧ q14 = q13 := by
      injection e14 with e14; injection e14 with e14
      simp only [List.cons.injEq, Value.slice.injEq, Value.int.injEq, Value.pointer.injEq, and_true, true_and] at e14
      exact ⟨e14.1.1.symm, e14.1.2.2.symm, e14.2.1.symm, e14.2.2.symm⟩
    obtain ⟨rfl, rfl, rfl, rfl⟩ := hE
    obtain ⟨y0, y1, y2, hPbX, hbX⟩ := row_ret HZ.out hPi hBg hX
    have HgX : Hid (w13.grownBy X (some V12.heap.size)) := by show World.grownBy _ _ _; rw [← hX]; exact grown_set3 w13 (V12.heap.size) 0 _ _ _
    have HX : Hid (((w13.setCell ⟨V12.heap.size, 0, none⟩ (.slice a14 2 c14)).setCell ⟨V12.heap.size, 1, none⟩ (.int .i64 n14)).setCell ⟨V12.heap.size, 2, none⟩ (.pointer q14) = X) := hX
    have Hge : Hid (V12.heap.size ≤ V12.heap.size) := Nat.le_refl _
    have HPX : Hid (PbAt X (.agg #[.slice a14 2 c14, .int .i64 n14, .pointer q14]) [(2, 1), (1, 2)] 2) := hPbX
    have HWX : Hid (RowKit.Below V12.heap.size V12 X) := hbX _ _ Hge.out HW.out
    clear hX hPi hBg hPbX hbX e14
    refine wpAnyT_late (i := 7) (o := ⟨none, .store 35 (.tmp 11) (.tmp 83), _, _, _, _⟩) (by kernel_rfl) rfl (by kernel_rfl) (fun Kq hK => ?_)
    go_simp
    rw [HX.out]
    refine hK.out _ _ (HAl.out _ HWX.out) ?_
    clear hK Kq x0 x1 x2 f0 f1 f2
    try simp only [Act.put, List.setIfInBounds_toArray, List.set_cons_zero, List.set_cons_succ]
    refine wpAnyT_late (i := 8) (o := ⟨some 12, .assign (.tmp 84), _, _, _, _⟩) (by kernel_rfl) rfl (by kernel_rfl) (fun Kq hK => ?_)
    go_simp
    refine hK.out _ _ (HAl.out _ HWX.out) ?_
    clear hK Kq
    try simp only [Act.put, List.setIfInBounds_toArray, List.set_cons_zero, List.set_cons_succ]
    refine wpAnyT_done (by kernel_rfl) ?_ _
    obtain ⟨B, hB⟩ : ∃ B, V12.heap.size = B := ⟨_, rfl⟩
    rw [hB] at y0 y1 y2 ⊢
    have HB : Hid (RowKit.Below w.heap.size w X) := HB.out.trans (HWX.out.mono HB.out.size)
    have HY : Hid (X.heap[w10.heap.size]? = some (.cells #[.slice (some ⟨b10, o10, none⟩) 1 c10, .string ⟨#[49]⟩] 24) ∧ X.cell? ⟨b10, o10, none⟩ = some (.string ⟨#[49]⟩) ∧ X.cell? ⟨b10, o10 + 1, none⟩ = some (.int .i64 2) ∧ b10 < X.heap.size) := ⟨(HWX.out.block _ (Array.getElem?_eq_some_iff.1 HY.out.1).1).trans HY.out.1, (HWX.out.cell (p := ⟨b10, _, none⟩) HY.out.2.2.2).trans HY.out.2.1, (HWX.out.cell (p := ⟨b10, _, none⟩) HY.out.2.2.2).trans HY.out.2.2.1, Nat.lt_of_lt_of_le HY.out.2.2.2 HWX.out.size⟩
    clear hB HX HgX Hge HWX HZ HW HP13 hHeld
    go_wp2_with fail
    refine (kp_of _ _ _ X HPX.out (by decide) (fun p hp => by simp at hp; rcases hp with rfl | rfl <;> decide) (by decide) (HT.out.under HB.out)).mono ?_
    rintro e w15 ⟨u15, rfl, hA, hb⟩
    rw [k_txt2]
    have HB : Hid (RowKit.Below w.heap.size w w15) := HB.out.trans (hb.mono HB.out.size)
    have HY : Hid (w15.heap[w10.heap.size]? = some (.cells #[.slice (some ⟨b10, o10, none⟩) 1 c10, .string ⟨#[49]⟩] 24) ∧ w15.cell? ⟨b10, o10, none⟩ = some (.string ⟨#[49]⟩) ∧ w15.cell? ⟨b10, o10 + 1, none⟩ = some (.int .i64 2) ∧ b10 < w15.heap.size) := ⟨(hb.block _ (Array.getElem?_eq_some_iff.1 HY.out.1).1).trans HY.out.1, (hb.cell (p := ⟨b10, _, none⟩) HY.out.2.2.2).trans HY.out.2.1, (hb.cell (p := ⟨b10, _, none⟩) HY.out.2.2.2).trans HY.out.2.2.1, Nat.lt_of_lt_of_le HY.out.2.2.2 hb.size⟩
    obtain ⟨a15, c15, rfl, _, _, hcell⟩ := hA
    obtain ⟨b15, o15, rfl, hl15, g0, g1⟩ := hcell 0 (by decide)
    obtain ⟨_, _, e2, _, g2, g3⟩ := hcell 1 (by decide)
    injection e2 with e2
    injection e2 with e3 e4 _
    subst e3
    subst e4
    clear hb
    obtain ⟨V15, hV15⟩ : ∃ V, w15.alloc (.cells #[.slice (some ⟨b15, o15, none⟩) 2 c15, .string ⟨#[50]⟩] 24) = V := ⟨_, rfl⟩
    obtain ⟨hO, hb⟩ := new_obj w15 _ hV15
    have HB : Hid (RowKit.Below w.heap.size w V15) := HB.out.trans (hb.mono HB.out.size)
    have HY : Hid (V15.heap[w10.heap.size]? = some (.cells #[.slice (some ⟨b10, o10, none⟩) 1 c10, .string ⟨#[49]⟩] 24) ∧ V15.cell? ⟨b10, o10, none⟩ = some (.string ⟨#[49]⟩) ∧ V15.cell? ⟨b10, o10 + 1, none⟩ = some (.int .i64 2) ∧ b10 < V15.heap.size) := ⟨(hb.block _ (Array.getElem?_eq_some_iff.1 HY.out.1).1).trans HY.out.1, (hb.cell (p := ⟨b10, _, none⟩) HY.out.2.2.2).trans HY.out.2.1, (hb.cell (p := ⟨b10, _, none⟩) HY.out.2.2.2).trans HY.out.2.2.1, Nat.lt_of_lt_of_le HY.out.2.2.2 hb.size⟩
    have z0 : V15.cell? ⟨b15, o15, none⟩ = some (.string ⟨#[50]⟩) := (hb.cell (p := ⟨b15, _, none⟩) hl15).trans (by simpa [tells, k_txt2] using g0)
    have z2 : V15.cell? ⟨b15, o15 + 2, none⟩ = some (.string ⟨#[49]⟩) := (hb.cell (p := ⟨b15, _, none⟩) hl15).trans (by simpa [tells, k_txt1] using g2)
    have hl15' : b15 < V15.heap.size := Nat.lt_of_lt_of_le hl15 hb.size
    have HOz : Hid (V15.heap[w15.heap.size]? = some (.cells #[.slice (some ⟨b15, o15, none⟩) 2 c15, .string ⟨#[50]⟩] 24)) := hO
    clear hb hO g0 g1 g2 g3 hcell hl15
    obtain ⟨V16, hV16⟩ : ∃ V, V15.alloc (.cells #[.slice none 0 0, .int .i64 0, .pointer none] 35) = V := ⟨_, rfl⟩
    obtain ⟨hO, hb⟩ := new_obj V15 _ hV16
    have HB : Hid (RowKit.Below w.heap.size w V16) := HB.out.trans (hb.mono HB.out.size)
    have HY : Hid (V16.heap[w10.heap.size]? = some (.cells #[.slice (some ⟨b10, o10, none⟩) 1 c10, .string ⟨#[49]⟩] 24) ∧ V16.cell? ⟨b10, o10, none⟩ = some (.string ⟨#[49]⟩) ∧ V16.cell? ⟨b10, o10 + 1, none⟩ = some (.int .i64 2) ∧ b10 < V16.heap.size) := ⟨(hb.block _ (Array.getElem?_eq_some_iff.1 HY.out.1).1).trans HY.out.1, (hb.cell (p := ⟨b10, _, none⟩) HY.out.2.2.2).trans HY.out.2.1, (hb.cell (p := ⟨b10, _, none⟩) HY.out.2.2.2).trans HY.out.2.2.1, Nat.lt_of_lt_of_le HY.out.2.2.2 hb.size⟩
    have HX0 : Hid (Box0 V16 V15.heap.size) := hO
    have z0' := (hb.cell (p := ⟨b15, _, none⟩) hl15').trans z0
    have z2' := (hb.cell (p := ⟨b15, _, none⟩) hl15').trans z2
    have hOz := (hb.block _ (Array.getElem?_eq_some_iff.1 HOz.out).1).trans HOz.out
    obtain ⟨zz0, zz1, _, _⟩ := box2_facts hOz
    obtain ⟨yy0, yy1, _, _⟩ := box2_facts HY.out.1
    have yc0 := HY.out.2.1
    have yc1 := HY.out.2.2.1
    obtain ⟨t0, t1, t2, _, _, _⟩ := HX0.out.cells
    have eq1 := ap_eql ⟨#[49]⟩ ⟨#[49]⟩ 2 2
    rw [show ((⟨#[49]⟩ : ByteArray).toList == (⟨#[49]⟩ : ByteArray).toList && (2 : Int) == 2) = true by simp] at eq1
    have HKn : Hid (Calls Tryz.prog 26 #[.agg #[.slice none 0 0, .int .i64 0, .pointer none]] V16 fun e w' => ∃ r, e = .returned r ∧ PbAt w' r [] 1 ∧ RowKit.Below V16.heap.size V16 w') := kn_of _ V16 (PbAt.zero _)
    clear hb hO hOz z0 z2 HOz hl15' y0 y1 y2 HPX
    simp only [tells, List.map_cons, List.map_nil, List.length_cons, List.length_nil]
    go_wp2_with (first | (go_at_call 11; refine calls_at (num_any 0 V16) (by with_reducible rfl) (by with_reducible rfl) ?_; rintro e w3' ⟨rfl, hww⟩; rw [hww]) | (go_at_call 26; refine calls_at HKn.out (by with_reducible rfl) (by with_reducible rfl) ?_; rintro e w17 ⟨r17, rfl, hp17, hb17⟩; have HP17 : Hid (PbAt w17 r17 [] 1) := hp17; have HB17 : Hid (RowKit.Below V16.heap.size V16 w17) := hb17; clear hp17 hb17) | (go_at_call 27; refine calls_at (kz_of _ 1 w17 HP17.out) (by with_reducible rfl) (by with_reducible rfl) ?_; rintro e w18 ⟨rfl, hb18⟩; have HB18 : Hid (RowKit.Below V16.heap.size V16 w18) := HB17.out.trans (hb18.mono HB17.out.size); obtain ⟨s0, s1, s2, _, _, _⟩ := ((HX0.out.below HB18.out).cells); clear hb18; rw [show decide ((0 : Int) < 1) = true from rfl]) | (go_at_call 27; refine calls_at (kz_of _ 0 w18 (PbAt.zero _)) (by with_reducible rfl) (by with_reducible rfl) ?_; rintro e w19 ⟨rfl, hb19⟩; rw [show decide ((0 : Int) < 0) = false from rfl]))
    go_ret
    exact ⟨rfl, HB.out.trans ((HB18.out.trans (hb19.mono HB18.out.size)).mono HB.out.size)⟩
end Go.Proofs.YtjffbndiecjkjaaGreatDoor
