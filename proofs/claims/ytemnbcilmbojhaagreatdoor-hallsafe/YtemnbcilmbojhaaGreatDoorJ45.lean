/-
  Put together: HlAny, HlCuts.
-/
import Derived.Test.YtemnbcilmbojhaaGreatDoorJ43
import Derived.Test.YtemnbcilmbojhaaGreatDoorJ34
namespace Go.Proofs.YtemnbcilmbojhaaGreatDoor
open Go.RowKit

def ov (i : Iv) : Bool := decide (i.num < i.n)
theorem ivs_get (L : List Iv) (j : Nat) (hj : j < L.length) (c : Nat) (hc : c < 7) : (ivs L)[j * 7 + c]? = L[j].cells[c]? := by
  induction L generalizing j with
  | nil => exact absurd hj (by simp)
  | cons i L ih =>
    have e : ivs (i :: L) = i.cells ++ ivs L := by simp [ivs]
    rw [e]
    have hl : i.cells.length = 7 := rfl
    cases j with
    | zero =>
      rw [Nat.zero_mul, Nat.zero_add, List.getElem?_append_left (by omega)]
      rfl
    | succ j =>
      rw [List.getElem?_append_right (by omega), hl, show (j + 1) * 7 + c - 7 = j * 7 + c by omega]
      exact ih j (by simpa using hj)
theorem own_ivs {w : World} {B : Nat} {v : Value} {L : List Iv} (h : w.ownsRow B 76 7 v L.length (ivs L)) : ∃ a cap, v = .slice a L.length cap ∧ IvsAt w a L := by
  rcases h.2 with ⟨rfl, hn⟩ | ⟨g, cap, cur, rfl, _, h3, _, _, _, h7⟩
  · exact ⟨none, 0, by rw [hn], fun j hj => by omega⟩
  · refine ⟨_, cap, rfl, fun j hj => ⟨g, 0, rfl, (Array.getElem?_eq_some_iff.1 h3).1, ?_⟩⟩
    have get : ∀ c v, c < 7 → L[j].cells[c]? = some v → w.cell? ⟨g, 0 + j * 7 + c, none⟩ = some v := fun c v hc hk => by
      rw [cell_of h3, Nat.zero_add]
      have := ivs_get L j hj c hc
      rw [hk, ← h7, List.getElem?_take, if_pos (by omega)] at this
      simpa using this
    exact ⟨get 0 _ (by decide) rfl, get 1 _ (by decide) rfl, get 2 _ (by decide) rfl, get 3 _ (by decide) rfl, get 4 _ (by decide) rfl, get 5 _ (by decide) rfl, get 6 _ (by decide) rfl⟩
theorem IvsAt.below {w w' : World} {a : Option Addr} {L : List Iv} (h : IvsAt w a L) (hb : Below w.heap.size w w') : IvsAt w' a L := fun j hj => by
  obtain ⟨b, off, e, hlt, hI⟩ := h j hj
  exact ⟨b, off, e, Nat.lt_of_lt_of_le hlt hb.size, hI.mono (hb.block b hlt)⟩
theorem any_take {L : List Iv} {k : Nat} (hk : k < L.length) : (L.take (k + 1)).any ov = ((L.take k).any ov || ov L[k]) := by
  rw [List.take_succ_eq_append_getElem hk, List.any_append]
  simp
def IxOut (L : List Iv) (w : World) (e : Ending) (w' : World) : Prop := ∃ r : Int, e = .returned (.int .i64 r) ∧ decide (0 ≤ r) = L.any ov ∧ Below w.heap.size w w'
set_option maxRecDepth 10000 in
set_option maxHeartbeats 1000000 in
theorem index_any (a : Option Addr) (cap : Nat) (L : List Iv) (w : World) (hL : IvsAt w a L) (hok : ∀ i ∈ L, i.Ok) (hl : L.length ≤ 1000000) : Calls Tryz.prog 51 #[.slice a L.length cap, .func (.func 29) #[] #[]] w (IxOut L w) := by
  have HL : Hid (∀ w', Below w.heap.size w w' → ∀ j (h : j < L.length), ∃ b off, a = some ⟨b, off, none⟩ ∧ IvAt w' b (off + j * 7) L[j]) := fun w' hb j hj => by
    obtain ⟨b, off, e, hlt, hI⟩ := hL j hj
    exact ⟨b, off, e, hI.mono (hb.block b hlt)⟩
  have Hok : Hid (∀ j (h : j < L.length), L[j].Ok) := fun j hj => hok _ (List.getElem_mem hj)
  clear hL hok
  go_enter Tryz.func51, Tryz.ntmps51
  go_wp2_with fail
  go_loopw [8] (fun iv wr => ∃ (k : Nat), iv = .int .i64 (k : Int) ∧ k ≤ L.length ∧ Hid ((L.take k).any ov = false) ∧ Hid (Below w.heap.size w wr)) (fun iv _ => L.length - (intOf iv).toNat)
  case atStart => exact ⟨0, rfl, Nat.zero_le _, rfl, Below.refl _ _⟩
  case round =>
  obtain ⟨k, rfl, hk, HA, HB⟩ := hrel
  by_cases hkn : k < L.length
  case neg =>
    have hke : k = L.length := by omega
    subst hke
    have hkI : ¬ (L.length : Int) < (L.length : Int) := by omega
    go_wp2_with fail
    go_ret
    refine ⟨-1, rfl, ?_, HB.out⟩
    have := HA.out
    rw [List.take_length] at this
    rw [this]
    rfl
  case pos =>
  have hkI : (k : Int) < (L.length : Int) := by omega
  obtain ⟨b, off, rfl, hI⟩ := HL.out wr HB.out k hkn
  have HN : Hid ((L.take (k + 1)).any ov = ((L.take k).any ov || ov L[k])) := any_take hkn
  have HM : Hid (ov L[k] = true → L.any ov = true) := fun h => List.any_eq_true.2 ⟨_, List.getElem_mem hkn, h⟩
  have hC := isOver_any L[k] (Hok.out k hkn) wr
  obtain ⟨i, hi⟩ : ∃ i, L[k] = i := ⟨_, rfl⟩
  rw [hi] at hI HN hC HM
  clear hi
  obtain ⟨q0, q1, q2, q3, q4, q5, q6⟩ := hI
  obtain ⟨r, hr⟩ : ∃ r, ov i = r := ⟨_, rfl⟩
  rw [hr] at HN HM
  have HC : Hid (Calls Tryz.prog 29 #[.agg #[.int .i64 i.lo, .int .i64 i.hi, .int .u8 (wd i.f 0 : Int), .int .u8 (wd i.f 1 : Int), .int .u8 (wd i.f 2 : Int), .int .u8 (wd i.f 3 : Int), .int .i64 i.n]] wr fun e w' => e = .returned (.bool r) ∧ Below wr.heap.size wr w') := by rw [← hr]; exact hC
  clear hC hr
  cases r with
  | true =>
    go_wp2_with (go_at_call 29; refine calls_at HC.out (by with_reducible rfl) (by with_reducible rfl) ?_; rintro e w4 ⟨rfl, hb4⟩)
    go_ret
    refine ⟨_, rfl, ?_, bl_next HB.out hb4⟩
    rw [HM.out (by trivial)]
    exact decide_eq_true (by omega)
  | false =>
    go_wp2_with (go_at_call 29; refine calls_at HC.out (by with_reducible rfl) (by with_reducible rfl) ?_; rintro e w4 ⟨rfl, hb4⟩)
    go_roundw
    case rel => exact ⟨k + 1, by go_num, hkn, (by show _ = _; rw [HN.out, HA.out]; rfl), bl_next HB.out hb4⟩
    case measure => simp [intOf]; omega
set_option maxRecDepth 10000 in
set_option maxHeartbeats 1000000 in
theorem contains_any (a : Option Addr) (cap : Nat) (L : List Iv) (w : World) (hL : IvsAt w a L) (hok : ∀ i ∈ L, i.Ok) (hl : L.length ≤ 1000000) : Calls Tryz.prog 28 #[.slice a L.length cap, .func (.func 29) #[] #[]] w fun e w' => e = .returned (.bool (L.any ov)) ∧ Below w.heap.size w w' := by
  have HC : Hid (Calls Tryz.prog 51 #[.slice a L.length cap, .func (.func 29) #[] #[]] w (IxOut L w)) := index_any a cap L w hL hok hl
  clear hL hok
  go_enter Tryz.func28, Tryz.ntmps28
  go_wp2_with (go_at_call 51; refine calls_at HC.out (by with_reducible rfl) (by with_reducible rfl) ?_; intro e w4 hh; (obtain ⟨r, h1, h2, h3⟩ := hh); subst h1)
  go_ret
  exact ⟨by rw [← h2]; rfl, h3⟩
end Go.Proofs.YtemnbcilmbojhaaGreatDoor

namespace Go.Proofs.YtemnbcilmbojhaaGreatDoor
open Go.RowKit

def hcG (D : List Dm) (xs : List Int) : List Gr := grL D (plP D.length xs) 32
def dmAt (D : List Dm) (x : Nat) : Dm := D.getD x ⟨0, 0, 0⟩
def hcZ (D : List Dm) (xs : List Int) (L : List Iv) : List Cz := (hcG D xs).flatMap fun g => czL (plP D.length xs) g L (dmAt D g.x).all
theorem plP_in {n : Nat} {xs : List Int} {y : Int} (h : y ∈ plP n xs) : 0 ≤ y ∧ y < (n : Int) := by
  have := (List.mem_filter.1 h).2
  unfold isP at this
  simp at this
  exact this
theorem plP_len (n : Nat) (xs : List Int) : (plP n xs).length ≤ xs.length := List.length_filter_le _ _
theorem grL_mem {D : List Dm} {P : List Int} {k : Nat} {g : Gr} (h : g ∈ grL D P k) : g.x < k ∧ 0 < cntP P g.x ∧ g = ⟨(dmAt D g.x).lo, (dmAt D g.x).hi, g.x, (cntP P g.x : Int)⟩ := by
  induction k with
  | zero => exact absurd h (by simp [grL])
  | succ k ih =>
    unfold grL at h
    rcases List.mem_append.1 h with h | h
    · have := ih h
      exact ⟨by omega, this.2⟩
    · unfold gr1 at h
      split at h
      · rw [List.mem_singleton.1 h]
        exact ⟨Nat.lt_succ_self _, by assumption, rfl⟩
      · exact absurd h (by simp)
theorem cntP_pos {P : List Int} {x : Nat} (h : 0 < cntP P x) : (x : Int) ∈ P := by
  unfold cntP at h
  obtain ⟨y, hy, e⟩ := List.countP_pos_iff.1 h
  rw [← of_decide_eq_true e]
  exact hy
theorem hcG_mem {D : List Dm} {xs : List Int} {g : Gr} (h : g ∈ hcG D xs) : g.x < 32 ∧ g.x < D.length ∧ g.lo = (dmAt D g.x).lo ∧ g.hi = (dmAt D g.x).hi ∧ g.n = (cntP (plP D.length xs) g.x : Int) ∧ 0 < cntP (plP D.length xs) g.x := by
  obtain ⟨h1, h2, h3⟩ := grL_mem h
  have := plP_in (cntP_pos h2)
  refine ⟨h1, by omega, ?_, ?_, ?_, h2⟩
  · exact congrArg Gr.lo h3
  · exact congrArg Gr.hi h3
  · exact congrArg Gr.n h3
theorem dmAt_mem {D : List Dm} {x : Nat} (h : x < D.length) : dmAt D x ∈ D := by
  unfold dmAt
  rw [List.getD_eq_getElem?_getD, List.getElem?_eq_getElem h]
  exact List.getElem_mem h
theorem hcG_ok {D : List Dm} {xs : List Int} (hD : ∀ d ∈ D, d.Ok) (hl : xs.length ≤ 1000000) : ∀ g ∈ hcG D xs, g.Ok := fun g h => by
  obtain ⟨h1, h2, h3, h4, h5, h6⟩ := hcG_mem h
  have hd := hD _ (dmAt_mem h2)
  have a1 := Dm.lo_in hd
  have a2 := Dm.hi_in hd
  have a3 := cntP_le (plP D.length xs) g.x
  have a4 := plP_len D.length xs
  refine ⟨?_, ?_, ?_, ?_, h1, ?_, ?_⟩
  · rw [h3]; omega
  · rw [h3]; omega
  · rw [h4]; omega
  · rw [h4]; omega
  · rw [h5]; omega
  · rw [h5]; omega
theorem hcG_len (D : List Dm) (xs : List Int) : (hcG D xs).length ≤ 32 := grL_len _ _ _
theorem flat_lenG {β : Type} (n : Nat) (f : Gr → List β) (h : ∀ a, (f a).length ≤ n) : ∀ l : List Gr, (l.flatMap f).length ≤ l.length * n
  | [] => by simp
  | a :: l => by
    rw [List.flatMap_cons, List.length_append, List.length_cons, Nat.add_mul, Nat.one_mul]
    have := flat_lenG n f h l
    have := h a
    omega
theorem crL_ok {Gs G : List Gr} (hG : ∀ g ∈ G, g.Ok) (hs : ∀ g ∈ Gs, g.Ok) (hl : Gs.length ≤ 32) : ∀ i ∈ crL Gs G, i.Ok := fun i hi => by
  unfold crL at hi
  rw [List.mem_flatMap] at hi
  obtain ⟨a, ha, hi⟩ := hi
  obtain ⟨g, hg, e⟩ := stL_sub ha
  rw [← e] at hi
  exact cfL_ok (hG g hg).l1 (hG g hg).l2 hs hl i hi
theorem crL_len {Gs G : List Gr} (hl : Gs.length ≤ 32) (hg : G.length ≤ 32) : (crL Gs G).length ≤ 1024 := by
  unfold crL
  refine Nat.le_trans (flat_len 32 _ (fun a => Nat.le_trans (cfL_len a Gs) hl) _) ?_
  exact Nat.mul_le_mul_right 32 (Nat.le_trans (stL_len G) hg)
/-- What Cuts answers. -/
def HcOut (D : List Dm) (xs : List Int) (w : World) (e : Ending) (w' : World) : Prop := ∃ Gs, Gs.Perm (hcG D xs) ∧ Gs.Pairwise (fun a b => a.hi ≤ b.hi) ∧ Below w.heap.size w w' ∧
  (((crL Gs (hcG D xs)).any ov = true ∧ e = .returned (.tuple #[.slice none 0 0, .bool false])) ∨ ((crL Gs (hcG D xs)).any ov = false ∧ ∃ v us, e = .returned (.tuple #[v, .bool true]) ∧ CzAt w' w.heap.size v (hcZ D xs (crL Gs (hcG D xs))) us))
theorem CzAt.src {w : World} {B : Nat} {v : Value} {Z : List Cz} {us : List Value} (h : CzAt w B v Z us) (hu : ∀ u ∈ us, u.oneCell' = true) : SrcAt w v Z.length 7 (czs Z us) := by
  have h1 : ∀ u ∈ czs Z us, u.oneCell' = true := by
    intro u hm
    unfold czs at hm
    rw [List.mem_flatMap] at hm
    obtain ⟨⟨z, u'⟩, hz, hm⟩ := hm
    have hu' := hu u' (List.of_mem_zip hz).2
    simp only [Cz.cells, List.mem_cons, List.not_mem_nil, or_false] at hm
    rcases hm with rfl | rfl | rfl | rfl | rfl | rfl | rfl <;> first | rfl | exact hu'
  have hl : (czs Z us).length = Z.length * 7 := h.row.1
  rcases h.row.2 with ⟨rfl, hn⟩ | ⟨g, cap, cur, rfl, _, e3, _, _, _, e7⟩
  · exact ⟨none, 0, by rw [hn], hl, h1, (fun _ => hn), fun ad ha => by cases ha⟩
  · refine ⟨_, cap, rfl, hl, h1, (fun hn => by cases hn), fun ad ha j u hj => ?_⟩
    injection ha with ha
    subst ha
    rw [add_none, Nat.zero_add, cell_of e3]
    have hj2 : j < Z.length * 7 := by
      have := (List.getElem?_eq_some_iff.1 hj).1
      omega
    have : (cur.toList.take (Z.length * 7))[j]? = some u := by rw [e7]; exact hj
    rw [List.getElem?_take, if_pos hj2] at this
    simpa using this
theorem CzAt.one {w : World} {B : Nat} {v : Value} {Z : List Cz} {us : List Value} (h : CzAt w B v Z us) : ∀ u ∈ us, u.oneCell' = true := fun u hu => by
  obtain ⟨j, hj, rfl⟩ := List.mem_iff_getElem.1 hu
  obtain ⟨a, c, e⟩ := own_slice (h.each j hj (by rw [← h.len]; exact hj))
  rw [e]
  rfl
set_option maxRecDepth 10000 in
set_option maxHeartbeats 4000000 in
theorem cutsH_any (xa : Option Addr) (xc : Nat) (xs : List Int) (B p : Nat) (nv mv : Value) (s : St) (w : World) (hX : IntsAt w (.slice xa xs.length xc) xs) (hxl : xs.length ≤ 1000000) (hS : StAt B w p nv mv s) (hT : Tz w) (hs : 0 < w.heap.size) (hF : ∀ d ∈ s.now, d.Fine) (h64 : ∀ d ∈ s.now, d.hi - d.lo < 64) : Calls Tryz.prog 9 #[.slice xa xs.length xc, .pointer (some ⟨p, 0, none⟩)] w (HcOut s.now xs w) := by
  have HPl : Hid (Calls Tryz.prog 26 #[.slice xa xs.length xc, .pointer (some ⟨p, 0, none⟩)] w (PlOut s.now xs w)) := places_any xa xc xs B p nv mv s w hX hxl hS hT hs
  have HVs : Hid (∀ (x : Nat) w', x < s.now.length → Below w.heap.size w w' → Calls Tryz.prog 31 #[.pointer (some ⟨p, 0, none⟩), .int .i64 (x : Int)] w' (VsOut (dmAt s.now x).all w')) := fun x w' hx hb => by
    have := values_in B p nv mv s x hx w' (hS.below hb) (hT.below hb hs)
    unfold dmAt
    rw [List.getD_eq_getElem?_getD, List.getElem?_eq_getElem hx]
    exact this
  have HGo : Hid (∀ g ∈ hcG s.now xs, g.Ok) := hcG_ok hS.good hxl
  have HGv : Hid (∀ g ∈ hcG s.now xs, g.hi - g.lo < 64 ∧ g.x < s.now.length ∧ ∀ v ∈ (dmAt s.now g.x).all, g.lo ≤ v ∧ v ≤ g.hi) := fun g hg => by
    obtain ⟨_, h2, h3, h4, _⟩ := hcG_mem hg
    have hm := dmAt_mem h2
    have hf := hF _ hm
    refine ⟨by rw [h3, h4]; exact h64 _ hm, h2, fun v hv => ?_⟩
    have := (hf.all v).1 hv
    rw [h3, h4]
    exact ⟨hf.least v this, hf.most v this⟩
  have HPi : Hid (∀ y ∈ plP s.now.length xs, 0 ≤ y ∧ y < 32) := fun y hy => by
    have := plP_in hy
    have := hS.n32
    omega
  have HPn : Hid ((plP s.now.length xs).length ≤ 1000000) := Nat.le_trans (plP_len _ _) hxl
  have HGl : Hid ((hcG s.now xs).length ≤ 32) := hcG_len _ _
  obtain ⟨D, hD⟩ : ∃ D, s.now = D := ⟨_, rfl⟩
  rw [hD] at HPl HVs HGo HGv HPi HPn HGl ⊢
  have HOut : Hid (∀ Gs e w', Gs.Perm (hcG D xs) → Gs.Pairwise (fun a b => a.hi ≤ b.hi) → Below w.heap.size w w' → (((crL Gs (hcG D xs)).any ov = true ∧ e = .returned (.tuple #[.slice none 0 0, .bool false])) ∨ ((crL Gs (hcG D xs)).any ov = false ∧ ∃ v us, e = .returned (.tuple #[v, .bool true]) ∧ CzAt w' w.heap.size v (hcZ D xs (crL Gs (hcG D xs))) us)) → HcOut D xs w e w') := fun Gs e w' h1 h2 h3 h4 => ⟨Gs, h1, h2, h3, h4⟩
  have HZe : Hid (∀ L, hcZ D xs L = (hcG D xs).flatMap fun g => czL (plP D.length xs) g L (dmAt D g.x).all) := fun L => rfl
  unfold PlOut at HPl
  rw [show grL D (plP D.length xs) 32 = hcG D xs from rfl] at HPl
  clear hX hS hT hF h64 hD
  obtain ⟨P, hP⟩ : ∃ P, plP D.length xs = P := ⟨_, rfl⟩
  obtain ⟨G, hG⟩ : ∃ G, hcG D xs = G := ⟨_, rfl⟩
  rw [hP] at HPl HPi HPn HZe
  rw [hG] at HPl HGo HGv HGl HOut HZe
  clear hP hG
  go_enter Tryz.func9, Tryz.ntmps9
  go_upto_region 2 with (first | (go_at_call 26; refine calls_at HPl.out (by with_reducible rfl) (by with_reducible rfl) ?_; intro e w1 hh; (obtain ⟨pv, gv, h1, h2, h3, h4⟩ := hh); subst h1; (obtain ⟨pa, pc, e1⟩ := own_slice h2); (obtain ⟨ga, gc, e2⟩ := own_slice h3); subst e1; subst e2; (have HO1 : Hid _ := h2); (have HO2 : Hid _ := h3); (have HB1 : Hid _ := h4); clear h2 h3 h4))
  obtain ⟨V, hV⟩ : ∃ V, w1.alloc (.cells #[.slice pa P.length pc, .slice ga G.length gc] 66) = V := ⟨_, rfl⟩
  have hbV : Below w1.heap.size w1 V := by rw [← hV]; exact (Below.refl _ _).alloc (Nat.le_refl _) _
  have gV : V.heap[w1.heap.size]? = some (.cells #[.slice pa P.length pc, .slice ga G.length gc] 66 (0, 0)) := by rw [← hV]; exact heap_alloc_new w1 _
  have HgV : Hid (V.heap[w1.heap.size]? = some (.cells #[.slice pa P.length pc, .slice ga G.length gc] 66 (0, 0))) := gV
  have HO3 : Hid (V.ownsRow w.heap.size 79 4 (.slice ga G.length gc) G.length (grs G)) := own_bl HO2.out hbV
  have HO4 : Hid (V.ownsRow w.heap.size 3 1 (.slice pa P.length pc) P.length (P.map (.int .i64))) := own_bl HO1.out hbV
  have HBV : Hid (Below w.heap.size w V) := bl_next HB1.out hbV
  try rw [hV]
  have z0 := cell_of gV 0
  have z1 := cell_of gV 1
  clear hV hbV gV HO1 HO2 HB1 HPl
  have HCr : Hid (Calls Tryz.prog 27 #[.agg #[.slice pa P.length pc, .slice ga G.length gc]] V (CrOut G V)) := crowd_any _ w.heap.size ga gc G V HO3.out HGo.out HGl.out
  go_upto_region 3 with (first | (go_at_call 27; refine calls_at HCr.out (by with_reducible rfl) (by with_reducible rfl) ?_; intro e w2 hh; (obtain ⟨Gs, lv, h1, h2, h3, h4, h5⟩ := hh); subst h3; (obtain ⟨la, lc, e1⟩ := own_slice h4); subst e1; (have HPe : Hid _ := h1); (have HPa : Hid _ := h2); (have HLo : Hid _ := h4); (have HB2 : Hid _ := h5); clear h1 h2 h4 h5))
  clear z0 z1 HCr
  have HGso : Hid (∀ g ∈ Gs, g.Ok) := fun g hg => HGo.out g (HPe.out.mem_iff.1 hg)
  have HLok : Hid (∀ i ∈ crL Gs G, i.Ok) := crL_ok HGo.out HGso.out (by rw [HPe.out.length_eq]; exact HGl.out)
  have hLl : (crL Gs G).length ≤ 1024 := crL_len (by rw [HPe.out.length_eq]; exact HGl.out) HGl.out
  have HOu2 : Hid (∀ e w', Below w.heap.size w w' → (((crL Gs G).any ov = true ∧ e = .returned (.tuple #[.slice none 0 0, .bool false])) ∨ ((crL Gs G).any ov = false ∧ ∃ v us, e = .returned (.tuple #[v, .bool true]) ∧ CzAt w' w.heap.size v (hcZ D xs (crL Gs G)) us)) → HcOut D xs w e w') := fun e w' h1 h2 => HOut.out Gs e w' HPe.out HPa.out h1 h2
  obtain ⟨L, hL⟩ : ∃ L, crL Gs G = L := ⟨_, rfl⟩
  rw [hL] at HLo HLok hLl HOu2 ⊢
  clear hL HOut HPe HPa
  have HIv : Hid (IvsAt w2 la L) := by
    obtain ⟨a, c, e, h⟩ := own_ivs HLo.out
    injection e with e1 _ _
    subst e1
    exact h
  have HCo : Hid (Calls Tryz.prog 28 #[.slice la L.length lc, .func (.func 29) #[] #[]] w2 fun e w' => e = .returned (.bool (L.any ov)) ∧ Below w2.heap.size w2 w') := contains_any la lc L w2 HIv.out HLok.out (by omega)
  obtain ⟨r, hr⟩ : ∃ r, L.any ov = r := ⟨_, rfl⟩
  rw [hr] at HOu2 HCo
  clear hr
  have HBw2 : Hid (Below w.heap.size w w2) := bl_next HBV.out HB2.out
  cases r with
  | true =>
    go_wp2_with (go_at_call 28; refine calls_at HCo.out (by with_reducible rfl) (by with_reducible rfl) ?_; rintro e w3 ⟨rfl, hb3⟩)
    go_ret2
    exact HOu2.out _ _ (bl_next HBw2.out hb3) (.inl ⟨by trivial, rfl⟩)
  | false =>
    go_upto_region 5 with (go_at_call 28; refine calls_at HCo.out (by with_reducible rfl) (by with_reducible rfl) ?_; rintro e w3 ⟨rfl, hb3⟩)
    have HB3 : Hid (Below w.heap.size w w3) := bl_next HBw2.out hb3
    have HB3V : Hid (Below V.heap.size V w3) := HB2.out.trans (hb3.mono HB2.out.size)
    have HIv3 : Hid (∀ w', Below w3.heap.size w3 w' → IvsAt w' la L) := fun w' hb => (HIv.out.below hb3).below hb
    have HgV3 : Hid (∀ w', Below w3.heap.size w3 w' → w'.heap[w1.heap.size]? = some (.cells #[.slice pa P.length pc, .slice ga G.length gc] 66 (0, 0))) := fun w' hb => ((HB3V.out.trans (hb.mono HB3V.out.size)).block _ (Array.getElem?_eq_some_iff.1 HgV.out).1).trans HgV.out
    have HP3 : Hid (∀ w', Below w3.heap.size w3 w' → IntsAt w' (.slice pa P.length pc) P) := fun w' hb => own_ints (own_bl HO4.out (HB3V.out.trans (hb.mono HB3V.out.size))) (by unfold maxLen; have := HPn.out; omega)
    have HG3 : Hid (∀ w', Below w3.heap.size w3 w' → ∀ k (hk : k < G.length), ∃ b off, ga = some ⟨b, off, none⟩ ∧ GrAt w' b (off + k * 4) G[k]) := fun w' hb k hk => by
      obtain ⟨a, c, e, h⟩ := own_grs (own_bl HO3.out (HB3V.out.trans (hb.mono HB3V.out.size)))
      injection e with e1 _ _
      subst e1
      obtain ⟨b, off, e2, _, h2⟩ := h k hk
      exact ⟨b, off, e2, h2⟩
    have hz := HgV3.out w3 (Below.refl _ _)
    have z1 := cell_of hz 1
    clear hz hb3 HB2 HIv HgV HO3 HO4 HBV HBw2 HB3V HLo HCo
    go_wp2_with fail
    clear z1
    go_loopw [8, 21] (fun sv iv wr => ∃ (k : Nat) (us : List Value), iv = .int .i64 (k : Int) ∧ k ≤ G.length ∧ Hid (CzAt wr w3.heap.size sv ((G.take k).flatMap fun g => czL P g L (dmAt D g.x).all) us) ∧ Hid (Below w3.heap.size w3 wr)) (fun _ iv _ => G.length - (intOf iv).toNat)
    case atStart => exact ⟨0, [], rfl, Nat.zero_le _, ⟨rfl, World.ownsRow_nil _ _ _ _, fun j h1 h2 => absurd h1 (by simp)⟩, Below.refl _ _⟩
    case round =>
    obtain ⟨k, us, rfl, hk, HZ, HBr⟩ := hrel
    obtain ⟨oa, oc, rfl⟩ := own_slice HZ.out.row
    by_cases hkn : k < G.length
    case neg =>
      have hke : k = G.length := by omega
      subst hke
      have hkI : ¬ (G.length : Int) < (G.length : Int) := by omega
      obtain ⟨Z, hZ⟩ : ∃ Z, (G.take G.length).flatMap (fun g => czL P g L (dmAt D g.x).all) = Z := ⟨_, rfl⟩
      rw [hZ] at HZ ⊢
      have HZ2 : Hid (hcZ D xs L = Z) := by show _ = _; rw [HZe.out, ← hZ, List.take_length]
      clear hZ
      go_wp2_with fail
      go_ret2
      refine HOu2.out _ _ (bl_next HB3.out HBr.out) (.inr ⟨by trivial, _, us, rfl, ?_⟩)
      rw [HZ2.out]
      exact HZ.out.base HB3.out.size
    case pos =>
    have hkI : (k : Int) < (G.length : Int) := by omega
    obtain ⟨b, off, rfl, hgr⟩ := HG3.out wr HBr.out k hkn
    have HN : Hid ((G.take (k + 1)).flatMap (fun g => czL P g L (dmAt D g.x).all) = (G.take k).flatMap (fun g => czL P g L (dmAt D g.x).all) ++ czL P G[k] L (dmAt D G[k].x).all) := by
      show _ = _
      rw [List.take_succ_eq_append_getElem hkn, List.flatMap_append]
      simp
    have hfl : ((G.take k).flatMap fun g => czL P g L (dmAt D g.x).all).length ≤ 32 * 96 := by
      refine Nat.le_trans (flat_lenG 96 _ (fun g => Nat.le_trans (czL_len P g L _) (dAll_len _)) _) ?_
      exact Nat.mul_le_mul_right 96 (Nat.le_trans (List.length_take_le _ _) (Nat.le_trans hk HGl.out))
    have HGk := HGo.out _ (List.getElem_mem hkn)
    have HGw := HGv.out _ (List.getElem_mem hkn)
    obtain ⟨g, hgk⟩ : ∃ g, G[k] = g := ⟨_, rfl⟩
    rw [hgk] at hgr HN HGk HGw
    clear hgk
    obtain ⟨q0, q1, q2, q3⟩ := hgr
    have HGk2 : Hid g.Ok := HGk
    have HGw2 : Hid (g.hi - g.lo < 64 ∧ g.x < D.length ∧ ∀ v ∈ (dmAt D g.x).all, g.lo ≤ v ∧ v ≤ g.hi) := HGw
    have HVl : Hid ((dmAt D g.x).all.length ≤ 96) := dAll_len _
    have HVx : Hid (∀ w', Below w.heap.size w w' → Calls Tryz.prog 31 #[.pointer (some ⟨p, 0, none⟩), .int .i64 (g.x : Int)] w' (VsOut (dmAt D g.x).all w')) := fun w' hb => HVs.out g.x w' HGw.2.1 hb
    have hcl : (czL P g L (dmAt D g.x).all).length ≤ 96 := Nat.le_trans (czL_len P g L _) (dAll_len _)
    clear HGk HGw
    obtain ⟨vs, hvs⟩ : ∃ vs, (dmAt D g.x).all = vs := ⟨_, rfl⟩
    rw [hvs] at HN HGw2 HVl HVx hcl
    clear hvs
    obtain ⟨Z, hZ⟩ : ∃ Z, (G.take k).flatMap (fun g => czL P g L (dmAt D g.x).all) = Z := ⟨_, rfl⟩
    rw [hZ] at HZ HN hfl ⊢
    clear hZ
    obtain ⟨Z2, hZ2⟩ : ∃ Z2, czL P g L vs = Z2 := ⟨_, rfl⟩
    have HZ2 : Hid (czL P g L vs = Z2) := hZ2
    rw [hZ2] at HN hcl
    clear hZ2
    obtain ⟨X, hX⟩ : ∃ X, wr.alloc (.cells #[.int .i64 g.lo, .int .i64 g.hi, .int .i64 (g.x : Int), .int .i64 g.n] 79) = X := ⟨_, rfl⟩
    have hbX : Below wr.heap.size wr X := by rw [← hX]; exact (Below.refl _ _).alloc (Nat.le_refl _) _
    have gX : X.heap[wr.heap.size]? = some (.cells #[.int .i64 g.lo, .int .i64 g.hi, .int .i64 (g.x : Int), .int .i64 g.n] 79 (0, 0)) := by rw [← hX]; exact heap_alloc_new wr _
    have HgX : Hid (X.heap[wr.heap.size]? = some (.cells #[.int .i64 g.lo, .int .i64 g.hi, .int .i64 (g.x : Int), .int .i64 g.n] 79 (0, 0))) := gX
    have HBX : Hid (Below w3.heap.size w3 X) := bl_next HBr.out hbX
    have HZX : Hid (CzAt X w3.heap.size (.slice oa Z.length oc) Z us) := HZ.out.below hbX
    have HHeld : Hid (∀ w', Below X.heap.size X w' → (w'.cell? ⟨w1.heap.size, 0, none⟩ = some (.slice pa P.length pc) ∧ w'.cell? ⟨w1.heap.size, 1, none⟩ = some (.slice (some ⟨b, off, none⟩) G.length gc)) ∧ w'.cell? ⟨wr.heap.size, 0, none⟩ = some (.int .i64 g.lo) ∧ w'.cell? ⟨wr.heap.size, 1, none⟩ = some (.int .i64 g.hi) ∧ w'.cell? ⟨wr.heap.size, 2, none⟩ = some (.int .i64 (g.x : Int)) ∧ w'.cell? ⟨wr.heap.size, 3, none⟩ = some (.int .i64 g.n)) := fun w' hb => by
      have y0 := HgV3.out w' (bl_next HBX.out hb)
      have y1 := (hb.block _ (Array.getElem?_eq_some_iff.1 gX).1).trans gX
      exact ⟨⟨cell_of y0 0, cell_of y0 1⟩, cell_of y1 0, cell_of y1 1, cell_of y1 2, cell_of y1 3⟩
    have HCz : Hid (∀ (va : Option Addr) (vc : Nat) w', Below w3.heap.size w3 w' → IntsAt w' (.slice va vs.length vc) vs → Calls Tryz.prog 30 #[.agg #[.slice pa P.length pc, .slice (some ⟨b, off, none⟩) G.length gc], .agg #[.int .i64 g.lo, .int .i64 g.hi, .int .i64 (g.x : Int), .int .i64 g.n], .slice va vs.length vc, .slice la L.length lc] w' (CzOut Z2 w')) := fun va vc w' hb hi => by
      have := cutZ_any pa pc P (.slice (some ⟨b, off, none⟩) G.length gc) g va vc vs la lc L w' (HP3.out w' hb) HPi.out HPn.out HGk2.out HGw2.out.1 hi HGw2.out.2.2 (by have := HVl.out; omega) (HIv3.out w' hb) HLok.out (by omega)
      rw [HZ2.out] at this
      exact this
    go_upto_region 9 with fail
    try rw [hX]
    clear hX hbX gX q0 q1 q2 q3 HZ
    have HBd : Hid (Below X.heap.size X X.drew) := (Below.refl _ _).drew
    refine wp_region_T (fun w' => (w'.cell? ⟨w1.heap.size, 0, none⟩ = some (.slice pa P.length pc) ∧ w'.cell? ⟨w1.heap.size, 1, none⟩ = some (.slice (some ⟨b, off, none⟩) G.length gc)) ∧ w'.cell? ⟨wr.heap.size, 0, none⟩ = some (.int .i64 g.lo) ∧ w'.cell? ⟨wr.heap.size, 1, none⟩ = some (.int .i64 g.hi) ∧ w'.cell? ⟨wr.heap.size, 2, none⟩ = some (.int .i64 (g.x : Int)) ∧ w'.cell? ⟨wr.heap.size, 3, none⟩ = some (.int .i64 g.n)) (fun _ => True) [9, 10] (by kernel_rfl) ⟨HHeld.out _ HBd.out, trivial⟩ (fun hHeld => ?_)
    generalize X.drew = U at HBd hHeld ⊢
    refine wpAnyT_takeB (i := 0) (oi := ⟨some 25, .move (.tmp 8), _, _, _, _⟩) (v := ?vR9c1x0) rfl (by kernel_rfl) (by kernel_rfl) (by kernel_rfl) (by kernel_rfl) (fun _ _ _ h => h) (Or.inl ⟨by rfl, ?hyR9c1x0⟩) (by assumption) ?restR9c1x0
    case hyR9c1x0 => (intro w hSw; (try dsimp only at hSw); go_simp; try (with_reducible rfl))
    try simp only [Act.put, List.setIfInBounds_toArray, List.set_cons_zero, List.set_cons_succ]
    refine wpAnyT_takeB (i := 1) (oi := ⟨some 26, .load 66 (.tmp 6), _, _, _, _⟩) (v := ?vR9c1x1) rfl (by kernel_rfl) (by kernel_rfl) (by kernel_rfl) (by kernel_rfl) (fun _ _ _ h => h) (Or.inl ⟨by rfl, ?hyR9c1x1⟩) (by assumption) ?restR9c1x1
    case hyR9c1x1 => (intro w hSw; (try dsimp only at hSw); go_simp; try (with_reducible rfl))
    try simp only [Act.put, List.setIfInBounds_toArray, List.set_cons_zero, List.set_cons_succ]
    refine wpAnyT_takeB (i := 2) (oi := ⟨some 27, .load 79 (.tmp 10), _, _, _, _⟩) (v := ?vR9c1x2) rfl (by kernel_rfl) (by kernel_rfl) (by kernel_rfl) (by kernel_rfl) (fun _ _ _ h => h) (Or.inl ⟨by rfl, ?hyR9c1x2⟩) (by assumption) ?restR9c1x2
    case hyR9c1x2 => (intro w hSw; (try dsimp only at hSw); go_simp; try (with_reducible rfl))
    try simp only [Act.put, List.setIfInBounds_toArray, List.set_cons_zero, List.set_cons_succ]
    refine wpAnyT_takeB (i := 3) (oi := ⟨some 28, .move (.tmp 1), _, _, _, _⟩) (v := ?vR9c1x3) rfl (by kernel_rfl) (by kernel_rfl) (by kernel_rfl) (by kernel_rfl) (fun _ _ _ h => h) (Or.inl ⟨by rfl, ?hyR9c1x3⟩) (by assumption) ?restR9c1x3
    case hyR9c1x3 => (intro w hSw; (try dsimp only at hSw); go_simp; try (with_reducible rfl))
    try simp only [Act.put, List.setIfInBounds_toArray, List.set_cons_zero, List.set_cons_succ]
    refine wpAnyT_takeB (i := 4) (oi := ⟨some 29, .fieldAddr 79 (.tmp 10) 1, _, _, _, _⟩) (v := ?vR9c1x4) rfl (by kernel_rfl) (by kernel_rfl) (by kernel_rfl) (by kernel_rfl) (fun _ _ _ h => h) (Or.inl ⟨by rfl, ?hyR9c1x4⟩) (by assumption) ?restR9c1x4
    case hyR9c1x4 => (intro w hSw; (try dsimp only at hSw); go_simp; try (with_reducible rfl))
    try simp only [Act.put, List.setIfInBounds_toArray, List.set_cons_zero, List.set_cons_succ]
    refine wpAnyT_takeB (i := 5) (oi := ⟨some 30, .load 3 (.tmp 29), _, _, _, _⟩) (v := ?vR9c1x5) rfl (by kernel_rfl) (by kernel_rfl) (by kernel_rfl) (by kernel_rfl) (fun _ _ _ h => h) (Or.inl ⟨by rfl, ?hyR9c1x5⟩) (by assumption) ?restR9c1x5
    case hyR9c1x5 => (intro w hSw; (try dsimp only at hSw); go_simp; try (with_reducible rfl))
    try simp only [Act.put, List.setIfInBounds_toArray, List.set_cons_zero, List.set_cons_succ]
    refine wpAnyT_takeB (i := 7) (oi := ⟨some 32, .move (.tmp 7), _, _, _, _⟩) (v := ?vR9c1x7) rfl (by kernel_rfl) (by kernel_rfl) (by kernel_rfl) (by kernel_rfl) (fun _ _ _ h => h) (Or.inl ⟨by rfl, ?hyR9c1x7⟩) (by assumption) ?restR9c1x7
    case hyR9c1x7 => (intro w hSw; (try dsimp only at hSw); go_simp; try (with_reducible rfl))
    try simp only [Act.put, List.setIfInBounds_toArray, List.set_cons_zero, List.set_cons_succ]
    refine wpAnyT_one (i := 6) (o := ⟨some 31, .call { callee := .value (.func 31), args := #[(.tmp 28), (.tmp 30)], argTypes := #[31, 3] }, _, _, _, _⟩) (by kernel_rfl) rfl (fun K hK => ?_)
    go_simp
    refine calls_at (HVx.out _ (bl_next HB3.out (bl_next HBX.out HBd.out))) (by with_reducible rfl) (by with_reducible rfl) ?_
    intro e w4 hh
    obtain ⟨vv, h1, h2, h3⟩ := hh
    subst h1
    go_wp2_with fail
    have HB4 : Hid (Below X.heap.size X w4) := bl_next HBd.out h3
    obtain ⟨va, vc, e1⟩ := own_slice h2
    subst e1
    have HIn : Hid (IntsAt w4 (.slice va vs.length vc) vs) := own_ints h2 (by unfold maxLen; have := HVl.out; omega)
    clear h2 h3 hHeld
    have hHeld := (⟨HHeld.out _ HB4.out, trivial⟩ : _ ∧ True)
    refine hK.out _ _ ⟨hHeld.1, fun _ => trivial⟩ ?_
    clear hK K
    refine wpAnyT_one (i := 8) (o := ⟨some 33, .call { callee := .value (.func 30), args := #[(.tmp 26), (.tmp 27), (.tmp 31), (.tmp 32)], argTypes := #[66, 79, 28, 68] }, _, _, _, _⟩) (by kernel_rfl) rfl (fun K hK => ?_)
    go_simp
    refine calls_at (HCz.out _ _ _ (bl_next HBX.out HB4.out) HIn.out) (by with_reducible rfl) (by with_reducible rfl) ?_
    intro e w5 hh
    obtain ⟨v5, us5, h1, h2, h3⟩ := hh
    subst h1
    go_wp2_with fail
    have HB5 : Hid (Below X.heap.size X w5) := bl_next HB4.out h3
    obtain ⟨va5, vc5, e1⟩ := own_slice h2.row
    subst e1
    have HZ5 : Hid (CzAt w5 w3.heap.size (.slice oa Z.length oc) Z us) := HZX.out.below HB5.out
    have HY5 : Hid (CzAt w5 w3.heap.size (.slice va5 Z2.length vc5) Z2 us5) := h2.base (Nat.le_trans HBX.out.size HB4.out.size)
    have HS5 : Hid (SrcAt w5 (.slice va5 Z2.length vc5) Z2.length 7 (czs Z2 us5)) := h2.src h2.one
    clear h2 h3 hHeld
    have hHeld := (⟨HHeld.out _ HB5.out, trivial⟩ : _ ∧ True)
    refine hK.out _ _ ⟨hHeld.1, fun _ => trivial⟩ ?_
    clear hK K
    refine wpAnyT_late (i := 9) (o := ⟨some 34, .call { callee := .builtin .append, args := #[(.tmp 25), (.tmp 33)], argTypes := #[33, 33] }, _, _, _, _⟩) (by kernel_rfl) rfl (by kernel_rfl) (fun K hK => ?_)
    refine op_append_src w5 (.tmp 25) (.tmp 33) 33 44 (.agg #[.int .i64 0, .int .i64 0, .int .i64 0, .int .i64 0, .int .i64 0, .int .i64 0, .slice none 0 0]) 7 72 rfl und33 info44 rfl (by decide) w3.heap.size _ _ Z.length Z2.length (czs Z us) (czs Z2 us5) (by rfl) (by rfl) HZ5.out.row HS5.out (by unfold maxLen; omega) (by omega) (Nat.le_trans HBX.out.size HB5.out.size) (by rfl) ?_
    intro v6 w6 q1 q2 q3
    have HZ6 : Hid (CzAt w6 w3.heap.size v6 ((G.take (k + 1)).flatMap fun g => czL P g L (dmAt D g.x).all) (us ++ us5)) := by
      show CzAt _ _ _ _ _
      rw [HN.out]
      exact HZ5.out.more HY5.out.len q1 q2 (fun j h1 h2 => HY5.out.each j h1 h2)
    have HB6 : Hid (Below w3.heap.size w3 w6) := (bl_next HBX.out HB5.out).grown q2 (Nat.le_trans HBX.out.size HB5.out.size) (fun g hg => (HZ5.out.row.lt g hg).1)
    have hk4 := HHeld.out w5 HB5.out
    have y0 := HgV3.out w5 (bl_next HBX.out HB5.out)
    have y1 := (HB5.out.block _ (Array.getElem?_eq_some_iff.1 HgX.out).1).trans HgX.out
    have hc0 := cell_grown q2 (Array.getElem?_eq_some_iff.1 y0).1 (own_ty HZ5.out.row y0 (by decide))
    have hc1 := cell_grown q2 (Array.getElem?_eq_some_iff.1 y1).1 (own_ty HZ5.out.row y1 (by decide))
    rw [← hc0, ← hc0, ← hc1, ← hc1, ← hc1, ← hc1] at hk4
    clear q1 q2 q3 hHeld y0 y1 hc0 hc1
    refine hK.out _ _ hk4 ?_
    have hHeld := (⟨hk4, trivial⟩ : _ ∧ True)
    clear hK K
    try simp only [Act.put, List.setIfInBounds_toArray, List.set_cons_zero, List.set_cons_succ]
    refine wpAnyT_late (i := 10) (o := ⟨some 8, .assign (.tmp 34), _, _, _, _⟩) (by kernel_rfl) rfl (by kernel_rfl) (fun K hK => ?_)
    go_simp
    refine hK.out _ _ ?shR9c1x10 ?restR9c1x10
    case shR9c1x10 => ((try dsimp only); (first | exact hHeld.1 | skip))
    clear hK K
    try simp only [Act.put, List.setIfInBounds_toArray, List.set_cons_zero, List.set_cons_succ]
    refine wpAnyT_done (by kernel_rfl) ?_ _
    have hgl32 : G.length ≤ 32 := HGl.out
    go_wp2_with fail
    go_roundw
    case rel => exact ⟨k + 1, _, by go_num, hkn, HZ6, HB6⟩
    case measure => simp [intOf]; omega
end Go.Proofs.YtemnbcilmbojhaaGreatDoor
