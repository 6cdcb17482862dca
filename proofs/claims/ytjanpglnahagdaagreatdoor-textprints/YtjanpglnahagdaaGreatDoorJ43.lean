/-
  Put together: TqDigits, TqLists, TqSum, TqConH.
-/
import Derived.Test.YtjanpglnahagdaaGreatDoorJ42
import Derived.Laws.BytesArg
import Derived.Deep.RegionHeld3
import Derived.Deep.CutBlock
import Derived.Deep.CutRange
namespace Go.Proofs.YtjanpglnahagdaaGreatDoor
open Go Go.RowKit
open Go.Lib (decDigits itoa)

theorem und78p : Tryz.prog.underlying 78 = some (.slice 5) := by kernel_rfl
theorem und5b : Tryz.prog.underlying 5 = some (.int .u8) := by kernel_rfl
theorem und9b : Tryz.prog.underlying 9 = some .string := by kernel_rfl
theorem dg_conv (d : Nat) (hd : d < 10) (x : Int) (hx : x = 48 + (d : Int)) (u : UInt8) (hu : u = UInt8.ofNat (48 + d)) (wr : World) : (convert 78 9 (.slice (some ⟨wr.heap.size, 0, none⟩) 1 1)).run Tryz.prog (wr.alloc (.cells #[.int .u8 x] 5)) = .ok (.string ⟨#[u]⟩) (wr.alloc (.cells #[.int .u8 x] 5)) := by
  have h := run_convert_bytes_arg (P := Tryz.prog) (wr.alloc (.cells #[.int .u8 x] 5)) 78 5 und78p und5b wr.heap.size 0 1 1 [x] rfl (fun i hi => by
    have hn : (wr.alloc (.cells #[.int .u8 x] 5)).heap[wr.heap.size]? = some (.cells #[.int .u8 x] 5) := heap_alloc_new wr _
    match i, hi with
    | 0, _ => show World.cell? _ ⟨wr.heap.size, 0, none⟩ = _; unfold World.cell?; rw [hn]; rfl) 9 und9b
  subst hu
  rw [h]
  have e1 : x.toNat = 48 + d := by omega
  have e : strOfNums [x] = ⟨#[UInt8.ofNat (48 + d)]⟩ := by simp [strOfNums, e1]
  rw [e]

set_option maxHeartbeats 1000000 in
set_option maxRecDepth 100000 in
theorem digits_nat (n : Nat) (w : World) (hn : n ≤ 1000000000) : Calls Tryz.prog 19 #[.int .i64 (n : Int)] w fun e w' => e = .returned (.string ⟨(decDigits n).toArray⟩) ∧ Below w.heap.size w w' := by
  have hn0 : ¬ (n : Int) < 0 := by omega
  have H0 : Hid (decDigits n = decDigits n ++ (⟨#[]⟩ : ByteArray).data.toList) := by show _ = _; simp
  have HN : Hid (n ≤ 1000000000) := hn
  clear hn
  go_enter Tryz.func19, Tryz.ntmps19
  go_wp2_with fail
  go_loopw [0, 3] (fun qv sv wr => ∃ (q : Nat) (s : ByteArray), qv = .int .i64 (q : Int) ∧ sv = .string s ∧ Hid (q ≤ 1000000000) ∧ s.size ≤ 20 ∧ Hid (decDigits n = decDigits q ++ s.data.toList) ∧ Hid (Below w.heap.size w wr)) (fun qv _ _ => (RowKit.intOf qv).toNat)
  case atStart => exact ⟨n, ⟨#[]⟩, rfl, rfl, HN, by decide, H0, Below.refl _ _⟩
  case round =>
    obtain ⟨q, s, rfl, rfl, hq, hs, hD, hB⟩ := hrel
    have HLn : Hid ((decDigits n).length ≤ 20) := by
      have := Lib.itoa_length_le (n : Int) (by omega) (by have := HN.out; omega)
      show _ ≤ _
      rw [Lib.decDigits_length]
      exact Lib.nDigits_le20 n (by have := HN.out; omega)
    by_cases h9 : (9 : Int) < (q : Int)
    · obtain ⟨u, hu⟩ : ∃ u, u = UInt8.ofNat (48 + q % 10) := ⟨_, rfl⟩
      have hc := dg_conv (q % 10) (by omega) (48 + (q : Int) % 10) (by omega) u hu wr
      have HD1 : Hid (decDigits q = decDigits (q / 10) ++ [u]) := by
        show _ = _
        rw [decDigits, dif_neg (by omega), hu]
      have HB1 : Hid (Below w.heap.size w (wr.alloc (.cells #[.int .u8 (48 + (q : Int) % 10)] 5))) := hB.out.alloc hB.out.size _
      have hqv : (q : Int) ≤ 1000000000 := by have := hq.out; omega
      clear hu
      go_wp2_with fail
      go_roundw
      case rel =>
        have he : decDigits n = decDigits (q / 10) ++ ((⟨#[u]⟩ : ByteArray) ++ s).data.toList := by
          rw [hD.out, HD1.out]
          simp
        refine ⟨q / 10, (⟨#[u]⟩ : ByteArray) ++ s, by go_num, by rfl, ?_, ?_, he, HB1⟩
        · show _ ≤ _; have := hq.out; omega
        · have h1 := HLn.out
          rw [he, List.length_append, ← size_toList] at h1
          omega
      case measure => simp [intOf]; omega
    · obtain ⟨u, hu⟩ : ∃ u, u = UInt8.ofNat (48 + q) := ⟨_, rfl⟩
      have hc := dg_conv q (by omega) (48 + (q : Int)) rfl u hu wr
      have HD1 : Hid (decDigits q = [u]) := by rw [hu]; exact Lib.decDigits_one (by omega)
      have HB1 : Hid (Below w.heap.size w (wr.alloc (.cells #[.int .u8 (48 + (q : Int))] 5))) := hB.out.alloc hB.out.size _
      have HF : Hid ((⟨#[u]⟩ : ByteArray) ++ s = ⟨(decDigits n).toArray⟩) := by
        show _ = _
        rw [hD.out, HD1.out]
        apply ByteArray.ext
        simp
      clear hu
      go_wp2_with fail
      go_ret
      exact ⟨congrArg (fun x => Ending.returned (.string x)) HF.out, HB1.out⟩

set_option maxHeartbeats 1000000 in
set_option maxRecDepth 100000 in
theorem digits_any (n : Int) (w : World) (hn : -1000000000 ≤ n ∧ n ≤ 1000000000) : Calls Tryz.prog 19 #[.int .i64 n] w fun e w' => e = .returned (.string ⟨(itoa n).toArray⟩) ∧ Below w.heap.size w w' := by
  by_cases h : n < 0
  · obtain ⟨u, hu⟩ : ∃ u : Nat, -n = (u : Int) := ⟨n.natAbs, by omega⟩
    have hw : wrap64 (-n) = (u : Int) := by rw [hu]; unfold wrap64; omega
    have HC : Hid (Calls Tryz.prog 19 #[.int .i64 (u : Int)] w fun e w' => e = .returned (.string ⟨(decDigits u).toArray⟩) ∧ Below w.heap.size w w') := digits_nat u w (by omega)
    have HF : Hid ((⟨#[45]⟩ : ByteArray) ++ ⟨(decDigits u).toArray⟩ = ⟨(itoa n).toArray⟩) := by
      show _ = _
      have e : n = -(u : Int) := by omega
      rw [e, Lib.itoa_neg u (by omega)]
      apply ByteArray.ext
      simp
    have hsz : (⟨(decDigits u).toArray⟩ : ByteArray).size ≤ 20 := by
      rw [size_mk, Lib.decDigits_length]
      exact Lib.nDigits_le20 u (by omega)
    obtain ⟨S, hS⟩ : ∃ S : ByteArray, S = ⟨(decDigits u).toArray⟩ := ⟨_, rfl⟩
    rw [← hS] at HC HF hsz
    clear hu hn hS
    go_enter Tryz.func19, Tryz.ntmps19
    go_wp2_with (go_at_call 19; refine calls_at HC.out (by with_reducible rfl) (by with_reducible rfl) ?_; rintro e w2 ⟨rfl, hb2⟩)
    go_ret
    exact ⟨congrArg (fun x => Ending.returned (.string x)) HF.out, hb2⟩
  · obtain ⟨u, rfl⟩ : ∃ u : Nat, n = (u : Int) := ⟨n.toNat, by omega⟩
    rw [Lib.itoa_nonneg]
    exact digits_nat u w (by omega)
end Go.Proofs.YtjanpglnahagdaaGreatDoor

namespace Go.Proofs.YtjanpglnahagdaaGreatDoor
open Go Go.RowKit
open Go.Lib (itoa)

theorem mk_toList (s : ByteArray) {l : List UInt8} (h : s.data.toList = l) : s = ⟨l.toArray⟩ := by
  subst h
  apply ByteArray.ext
  simp

set_option maxHeartbeats 1000000 in
set_option maxRecDepth 100000 in
theorem tqValues_any (v : Value) (xs : List Int) (w : World) (hI : IntsAt w v xs) (hx : ∀ x ∈ xs, -1000000000 ≤ x ∧ x ≤ 1000000000) (hl : xs.length ≤ 64) :
    Calls Tryz.prog 51 #[v] w fun e w' => e = .returned (.string ⟨(Md.numsT xs).toArray⟩) ∧ Below w.heap.size w w' := by
  obtain ⟨a, cap, rfl, hm⟩ := hI.form
  unfold maxLen at hm
  have HI : Hid (∀ w', Below w.heap.size w w' → IntsAt w' (.slice a xs.length cap) xs) := fun w' hb => hI.below hb
  have HX : Hid (∀ x ∈ xs, -1000000000 ≤ x ∧ x ≤ 1000000000) := hx
  have H0 : Hid ((⟨#[]⟩ : ByteArray).data.toList = Md.numsT (xs.take 0)) := by show _ = _; simp [Md.numsT]
  have HN : Hid (∀ k, (Md.numsT (xs.take k)).length ≤ 1408) := fun k => Nat.le_trans (Md.flatMap_take_len _ 22 xs k (fun x hx => by have := Md.itoa_len (HX.out x hx); simpa using this)) (by omega)
  clear hI hx
  go_enter Tryz.func51, Tryz.ntmps51
  go_wp2_with fail
  go_loopw [3, 4] (fun sv iv wr => ∃ (k : Nat) (s : ByteArray), sv = .string s ∧ iv = .int .i64 (k : Int) ∧ k ≤ xs.length ∧ s.size ≤ 1408 ∧ Hid (s.data.toList = Md.numsT (xs.take k)) ∧ Hid (Below w.heap.size w wr)) (fun _ iv _ => xs.length - (intOf iv).toNat)
  case atStart => exact ⟨0, ⟨#[]⟩, rfl, rfl, Nat.zero_le _, by decide, H0, Below.refl _ _⟩
  case round =>
    obtain ⟨k, s, rfl, rfl, hk, hs, hS, hB⟩ := hrel
    clear H0
    by_cases hlt : k < xs.length
    · obtain ⟨a', cap', hv, _, hc⟩ := HI.out wr hB.out
      injection hv with e1 _ e3
      subst e3
      subst e1
      obtain ⟨g, off, rfl, hg, hcc⟩ := hc (by omega)
      have hcell := hcc k hlt
      have hkI : (k : Int) < (xs.length : Int) := by omega
      have HR : Hid (Md.numsT (xs.take (k + 1)) = Md.numsT (xs.take k) ++ 32 :: itoa xs[k]) := Md.flatMap_take _ xs k hlt
      have HXk := HX.out xs[k] (List.getElem_mem hlt)
      have HC : Hid (Calls Tryz.prog 19 #[.int .i64 xs[k]] wr fun e w' => e = .returned (.string ⟨(itoa xs[k]).toArray⟩) ∧ Below wr.heap.size wr w') := digits_any xs[k] wr HXk
      have hT : (⟨(itoa xs[k]).toArray⟩ : ByteArray).size ≤ 21 := by rw [size_mk]; exact Md.itoa_len HXk
      obtain ⟨T, hTe⟩ : ∃ T : ByteArray, T = ⟨(itoa xs[k]).toArray⟩ := ⟨_, rfl⟩
      have HT : Hid (T.data.toList = itoa xs[k]) := by rw [hTe]; show _ = _; simp
      rw [← hTe] at HC hT
      clear hcc hc hTe HXk
      generalize xs[k] = x at *
      go_wp2_with (go_at_call 19; refine calls_at HC.out (by with_reducible rfl) (by with_reducible rfl) ?_; rintro e w2 ⟨rfl, hb2⟩; have HB2 : Hid (Below w.heap.size w w2) := hB.out.trans (hb2.mono hB.out.size); clear hb2)
      have he : (s ++ (⟨#[32]⟩ : ByteArray) ++ T).data.toList = Md.numsT (xs.take (k + 1)) := by
        rw [HR.out, ← hS.out, ← HT.out]
        simp
      go_roundw
      case rel =>
        refine ⟨k + 1, s ++ (⟨#[32]⟩ : ByteArray) ++ T, by rfl, by go_num, by omega, ?_, he, HB2⟩
        rw [size_toList, he]
        exact HN.out _
      case measure => simp [intOf]; omega
    · have hkI : ¬ (k : Int) < (xs.length : Int) := by omega
      have HF : Hid (s = ⟨(Md.numsT xs).toArray⟩) := mk_toList s (by rw [hS.out, List.take_of_length_le (by omega)])
      go_wp2_with fail
      go_ret
      exact ⟨congrArg (fun x => Ending.returned (.string x)) HF.out, hB.out⟩

set_option maxHeartbeats 1000000 in
set_option maxRecDepth 100000 in
theorem tqNames_any (vars : List Md.Vr) (vv vc vg : Value) (hb : Bool) (vx : Value) (xs : List Int) (w : World) (hV : VarsAt w vv vars) (hn : ∀ v ∈ vars, v.name.data.toList.length ≤ 16) (hI : IntsAt w vx xs) (hx : ∀ x ∈ xs, 0 ≤ x ∧ x < (vars.length : Int)) (hl : xs.length ≤ 64) :
    Calls Tryz.prog 50 #[.agg #[vv, vc, .bool hb, vg], vx] w fun e w' => e = .returned (.string ⟨(Md.namesT vars xs).toArray⟩) ∧ Below w.heap.size w w' := by
  obtain ⟨a, cap, rfl, hm, hcI⟩ := hI
  obtain ⟨ya, ycap, rfl, hym, _, hyc⟩ := hV
  unfold maxLen at hm hym
  have HI : Hid (0 < xs.length → ∃ b off, a = some ⟨b, off, none⟩ ∧ b < w.heap.size ∧ ∀ j (h : j < xs.length), w.cell? ⟨b, off + j, none⟩ = some (.int .i64 xs[j])) := hcI
  have HV : Hid (0 < vars.length → ∃ b off, ya = some ⟨b, off, none⟩ ∧ b < w.heap.size ∧
    ∀ j (h : j < vars.length), w.cell? ⟨b, off + j * 3, none⟩ = some (.string vars[j].name) ∧ w.cell? ⟨b, off + j * 3 + 1, none⟩ = some (.int .i64 vars[j].lo) ∧ w.cell? ⟨b, off + j * 3 + 2, none⟩ = some (.int .i64 vars[j].hi)) := hyc
  have HX : Hid (∀ x ∈ xs, 0 ≤ x ∧ x < (vars.length : Int)) := hx
  have HNm : Hid (∀ v ∈ vars, v.name.data.toList.length ≤ 16) := hn
  have H0 : Hid ((⟨#[]⟩ : ByteArray).data.toList = Md.namesT vars (xs.take 0)) := by show _ = _; simp [Md.namesT]
  have HN : Hid (∀ k, (Md.namesT vars (xs.take k)).length ≤ 1408) := fun k => Nat.le_trans (Md.flatMap_take_len _ 22 xs k (fun x hx => by
    have := tnm_len HNm.out (HX.out x hx)
    rw [List.length_cons]
    omega)) (by omega)
  clear hcI hx hyc hn
  obtain ⟨W, hW⟩ : ∃ W, w.alloc (.cells #[.slice ya vars.length ycap, vc, .bool hb, vg] 26) = W := ⟨_, rfl⟩
  have HB0 : Hid (Below w.heap.size w W) := by show Below _ _ _; rw [← hW]; exact (Below.refl _ _).alloc (Nat.le_refl _) _
  have HO : Hid (W.heap[w.heap.size]? = some (.cells #[.slice ya vars.length ycap, vc, .bool hb, vg] 26)) := by show _ = _; rw [← hW]; exact heap_alloc_new w _
  go_enter Tryz.func50, Tryz.ntmps50
  go_wp2_with fail
  try rw [hW]
  clear hW
  go_loopw [5, 6] (fun sv iv wr => ∃ (k : Nat) (s : ByteArray), sv = .string s ∧ iv = .int .i64 (k : Int) ∧ k ≤ xs.length ∧ s.size ≤ 1408 ∧ Hid (s.data.toList = Md.namesT vars (xs.take k)) ∧ Hid (Below W.heap.size W wr)) (fun _ iv _ => xs.length - (intOf iv).toNat)
  case atStart => exact ⟨0, ⟨#[]⟩, rfl, rfl, Nat.zero_le _, by decide, H0, Below.refl _ _⟩
  case round =>
    obtain ⟨k, s, rfl, rfl, hk, hs, hS, hB⟩ := hrel
    clear H0
    have HBw : Hid (Below w.heap.size w wr) := HB0.out.trans (hB.out.mono HB0.out.size)
    by_cases hlt : k < xs.length
    · obtain ⟨g, off, rfl, hg, hcc⟩ := HI.out (by omega)
      have hkI : (k : Int) < (xs.length : Int) := by omega
      have HR : Hid (Md.namesT vars (xs.take (k + 1)) = Md.namesT vars (xs.take k) ++ 32 :: Md.nm vars xs[k]) := Md.flatMap_take _ xs k hlt
      obtain ⟨hx0, hx1⟩ := HX.out xs[k] (List.getElem_mem hlt)
      obtain ⟨y, hy, hxy, hnm⟩ := nm_get hx0 hx1
      obtain ⟨gv, ov, rfl, hgv, hvc⟩ := HV.out (by omega)
      have c0 : wr.drew.cell? ⟨g, off + k, none⟩ = some (.int .i64 (y : Int)) := by rw [← hxy]; exact (HBw.out.cell (p := ⟨g, off + k, none⟩) hg).trans (hcc k hlt)
      have c1 : wr.drew.cell? ⟨gv, ov + y * 3, none⟩ = some (.string vars[y].name) := (HBw.out.cell (p := ⟨gv, ov + y * 3, none⟩) hgv).trans (hvc y hy).1
      have c2 : wr.drew.cell? ⟨w.heap.size, 0, none⟩ = some (.slice (some ⟨gv, ov, none⟩) vars.length ycap) := by
        have h1 : wr.drew.heap[w.heap.size]? = some (.cells #[.slice (some ⟨gv, ov, none⟩) vars.length ycap, vc, .bool hb, vg] 26) := (hB.out.block w.heap.size (Array.getElem?_eq_some_iff.1 HO.out).1).trans HO.out
        rw [Lib.cell_of_heap h1]; rfl
      have hyI : (y : Int) < (vars.length : Int) := by omega
      have hT : vars[y].name.size ≤ 16 := by rw [size_toList]; exact HNm.out _ (List.getElem_mem hy)
      have HT : Hid (vars[y].name.data.toList = Md.nm vars xs[k]) := hnm.symm
      clear hcc hvc hnm hxy hx0 hx1
      obtain ⟨T, hTe⟩ : ∃ T, T = vars[y].name := ⟨_, rfl⟩
      rw [← hTe] at c1 hT HT
      clear hTe
      have HC : Hid (wr.drew.cell? ⟨g, off + k, none⟩ = some (.int .i64 (y : Int)) ∧ wr.drew.cell? ⟨gv, ov + y * 3, none⟩ = some (.string T) ∧ wr.drew.cell? ⟨w.heap.size, 0, none⟩ = some (.slice (some ⟨gv, ov, none⟩) vars.length ycap)) := ⟨c0, c1, c2⟩
      clear c0 c1 c2
      obtain ⟨s1, hs1⟩ : ∃ s1, s1 = s ++ (⟨#[32]⟩ : ByteArray) := ⟨_, rfl⟩
      have a1 : ∀ w', (Op.stringOp .add s ⟨#[32]⟩).run Tryz.prog w' = .ok (.string s1) w' := fun w' => by rw [hs1]; exact run_string_add_sum w' s _ (by have h1 : (⟨#[32]⟩ : ByteArray).size = 1 := rfl; omega)
      have hs1z : s1.size ≤ 1409 := by rw [hs1, ByteArray.size_append]; have h1 : (⟨#[32]⟩ : ByteArray).size = 1 := rfl; omega
      obtain ⟨s2, hs2⟩ : ∃ s2, s2 = s1 ++ T := ⟨_, rfl⟩
      have a2 : ∀ w', (Op.stringOp .add s1 T).run Tryz.prog w' = .ok (.string s2) w' := fun w' => by rw [hs2]; exact run_string_add_sum w' s1 T (by omega)
      have he : s2.data.toList = Md.namesT vars (xs.take (k + 1)) := by
        rw [HR.out, ← hS.out, ← HT.out, hs2, hs1]
        simp
      have HE : Hid (s2.data.toList = Md.namesT vars (xs.take (k + 1))) := he
      clear hs1 hs2 he
      go_wp2_with fail
      go_region_held3 (fun w' => w'.cell? ⟨g, off + k, none⟩ = some (.int .i64 (y : Int)) ∧ w'.cell? ⟨gv, ov + y * 3, none⟩ = some (.string T) ∧ w'.cell? ⟨w.heap.size, 0, none⟩ = some (.slice (some ⟨gv, ov, none⟩) vars.length ycap))
        (first | exact HC.out | assumption)
        (first | fail)
      have HB3 : Hid (Below W.heap.size W wr.drew) := hB.out.drew
      go_wp2_with fail
      go_roundw
      case rel =>
        refine ⟨k + 1, s2, by rfl, by go_num, by omega, ?_, HE, HB3⟩
        rw [size_toList, HE.out]
        exact HN.out _
      case measure => simp [intOf]; omega
    · have hkI : ¬ (k : Int) < (xs.length : Int) := by omega
      have HF : Hid (s = ⟨(Md.namesT vars xs).toArray⟩) := mk_toList s (by rw [hS.out, List.take_of_length_le (by omega)])
      go_wp2_with fail
      go_ret
      exact ⟨congrArg (fun x => Ending.returned (.string x)) HF.out, HBw.out⟩
end Go.Proofs.YtjanpglnahagdaaGreatDoor

namespace Go.Proofs.YtjanpglnahagdaaGreatDoor
open Go Go.RowKit
open Go.Lib (itoa)

/-- Texts are joined. -/
theorem add_str {a b c : ByteArray} (hc : c = a ++ b) (h : a.size + b.size ≤ 100000000) : ∀ w, (Op.stringOp .add a b).run Tryz.prog w = .ok (.string c) w := fun w => by
  rw [hc]
  exact run_string_add_sum w a b (by omega)
theorem blank_size : (⟨#[32]⟩ : ByteArray).size = 1 := rfl

set_option maxHeartbeats 1000000 in
set_option maxRecDepth 100000 in
theorem tqSum_any (vars : List Md.Vr) (vv vc vg : Value) (hb : Bool) (vt : Value) (ts : List (Int × Int)) (w : World) (hV : VarsAt w vv vars) (hn : ∀ v ∈ vars, v.name.data.toList.length ≤ 16) (hI : TermsAt w vt ts) (hx : ∀ t ∈ ts, 0 ≤ t.2 ∧ t.2 < (vars.length : Int)) (hcf : ∀ t ∈ ts, -1000000 ≤ t.1 ∧ t.1 ≤ 1000000) (hl : ts.length ≤ 64) :
    Calls Tryz.prog 21 #[.agg #[vv, vc, .bool hb, vg], vt] w fun e w' => e = .returned (.string ⟨(Md.sumT vars ts).toArray⟩) ∧ Below w.heap.size w w' := by
  obtain ⟨a, cap, rfl, hm, hcI⟩ := hI
  obtain ⟨ya, ycap, rfl, hym, _, hyc⟩ := hV
  unfold maxLen at hm hym
  have HI : Hid (0 < ts.length → ∃ b off, a = some ⟨b, off, none⟩ ∧ b < w.heap.size ∧ ∀ j (h : j < ts.length), w.cell? ⟨b, off + j * 2, none⟩ = some (.int .i64 ts[j].1) ∧ w.cell? ⟨b, off + j * 2 + 1, none⟩ = some (.int .i64 ts[j].2)) := hcI
  have HV : Hid (0 < vars.length → ∃ b off, ya = some ⟨b, off, none⟩ ∧ b < w.heap.size ∧
    ∀ j (h : j < vars.length), w.cell? ⟨b, off + j * 3, none⟩ = some (.string vars[j].name) ∧ w.cell? ⟨b, off + j * 3 + 1, none⟩ = some (.int .i64 vars[j].lo) ∧ w.cell? ⟨b, off + j * 3 + 2, none⟩ = some (.int .i64 vars[j].hi)) := hyc
  have HX : Hid (∀ t ∈ ts, 0 ≤ t.2 ∧ t.2 < (vars.length : Int)) := hx
  have HCf : Hid (∀ t ∈ ts, -1000000 ≤ t.1 ∧ t.1 ≤ 1000000) := hcf
  have HNm : Hid (∀ v ∈ vars, v.name.data.toList.length ≤ 16) := hn
  have H0 : Hid ((⟨#[]⟩ : ByteArray).data.toList = Md.sumT vars (ts.take 0)) := by show _ = _; simp [Md.sumT]
  have HN : Hid (∀ k, (Md.sumT vars (ts.take k)).length ≤ 2816) := fun k => Nat.le_trans (Md.flatMap_take_len _ 44 ts k (fun t ht => by
    have h1 := tnm_len HNm.out (HX.out t ht)
    have h2 := Md.itoa_len (n := t.1) (by have := HCf.out t ht; omega)
    rw [List.length_cons, List.length_append, List.length_cons]
    omega)) (by omega)
  clear hcI hx hyc hn hcf
  obtain ⟨W, hW⟩ : ∃ W, w.alloc (.cells #[.slice ya vars.length ycap, vc, .bool hb, vg] 26) = W := ⟨_, rfl⟩
  have HB0 : Hid (Below w.heap.size w W) := by show Below _ _ _; rw [← hW]; exact (Below.refl _ _).alloc (Nat.le_refl _) _
  have HO : Hid (W.heap[w.heap.size]? = some (.cells #[.slice ya vars.length ycap, vc, .bool hb, vg] 26)) := by show _ = _; rw [← hW]; exact heap_alloc_new w _
  go_enter Tryz.func21, Tryz.ntmps21
  go_wp2_with fail
  try rw [hW]
  clear hW
  go_loopw [5, 6] (fun sv iv wr => ∃ (k : Nat) (s : ByteArray), sv = .string s ∧ iv = .int .i64 (k : Int) ∧ k ≤ ts.length ∧ s.size ≤ 2816 ∧ Hid (s.data.toList = Md.sumT vars (ts.take k)) ∧ Hid (Below W.heap.size W wr)) (fun _ iv _ => ts.length - (intOf iv).toNat)
  case atStart => exact ⟨0, ⟨#[]⟩, rfl, rfl, Nat.zero_le _, by decide, H0, Below.refl _ _⟩
  case round =>
    obtain ⟨k, s, rfl, rfl, hk, hs, hS, hB⟩ := hrel
    clear H0
    by_cases hlt : k < ts.length
    · obtain ⟨g, off, rfl, hg, hcc⟩ := HI.out (by omega)
      have hkI : (k : Int) < (ts.length : Int) := by omega
      have HR : Hid (Md.sumT vars (ts.take (k + 1)) = Md.sumT vars (ts.take k) ++ 32 :: (itoa ts[k].1 ++ 32 :: Md.nm vars ts[k].2)) := Md.flatMap_take _ ts k hlt
      obtain ⟨hx0, hx1⟩ := HX.out ts[k] (List.getElem_mem hlt)
      have hcf := HCf.out ts[k] (List.getElem_mem hlt)
      obtain ⟨y, hy, hxy, hnm⟩ := nm_get hx0 hx1
      obtain ⟨gv, ov, rfl, hgv, hvc⟩ := HV.out (by omega)
      have HSc : Hid (∀ w', Below W.heap.size W w' → w'.cell? ⟨g, off + k * 2, none⟩ = some (.int .i64 ts[k].1) ∧ w'.cell? ⟨g, off + k * 2 + 1, none⟩ = some (.int .i64 (y : Int)) ∧ w'.cell? ⟨gv, ov + y * 3, none⟩ = some (.string vars[y].name) ∧ w'.cell? ⟨w.heap.size, 0, none⟩ = some (.slice (some ⟨gv, ov, none⟩) vars.length ycap) ∧ Below W.heap.size W w') := fun w' hbw => by
        have hw : Below w.heap.size w w' := HB0.out.trans (hbw.mono HB0.out.size)
        refine ⟨(hw.cell (p := ⟨g, off + k * 2, none⟩) hg).trans (hcc k hlt).1, ?_, (hw.cell (p := ⟨gv, ov + y * 3, none⟩) hgv).trans (hvc y hy).1, ?_, hbw⟩
        · rw [← hxy]; exact (hw.cell (p := ⟨g, off + k * 2 + 1, none⟩) hg).trans (hcc k hlt).2
        · have h1 : w'.heap[w.heap.size]? = some (.cells #[.slice (some ⟨gv, ov, none⟩) vars.length ycap, vc, .bool hb, vg] 26) := (hbw.block w.heap.size (Array.getElem?_eq_some_iff.1 HO.out).1).trans HO.out
          rw [Lib.cell_of_heap h1]; rfl
      have hyI : (y : Int) < (vars.length : Int) := by omega
      have hT : vars[y].name.size ≤ 16 := by rw [size_toList]; exact HNm.out _ (List.getElem_mem hy)
      have HT : Hid (vars[y].name.data.toList = Md.nm vars ts[k].2) := hnm.symm
      have HDg : Hid (∀ w', Calls Tryz.prog 19 #[.int .i64 ts[k].1] w' fun e w'' => e = .returned (.string ⟨(itoa ts[k].1).toArray⟩) ∧ Below w'.heap.size w' w'') := fun w' => digits_any ts[k].1 w' (by omega)
      have hDz : (⟨(itoa ts[k].1).toArray⟩ : ByteArray).size ≤ 21 := by rw [size_mk]; exact Md.itoa_len (by omega)
      have HDl : Hid ((⟨(itoa ts[k].1).toArray⟩ : ByteArray).data.toList = itoa ts[k].1) := by show _ = _; simp
      clear hcc hvc hnm hxy hx0 hx1 hcf
      obtain ⟨T, hTe⟩ : ∃ T, T = vars[y].name := ⟨_, rfl⟩
      rw [← hTe] at HSc hT HT
      obtain ⟨G, hGe⟩ : ∃ G : ByteArray, G = ⟨(itoa ts[k].1).toArray⟩ := ⟨_, rfl⟩
      rw [← hGe] at HDg hDz HDl
      clear hTe hGe
      generalize ts[k].1 = cc at *
      generalize ts[k].2 = xx at *
      obtain ⟨s1, hs1⟩ : ∃ s1, s1 = s ++ (⟨#[32]⟩ : ByteArray) := ⟨_, rfl⟩
      have z1 : s1.size ≤ 2817 := by rw [hs1, ByteArray.size_append, blank_size]; omega
      have a1 := add_str hs1 (by rw [blank_size]; omega)
      obtain ⟨s2, hs2⟩ : ∃ s2, s2 = s1 ++ G := ⟨_, rfl⟩
      have z2 : s2.size ≤ 2838 := by rw [hs2, ByteArray.size_append]; omega
      have a2 := add_str hs2 (by omega)
      obtain ⟨s3, hs3⟩ : ∃ s3, s3 = s2 ++ (⟨#[32]⟩ : ByteArray) := ⟨_, rfl⟩
      have z3 : s3.size ≤ 2839 := by rw [hs3, ByteArray.size_append, blank_size]; omega
      have a3 := add_str hs3 (by rw [blank_size]; omega)
      obtain ⟨s4, hs4⟩ : ∃ s4, s4 = s3 ++ T := ⟨_, rfl⟩
      have a4 := add_str hs4 (by omega)
      have HE : Hid (s4.data.toList = Md.sumT vars (ts.take (k + 1))) := by
        show _ = _
        rw [HR.out, ← hS.out, ← HT.out, ← HDl.out, hs4, hs3, hs2, hs1]
        simp
      clear hs1 hs2 hs3 hs4
      go_wp2_with fail
      go_region_held3 (fun w' => w'.cell? ⟨g, off + k * 2, none⟩ = some (.int .i64 cc) ∧ w'.cell? ⟨g, off + k * 2 + 1, none⟩ = some (.int .i64 (y : Int)) ∧ w'.cell? ⟨gv, ov + y * 3, none⟩ = some (.string T) ∧ w'.cell? ⟨w.heap.size, 0, none⟩ = some (.slice (some ⟨gv, ov, none⟩) vars.length ycap) ∧ Below W.heap.size W w')
        (first | exact HSc.out _ hB.out.drew | exact HSc.out _ (hB.out.drew.trans (hb2.mono hB.out.size)) | assumption)
        (first | (go_at_call 19; refine calls_at (HDg.out _) (by with_reducible rfl) (by with_reducible rfl) ?_; rintro e w2 ⟨rfl, hb2⟩))
      all_goals
        have HB3 : Hid (Below W.heap.size W w2) := And.right (And.right (And.right (And.right (by assumption))))
        go_wp2_with fail
        go_roundw
        case rel =>
          refine ⟨k + 1, s4, by rfl, by go_num, by omega, ?_, HE, HB3⟩
          rw [size_toList, HE.out]
          exact HN.out _
        case measure => simp [intOf]; omega
    · have hkI : ¬ (k : Int) < (ts.length : Int) := by omega
      have HF : Hid (s = ⟨(Md.sumT vars ts).toArray⟩) := mk_toList s (by rw [hS.out, List.take_of_length_le (by omega)])
      go_wp2_with fail
      go_ret
      exact ⟨congrArg (fun x => Ending.returned (.string x)) HF.out, HB0.out.trans (hB.out.mono HB0.out.size)⟩
end Go.Proofs.YtjanpglnahagdaaGreatDoor

namespace Go.Proofs.YtjanpglnahagdaaGreatDoor
open Go Go.RowKit
open Go.Lib (itoa)

theorem opw_kept {wx w3 : World} (hb : Below (wx.alloc (.cells #[.string ⟨#[]⟩, .string ⟨#[60, 61]⟩, .string ⟨#[61]⟩, .string ⟨#[62, 61]⟩] 9)).heap.size (wx.alloc (.cells #[.string ⟨#[]⟩, .string ⟨#[60, 61]⟩, .string ⟨#[61]⟩, .string ⟨#[62, 61]⟩] 9)) w3) :
    w3.cell? ⟨wx.heap.size, 1, none⟩ = some (.string ⟨#[60, 61]⟩) ∧ w3.cell? ⟨wx.heap.size, 2, none⟩ = some (.string ⟨#[61]⟩) ∧ w3.cell? ⟨wx.heap.size, 3, none⟩ = some (.string ⟨#[62, 61]⟩) := by
  have h := (hb.block wx.heap.size (by simp)).trans (heap_alloc_new wx _)
  refine ⟨?_, ?_, ?_⟩ <;> (rw [Lib.cell_of_heap h]; rfl)
theorem opw_kept' {wx w3 : World} (hb : Below (wx.alloc (.cells #[.string ⟨#[]⟩, .string ⟨#[60, 61]⟩, .string ⟨#[61]⟩, .string ⟨#[62, 61]⟩] 9)).drew.heap.size (wx.alloc (.cells #[.string ⟨#[]⟩, .string ⟨#[60, 61]⟩, .string ⟨#[61]⟩, .string ⟨#[62, 61]⟩] 9)).drew w3) :
    w3.cell? ⟨wx.heap.size, 1, none⟩ = some (.string ⟨#[60, 61]⟩) ∧ w3.cell? ⟨wx.heap.size, 2, none⟩ = some (.string ⟨#[61]⟩) ∧ w3.cell? ⟨wx.heap.size, 3, none⟩ = some (.string ⟨#[62, 61]⟩) := by
  have h : w3.heap[wx.heap.size]? = _ := (hb.block wx.heap.size (by show wx.heap.size < (wx.alloc _).heap.size; simp)).trans (heap_alloc_new wx _)
  refine ⟨?_, ?_, ?_⟩ <;> (rw [Lib.cell_of_heap h]; rfl)
theorem two_boxes {w W : World} {a : Array Value} {c : Array Value} (hW : (w.alloc (.cells a 26)).alloc (.cells c 64) = W) : Below w.heap.size w W ∧ W.heap[w.heap.size]? = some (.cells a 26 (0, 0)) ∧ W.heap[w.heap.size + 1]? = some (.cells c 64 (0, 0)) := by
  subst hW
  refine ⟨((Below.refl _ _).alloc (Nat.le_refl _) _).alloc (by simp) _, ?_, ?_⟩
  · rw [Below.heap_alloc _ _ _ (by simp)]; exact heap_alloc_new w _
  · have h := heap_alloc_new (w.alloc (.cells a 26)) (.cells c 64)
    have e : (w.alloc (.cells a 26)).heap.size = w.heap.size + 1 := by simp
    rw [e] at h
    exact h

end Go.Proofs.YtjanpglnahagdaaGreatDoor
