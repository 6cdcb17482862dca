/-
  A page: rows of numbers.
-/
import Derived.Test.YthohnmplbjhjaaaGreatDoorTpLists
namespace Go.Proofs.YthohnmplbjhjaaaGreatDoor
open Go Go.RowKit

set_option maxHeartbeats 1000000 in
theorem pgRows_any {w0 : World} (b : Nat) (va : Value) (l : List UInt8) (vr : Value) (rs : List (List Int)) (w : World) (hw : Way w0 w) (hI : RowsAt w0 vr rs) (hx : ∀ r ∈ rs, r.length ≤ 64 ∧ ∀ x ∈ r, -1000000000 ≤ x ∧ x ≤ 1000000000)
    (h : PageAt w0.heap.size b va l w) (hl : l.length + 1410 * rs.length ≤ 800000000) :
    Calls Tryz.prog 96 #[.pointer (some ⟨b, 0, none⟩), vr] w fun e w' => e = .returned (.tuple #[]) ∧ PageAt w0.heap.size b va (l ++ Md.rowsT rs) w' ∧ Kq w0.heap.size w w' := by
  obtain ⟨a, cap, rfl, hm, hcells⟩ := hI
  unfold maxLen at hm
  have HT : Hid (0 < rs.length → ∃ b off, a = some ⟨b, off, none⟩ ∧ b < w0.heap.size ∧ ∀ j (h : j < rs.length), ∃ u, w0.cell? ⟨b, off + j, none⟩ = some u ∧ IntsAt w0 u rs[j]) := hcells
  have HW : Hid (Way w0 w) := hw
  have HX : Hid (∀ r ∈ rs, r.length ≤ 64 ∧ ∀ x ∈ r, -1000000000 ≤ x ∧ x ≤ 1000000000) := hx
  have HL : Hid (l.length + 1410 * rs.length ≤ 800000000) := hl
  have H0 : Hid (PageAt w0.heap.size b va (l ++ Md.rowsT (rs.take 0)) w) := by show PageAt _ _ _ _ _; simpa [Md.rowsT] using h
  have HN : Hid (∀ k, (Md.rowsT (rs.take k)).length ≤ 1410 * rs.length) := fun k => Md.flatMap_take_len _ 1410 rs k (fun r hr => by
    have h1 := HX.out r hr
    have h2 : (Md.numsT r).length ≤ 22 * r.length := Md.flatMap_len _ 22 r (fun x hx => by have := Md.itoa_len (h1.2 x hx); simpa using this)
    rw [List.length_cons, List.length_cons]
    omega)
  clear hw hx hl h hcells
  go_enter Tryz.func96, Tryz.ntmps96
  go_wp2_with fail
  go_loopw [8] (fun iv wr => ∃ k : Nat, iv = .int .i64 (k : Int) ∧ k ≤ rs.length ∧ Hid (PageAt w0.heap.size b va (l ++ Md.rowsT (rs.take k)) wr) ∧ Hid (Kq w0.heap.size w wr)) (fun iv _ => rs.length - (intOf iv).toNat)
  case atStart => exact ⟨0, rfl, Nat.zero_le _, H0, Kq.refl _ _⟩
  case round =>
    obtain ⟨k, rfl, hk, hP, hK⟩ := hrel
    clear H0
    by_cases hlt : k < rs.length
    · obtain ⟨g, off, rfl, hg, hcc⟩ := HT.out (by omega)
      obtain ⟨u, hu, hIu⟩ := hcc k hlt
      have c0 := (((HW.out.next hK.out).low.cell (p := ⟨g, off + k, none⟩) hg).trans hu)
      have hkI : (k : Int) < (rs.length : Int) := by omega
      have HR : Hid ((Md.rowsT (rs.take (k + 1))) = Md.rowsT (rs.take k) ++ 32 :: 58 :: Md.numsT rs[k]) := Md.flatMap_take _ rs k hlt
      have HXk : Hid (rs[k].length ≤ 64 ∧ ∀ x ∈ rs[k], -1000000000 ≤ x ∧ x ≤ 1000000000) := HX.out rs[k] (List.getElem_mem hlt)
      have HIu : Hid (IntsAt w0 u rs[k]) := hIu
      clear hcc hu hIu
      obtain ⟨r, hr⟩ : ∃ r, r = rs[k] := ⟨_, rfl⟩
      rw [← hr] at HR HXk HIu
      clear hr
      obtain ⟨ua, uc, hu, _⟩ := HIu.out.form
      subst hu
      have HSz : Hid ((l ++ Md.rowsT (rs.take k)).length ≤ 800000000) := by
        have h1 := HN.out k
        have h2 := HL.out
        show _ ≤ _
        rw [List.length_append]
        omega
      have HS1 : Hid ((l ++ Md.rowsT (rs.take k)).length + (⟨#[58]⟩ : ByteArray).size + 1 ≤ 1000000000) := by
        have h1 := HSz.out
        have h2 : (⟨#[58]⟩ : ByteArray).size = 1 := rfl
        show _ ≤ _
        rw [h2]
        omega
      have HS2 : Hid ((l ++ Md.rowsT (rs.take k) ++ 32 :: [58]).length + 22 * r.length ≤ 900000000) := by
        have h1 := HSz.out
        have h2 := HXk.out.1
        show _ ≤ _
        rw [List.length_append]
        have h3 : (32 :: [58] : List UInt8).length = 2 := rfl
        rw [h3]
        omega
      go_wp2_with (first
        | (go_at_call 77; refine calls_at (word_any w0.heap.size b va (l ++ Md.rowsT (rs.take k)) ⟨#[58]⟩ wr hP.out HS1.out (HW.out.next hK.out).low.size) (by with_reducible rfl) (by with_reducible rfl) ?_; rintro e w3 ⟨rfl, hp3, hk3⟩; have HP3 : Hid (PageAt w0.heap.size b va (l ++ Md.rowsT (rs.take k) ++ 32 :: [58]) w3) := hp3; have HK3 : Hid (Kq w0.heap.size w w3) := hK.out.trans hk3; clear hp3 hk3)
        | (go_at_call 78; refine calls_at (pgNumbers_any b va (l ++ Md.rowsT (rs.take k) ++ 32 :: [58]) _ r w3 (HW.out.next HK3.out) (fun w' hq => HIu.out.below (HW.out.next (HK3.out.trans hq)).low) HXk.out.2 HP3.out HS2.out) (by with_reducible rfl) (by with_reducible rfl) ?_; rintro e w4 ⟨rfl, hp4, hk4⟩; have HP4 : Hid (PageAt w0.heap.size b va (l ++ Md.rowsT (rs.take k) ++ 32 :: [58] ++ Md.numsT r) w4) := hp4; have HK4 : Hid (Kq w0.heap.size w w4) := HK3.out.trans hk4; clear hp4 hk4))
      have HP5 : Hid (PageAt w0.heap.size b va (l ++ Md.rowsT (rs.take (k + 1))) w4) := by
        have := HP4.out
        show PageAt _ _ _ _ _
        rw [HR.out]
        simpa using this
      go_roundw
      case rel => exact ⟨k + 1, by go_num, by omega, HP5, HK4⟩
      case measure => simp [intOf]; omega
    · have hkI : ¬ (k : Int) < (rs.length : Int) := by omega
      have hP' : Hid (PageAt w0.heap.size b va (l ++ Md.rowsT rs) wr) := by
        have := hP.out
        rw [List.take_of_length_le (by omega)] at this
        exact this
      go_wp2_with fail
      go_end0
      exact ⟨rfl, hP'.out, hK.out⟩
end Go.Proofs.YthohnmplbjhjaaaGreatDoor
