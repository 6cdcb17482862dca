/-
  The book: lists of texts held against one another.
-/
import Derived.Test.YtpmiplhbppmboaaDoorBkSt
import Derived.BigQuiet
import Derived.Deep.QuietTactic
import Derived.Deep.RegionWith
namespace Go.Proofs.YtpmiplhbppmboaaDoor
open Go Go.RowKit Go.Lib

/-- Lists of lists, each two with the same texts. -/
structure Pairs (w : World) (u v : Value) (N : Nat) : Prop where
  form : ∃ a c a' c', u = .slice a N c ∧ v = .slice a' N c' ∧ N ≤ c ∧ N ≤ c' ∧ N ≤ maxLen ∧ ∀ k, k < N → ∃ b off b' off' x y l, a = some ⟨b, off, none⟩ ∧ b < w.heap.size ∧ w.cell? ⟨b, off + k, none⟩ = some x ∧ a' = some ⟨b', off', none⟩ ∧ b' < w.heap.size ∧ w.cell? ⟨b', off' + k, none⟩ = some y ∧ StAt w x l ∧ StAt w y l

set_option maxRecDepth 100000 in
set_option maxHeartbeats 2000000 in
theorem sameTexts_eq (u v : Value) (l : List ByteArray) (w : World) (hu : StAt w u l) (hv : StAt w v l) : Calls Tryd.prog 34 #[u, v] w fun e w' => e = .returned (.bool true) ∧ w' = w := by
  obtain ⟨a, c, rfl, hlc, hcm, hcell⟩ := hu
  obtain ⟨a', c', rfl, hlc', hcm', hcell'⟩ := hv
  obtain ⟨N, hN⟩ : ∃ N : Nat, l.length = N := ⟨_, rfl⟩
  have HN : Hid (l.length = N) := hN
  have HC : Hid (∀ k (h : k < l.length), ∃ b off, a = some ⟨b, off, none⟩ ∧ b < w.heap.size ∧ w.cell? ⟨b, off + k, none⟩ = some (.string l[k])) := hcell
  have HC' : Hid (∀ k (h : k < l.length), ∃ b off, a' = some ⟨b, off, none⟩ ∧ b < w.heap.size ∧ w.cell? ⟨b, off + k, none⟩ = some (.string l[k])) := hcell'
  have hNm : N ≤ maxLen := by omega
  rw [hN] at hlc hlc' ⊢
  clear hN hcell hcell' hcm hcm'
  unfold maxLen at hNm
  go_enter Tryd.func34, Tryd.ntmps34
  go_wp2_with fail
  go_loopw [5] (fun iv wr => ∃ (k : Nat), iv = .int .i64 (k : Int) ∧ k ≤ N ∧ w = wr) (fun iv _ => N - (intOf iv).toNat)
  case atStart => exact ⟨0, rfl, Nat.zero_le _, rfl⟩
  case round =>
    obtain ⟨k, rfl, hk, hww⟩ := hrel
    subst hww
    by_cases hkN : k < N
    · have hkI : (k : Int) < (N : Int) := by omega
      have hkl : k < l.length := by have := HN.out; omega
      obtain ⟨b, off, ha, hbl, c0⟩ := HC.out k hkl
      obtain ⟨b', off', ha', hbl', c0'⟩ := HC'.out k hkl
      subst ha
      subst ha'
      generalize l[k] = s at *
      go_wp2_with fail
      go_roundw
      case rel => exact ⟨k + 1, by go_num, by omega, trivial⟩
      case measure => simp [intOf]; omega
    · have hkI : ¬ (k : Int) < (N : Int) := by omega
      go_wp2_with fail
      go_ret
      exact ⟨rfl, rfl⟩

set_option maxRecDepth 100000 in
set_option maxHeartbeats 4000000 in
theorem holdTexts_true (P : Nat) (bad : Bool) (turn deep : Int) (t : Tx) (w : World) (h : BkAt w P bad turn deep t) (N M : Nat) (ho : Pairs w t.out t.told N) (hw : Pairs w t.waits t.note M) :
    Calls Tryd.prog 13 #[.pointer (some ⟨P, 0, none⟩)] w fun e w' => e = .returned (.bool true) ∧ RowKit.Below w.heap.size w w' := by
  obtain ⟨a1, c1, a2, c2, e1, e2, hl1, hl2, hNm, hO⟩ := ho
  obtain ⟨a3, c3, a4, c4, e3, e4, hl3, hl4, hMm, hW⟩ := hw
  have HK : Hid (∀ wr, RowKit.Below w.heap.size w wr → wr.cell? ⟨P, 13, none⟩ = some (.slice a1 N c1) ∧ wr.cell? ⟨P, 14, none⟩ = some (.slice a2 N c2) ∧ wr.cell? ⟨P, 15, none⟩ = some (.slice a3 M c3) ∧ wr.cell? ⟨P, 16, none⟩ = some (.slice a4 M c4)) := fun wr hb =>
    ⟨(h.below hb).cell 13 _ (by rw [← e1]; rfl), (h.below hb).cell 14 _ (by rw [← e2]; rfl), (h.below hb).cell 15 _ (by rw [← e3]; rfl), (h.below hb).cell 16 _ (by rw [← e4]; rfl)⟩
  have HO : Hid (∀ k wr, k < N → RowKit.Below w.heap.size w wr → ∃ b off b' off' x y, a1 = some ⟨b, off, none⟩ ∧ wr.cell? ⟨b, off + k, none⟩ = some x ∧ a2 = some ⟨b', off', none⟩ ∧ wr.cell? ⟨b', off' + k, none⟩ = some y ∧ ∀ w', RowKit.Below wr.heap.size wr w' → Calls Tryd.prog 34 #[x, y] w' fun e w'' => e = .returned (.bool true) ∧ w'' = w') := fun k wr hk hb => by
    obtain ⟨b, off, b', off', x, y, l, ea, hlt, q1, ea', hlt', q2, s1, s2⟩ := hO k hk
    exact ⟨b, off, b', off', x, y, ea, (hb.cell (p := ⟨b, off + k, none⟩) hlt).trans q1, ea', (hb.cell (p := ⟨b', off' + k, none⟩) hlt').trans q2, fun w' hb' => sameTexts_eq _ _ l w' ((s1.below hb).below hb') ((s2.below hb).below hb')⟩
  have HW : Hid (∀ k wr, k < M → RowKit.Below w.heap.size w wr → ∃ b off b' off' x y, a3 = some ⟨b, off, none⟩ ∧ wr.cell? ⟨b, off + k, none⟩ = some x ∧ a4 = some ⟨b', off', none⟩ ∧ wr.cell? ⟨b', off' + k, none⟩ = some y ∧ ∀ w', RowKit.Below wr.heap.size wr w' → Calls Tryd.prog 34 #[x, y] w' fun e w'' => e = .returned (.bool true) ∧ w'' = w') := fun k wr hk hb => by
    obtain ⟨b, off, b', off', x, y, l, ea, hlt, q1, ea', hlt', q2, s1, s2⟩ := hW k hk
    exact ⟨b, off, b', off', x, y, ea, (hb.cell (p := ⟨b, off + k, none⟩) hlt).trans q1, ea', (hb.cell (p := ⟨b', off' + k, none⟩) hlt').trans q2, fun w' hb' => sameTexts_eq _ _ l w' ((s1.below hb).below hb') ((s2.below hb).below hb')⟩
  have Hb0 : Hid (RowKit.Below w.heap.size w w) := Below.refl _ _
  unfold maxLen at hNm hMm
  clear h hO hW e1 e2 e3 e4
  go_enter Tryd.func13, Tryd.ntmps13
  go_wp2_with fail
  go_loopw [3] (fun iv wr => ∃ (k : Nat), iv = .int .i64 (k : Int) ∧ k ≤ N ∧ Hid (RowKit.Below w.heap.size w wr)) (fun iv _ => N - (intOf iv).toNat)
  case atStart => exact ⟨0, rfl, Nat.zero_le _, Hb0⟩
  case round =>
    obtain ⟨k, rfl, hk, hb⟩ := hrel
    clear Hb0
    obtain ⟨k0, k1, k2, k3⟩ := HK.out wr hb.out
    by_cases hkN : k < N
    · have hkI : (k : Int) < (N : Int) := by omega
      obtain ⟨b, off, b', off', x, y, rfl, q1, rfl, q2, hs⟩ := HO.out k wr hkN hb.out
      have HS : Hid (Calls Tryd.prog 34 #[x, y] wr.drew fun e w'' => e = .returned (.bool true) ∧ w'' = wr.drew) := hs _ (Below.refl _ _).drew
      have Hb1 : Hid (RowKit.Below w.heap.size w wr.drew) := hb.out.drew
      clear hs
      go_wp2_with fail
      go_region_with (first | (go_at_call 34; refine calls_at HS.out (by with_reducible rfl) (by with_reducible rfl) ?_; rintro e w2 ⟨rfl, hww⟩; rw [hww]; clear hww))
      all_goals
        go_wp2_with fail
        go_roundw
        case rel => exact ⟨k + 1, by go_num, by omega, Hb1⟩
        case measure => simp [intOf]; omega
    · have hkI : ¬ (k : Int) < (N : Int) := by omega
      go_wp2_with fail
      go_loopw [4] (fun iv wx => ∃ (j : Nat), iv = .int .i64 (j : Int) ∧ j ≤ M ∧ Hid (RowKit.Below w.heap.size w wx)) (fun iv _ => M - (intOf iv).toNat)
      case atStart => exact ⟨0, rfl, Nat.zero_le _, hb⟩
      case round =>
        obtain ⟨j, rfl, hj, hbx⟩ := hrel
        clear k0 k1 k2 k3
        rename World => wx
        obtain ⟨k0, k1, k2, k3⟩ := HK.out wx hbx.out
        by_cases hjM : j < M
        · have hjI : (j : Int) < (M : Int) := by omega
          obtain ⟨b, off, b', off', x, y, rfl, q1, rfl, q2, hs⟩ := HW.out j wx hjM hbx.out
          have HS : Hid (Calls Tryd.prog 34 #[x, y] wx.drew fun e w'' => e = .returned (.bool true) ∧ w'' = wx.drew) := hs _ (Below.refl _ _).drew
          have Hb1 : Hid (RowKit.Below w.heap.size w wx.drew) := hbx.out.drew
          clear hs
          go_wp2_with fail
          go_region_with (first | (go_at_call 34; refine calls_at HS.out (by with_reducible rfl) (by with_reducible rfl) ?_; rintro e w2 ⟨rfl, hww⟩; rw [hww]; clear hww))
          all_goals
            go_wp2_with fail
            go_roundw
            case rel => exact ⟨j + 1, by go_num, by omega, Hb1⟩
            case measure => simp [intOf]; omega
        · have hjI : ¬ (j : Int) < (M : Int) := by omega
          go_wp2_with fail
          go_ret
          exact ⟨rfl, hbx.out⟩
end Go.Proofs.YtpmiplhbppmboaaDoor
