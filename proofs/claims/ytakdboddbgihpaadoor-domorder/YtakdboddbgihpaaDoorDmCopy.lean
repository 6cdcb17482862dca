/-
  Package dom: Copy, Same of stores that say the same.
-/
import Derived.Test.YtakdboddbgihpaaDoorDmBack
import Derived.Lib.SliceRun
namespace Go.Proofs.YtakdboddbgihpaaDoor
open Go.RowKit

theorem bl_alloc {W a : World} (h : Below W.heap.size W a) (o : Obj) : Below W.heap.size W (a.alloc o) := h.alloc h.size o
/-- What Clone leaves. -/
def ClOut (L : List Dm) (w : World) (e : Ending) (w' : World) : Prop := ∃ v, e = .returned v ∧ w'.ownsRow w.heap.size 67 3 v L.length (dms L) ∧ Below w.heap.size w w'
set_option maxRecDepth 10000 in
set_option maxHeartbeats 1000000 in
theorem clone_any (B : Nat) (v : Value) (L : List Dm) (w : World) (h : w.ownsRow B 67 3 v L.length (dms L)) (hl : L.length ≤ 400000) : Calls Tryd.prog 31 #[v] w (ClOut L w) := by
  have q57 : ∀ (w : World) (a : Option Addr) (n c n' c' : Nat), (binOp .eql 57 (.slice a n c) (.slice none n' c')).run Tryd.prog w = .ok (.bool a.isNone) w := fun w a n c n' c' => Lib.run_eql_slice_nil w _ _ a n c n' c' und57
  have hs := row_src h
  obtain ⟨a, cap, rfl⟩ := own_slice h
  cases a with
  | none =>
    have h0 : L = [] := by
      rcases h.2 with ⟨_, h2⟩ | ⟨g, cp, cur, e1, _⟩
      · exact List.length_eq_zero_iff.1 h2
      · injection e1 with e1
        cases e1
    subst h0
    clear h hs hl
    go_enter Tryd.func31, Tryd.ntmps31
    go_wp2_with fail
    go_ret
    exact ⟨_, rfl, World.ownsRow_nil _ _ _ _, Below.refl _ _⟩
  | some ad =>
    obtain ⟨W, hW⟩ : ∃ W, w.alloc (.cells #[] 67) = W := ⟨_, rfl⟩
    have hbW : Below w.heap.size w W := by rw [← hW]; exact (Below.refl _ _).alloc (Nat.le_refl _) _
    have HBW : Hid (Below w.heap.size w W) := hbW
    have HO : Hid (W.ownsRow w.heap.size 67 3 (.slice (some ⟨w.heap.size, 0, none⟩) 0 0) 0 []) := by
      refine ⟨rfl, .inr ⟨w.heap.size, 0, #[], rfl, Nat.le_refl _, ?_, Nat.le_refl _, Nat.zero_le _, rfl, rfl⟩⟩
      rw [← hW]; exact heap_alloc_new w _
    have HS : Hid (SrcAt W (.slice (some ad) L.length cap) L.length 3 (dms L)) := row_src (own_below h hbW)
    clear hs h hbW
    go_enter Tryd.func31, Tryd.ntmps31
    go_wp2_with (first
      | (at_builtin; refine append_src W rfl (.tmp 5) (.tmp 6) 57 67 (.agg #[.int .i64 0, .int .u32 0, .int .u32 0]) 3 16 rfl und57 info67b rfl (by decide) w.heap.size _ _ 0 L.length [] _ (by rfl) (by rfl) HO.out HS.out (by unfold maxLen; omega) (by omega) HBW.out.size ?_; intro v1 w1 ho1 hg1 hn1))
    have HO1 : Hid (w1.ownsRow w.heap.size 67 3 v1 L.length (dms L)) := by
      show World.ownsRow _ _ _ _ _ _ _
      rw [Nat.zero_add, List.nil_append] at ho1
      exact ho1
    have HB1 : Hid (Below w.heap.size w w1) := HBW.out.grown hg1 HBW.out.size (fun g hg => by simp [Value.ownBlock] at hg; omega)
    clear ho1 hg1 hn1
    go_wp2_with fail
    go_ret
    exact ⟨_, rfl, HO1.out, HB1.out⟩

/-- What Copy leaves: a store of its own. -/
def CopyOut (s : St) (w : World) (e : Ending) (w' : World) : Prop := ∃ p nv mv, e = .returned (.pointer (some ⟨p, 0, none⟩)) ∧ StAt w.heap.size w' p nv mv s ∧ Below w.heap.size w w'
set_option maxRecDepth 10000 in
set_option maxHeartbeats 1000000 in
theorem copy_any (B p : Nat) (nv mv : Value) (s : St) (w : World) (h : StAt B w p nv mv s) : Calls Tryd.prog 14 #[.pointer (some ⟨p, 0, none⟩)] w (CopyOut s w) := by
  have hlt := h.lt
  have hlen : s.noted.length ≤ 400000 := by
    have h1 := h.len
    have h2 := h.n32
    have h3 := h.mks
    have := Nat.mul_le_mul h3 h2
    omega
  have HA : Hid (StAt B w p nv mv s) := h
  have HS : Hid (∀ w', Below w.heap.size w w' → w'.cell? ⟨p, 0, none⟩ = some nv ∧ w'.cell? ⟨p, 1, none⟩ = some mv ∧ w'.cell? ⟨p, 2, none⟩ = some (.int .i64 (s.marks : Int)) ∧ Below w.heap.size w w') := fun w' hb =>
    ⟨cell_of (h.below hb).o 0, cell_of (h.below hb).o 1, cell_of (h.below hb).o 2, hb⟩
  have HC1 : Hid (∀ w', Below w.heap.size w w' → Calls Tryd.prog 31 #[nv] w' (ClOut s.now w')) := fun w' hb => clone_any B nv s.now w' (h.below hb).n (by have := h.n32; omega)
  have HC2 : Hid (∀ w', Below w.heap.size w w' → Calls Tryd.prog 31 #[mv] w' (ClOut s.noted w')) := fun w' hb => clone_any B mv s.noted w' (h.below hb).m hlen
  clear h hlen
  go_enter Tryd.func14, Tryd.ntmps14
  go_wp2_with fail
  go_region_held3 (fun w' => w'.cell? ⟨p, 0, none⟩ = some nv ∧ w'.cell? ⟨p, 1, none⟩ = some mv ∧ w'.cell? ⟨p, 2, none⟩ = some (.int .i64 (s.marks : Int)) ∧ Below w.heap.size w w')
    (first | exact HS.out _ (Below.refl _ _).drew | exact HS.out _ (bl_next (And.right (And.right (And.right (by assumption)))) (by assumption)) | exact HS.out _ (bl_alloc (And.right (And.right (And.right (by assumption)))) _) | exact HS.out _ (bl_alloc (bl_next (And.right (And.right (And.right (by assumption)))) (by assumption)) _) | assumption)
    (first
      | (go_at_call 31; refine calls_at (HC1.out w.drew (Below.refl _ _).drew) (by with_reducible rfl) (by with_reducible rfl) ?_; rintro e w1 ⟨v1, rfl, ho1, hb1⟩; (have HO1 : Hid (w1.ownsRow w.heap.size 67 3 v1 s.now.length (dms s.now)) := ho1); obtain ⟨a1, k1, rfl⟩ := own_slice ho1; clear ho1)
      | (go_at_call 31; refine calls_at (HC2.out w1 (And.right (And.right (And.right (by assumption))))) (by with_reducible rfl) (by with_reducible rfl) ?_; rintro e w2 ⟨v2, rfl, ho2, hb2⟩; (have HO2 : Hid (w2.ownsRow w1.heap.size 67 3 v2 s.noted.length (dms s.noted)) := ho2); (have HB2 : Hid (Below w1.heap.size w1 w2) := hb2); (have HB1 : Hid (Below w.heap.size w w1) := And.right (And.right (And.right (by assumption)))); obtain ⟨a2, k2, rfl⟩ := own_slice ho2; clear ho2))
  go_wp2_with fail
  go_ret
  have hB : Below w.heap.size w w2 := bl_next HB1.out HB2.out
  have hX : Below w2.heap.size w2 (w2.alloc (.cells #[.slice a1 s.now.length k1, .slice a2 s.noted.length k2, .int .i64 (s.marks : Int)] 59)) := (Below.refl _ _).alloc (Nat.le_refl _) _
  refine ⟨w2.heap.size, .slice a1 s.now.length k1, .slice a2 s.noted.length k2, rfl, ?_, bl_next hB hX⟩
  have hn2 := own_below HO1.out HB2.out
  exact {
    o := heap_alloc_new w2 _
    n := own_below hn2 hX
    m := own_less (own_below HO2.out hX) HB1.out.size
    b1 := Nat.lt_of_le_of_lt (Nat.zero_le _) hlt
    p1 := hB.size
    ne1 := fun e => Nat.lt_irrefl _ (row_lt hn2 e).2
    ne2 := fun e => Nat.lt_irrefl _ (row_lt HO2.out e).2
    ne3 := fun k hk e => by
      have h1 := (row_lt HO1.out hk).2
      have h2 := (row_lt HO2.out e).1
      omega
    good := HA.out.good
    goodm := HA.out.goodm
    len := HA.out.len
    n32 := HA.out.n32
    mks := HA.out.mks }

set_option maxRecDepth 10000 in
set_option maxHeartbeats 1000000 in
theorem equal_self (B B' : Nat) (nv nv' : Value) (L : List Dm) (w : World) (h : w.ownsRow B 67 3 nv L.length (dms L)) (h' : w.ownsRow B' 67 3 nv' L.length (dms L)) (hg : ∀ d ∈ L, d.Ok) (hT : Tz w) (hs : 0 < w.heap.size) (hl : L.length ≤ 32) : Calls Tryd.prog 27 #[nv, nv', .func (.func 28) #[] #[]] w fun e w' => e = .returned (.bool true) ∧ Below w.heap.size w w' := by
  obtain ⟨a, cap, rfl, hc⟩ := dm_form h
  obtain ⟨a', cap', rfl, hc'⟩ := dm_form h'
  have HC : Hid (∀ w', Below w.heap.size w w' → ∀ j (hj : j < L.length), ∃ g, a = some ⟨g, 0, none⟩ ∧ w'.cell? ⟨g, j * 3, none⟩ = some (.int .i64 L[j].f) ∧ w'.cell? ⟨g, j * 3 + 1, none⟩ = some (.int .u32 L[j].a) ∧ w'.cell? ⟨g, j * 3 + 2, none⟩ = some (.int .u32 L[j].b)) := fun w' hb j hj => by
    obtain ⟨g, e1, _, e2, e3, e4, e5, _⟩ := hc j hj
    exact ⟨g, e1, (hb.cell (p := ⟨g, j * 3, none⟩) e2).trans e3, (hb.cell (p := ⟨g, j * 3 + 1, none⟩) e2).trans e4, (hb.cell (p := ⟨g, j * 3 + 2, none⟩) e2).trans e5⟩
  have HC' : Hid (∀ w', Below w.heap.size w w' → ∀ j (hj : j < L.length), ∃ g, a' = some ⟨g, 0, none⟩ ∧ w'.cell? ⟨g, j * 3, none⟩ = some (.int .i64 L[j].f) ∧ w'.cell? ⟨g, j * 3 + 1, none⟩ = some (.int .u32 L[j].a) ∧ w'.cell? ⟨g, j * 3 + 2, none⟩ = some (.int .u32 L[j].b)) := fun w' hb j hj => by
    obtain ⟨g, e1, _, e2, e3, e4, e5, _⟩ := hc' j hj
    exact ⟨g, e1, (hb.cell (p := ⟨g, j * 3, none⟩) e2).trans e3, (hb.cell (p := ⟨g, j * 3 + 1, none⟩) e2).trans e4, (hb.cell (p := ⟨g, j * 3 + 2, none⟩) e2).trans e5⟩
  have HSm : Hid (∀ d ∈ L, ∀ w', Below w.heap.size w w' → Calls Tryd.prog 28 #[dmVal d.f d.a d.b, dmVal d.f d.a d.b] w' fun e w2 => e = .returned (.bool true) ∧ Below w'.heap.size w' w2) := fun d hd w' hb => same_self d.f d.a d.b w' (hg d hd).f1 (hg d hd).f2 (hg d hd).a (hg d hd).b (hT.below hb hs) (Nat.lt_of_lt_of_le hs hb.size)
  clear h h' hc hc' hg hT
  unfold dmVal at *
  go_enter Tryd.func27, Tryd.ntmps27
  go_wp2_with fail
  go_loopw [17] (fun iv wr => ∃ k : Nat, iv = .int .i64 (k : Int) ∧ k ≤ L.length ∧ Hid (Below w.heap.size w wr)) (fun iv _ => L.length - (intOf iv).toNat)
  case atStart => exact ⟨0, rfl, Nat.zero_le _, Below.refl _ _⟩
  case round =>
    obtain ⟨k, rfl, hk, HBr⟩ := hrel
    by_cases hkn : k < L.length
    · obtain ⟨g, rfl, x0, x1, x2⟩ := HC.out wr HBr.out k hkn
      obtain ⟨g', rfl, y0, y1, y2⟩ := HC'.out (wr.alloc (.cells #[.int .i64 L[k].f, .int .u32 L[k].a, .int .u32 L[k].b] 67)) (bl_alloc HBr.out _) k hkn
      have HSd := HSm.out L[k] (List.getElem_mem hkn)
      obtain ⟨d, hd⟩ : ∃ d, L[k] = d := ⟨_, rfl⟩
      rw [hd] at x0 x1 x2 y0 y1 y2 HSd
      have HSD : Hid (∀ w', Below w.heap.size w w' → Calls Tryd.prog 28 #[.agg #[.int .i64 d.f, .int .u32 d.a, .int .u32 d.b], .agg #[.int .i64 d.f, .int .u32 d.a, .int .u32 d.b]] w' fun e w2 => e = .returned (.bool true) ∧ Below w'.heap.size w' w2) := HSd
      have hkI : (k : Int) < (L.length : Int) := by omega
      clear HSd hd
      go_wp2_with fail
      refine calls_at (HSD.out _ (bl_alloc (bl_alloc HBr.out _) _)) (by with_reducible rfl) (by with_reducible rfl) ?_
      rintro e w1 ⟨rfl, hb1⟩
      have HB1 : Hid (Below w.heap.size w w1) := bl_next (bl_alloc (bl_alloc HBr.out _) _) hb1
      clear hb1
      go_wp2_with fail
      go_roundw
      case rel => exact ⟨k + 1, by go_num, hkn, HB1⟩
      case measure => simp [intOf]; omega
    · have hke : k = L.length := by omega
      subst hke
      go_wp2_with fail
      go_ret
      exact ⟨rfl, HBr.out⟩

set_option maxRecDepth 10000 in
set_option maxHeartbeats 1000000 in
theorem same_any (B p B' p' : Nat) (nv mv nv' mv' : Value) (s s' : St) (w : World) (h : StAt B w p nv mv s) (h' : StAt B' w p' nv' mv' s') (he : s'.now = s.now) (hT : Tz w) : Calls Tryd.prog 10 #[.pointer (some ⟨p, 0, none⟩), .pointer (some ⟨p', 0, none⟩)] w fun e w' => e = .returned (.bool true) ∧ Below w.heap.size w w' := by
  have hs : 0 < w.heap.size := Nat.lt_of_le_of_lt (Nat.zero_le _) h.lt
  have HS : Hid (∀ w', Below w.heap.size w w' → w'.cell? ⟨p, 0, none⟩ = some nv ∧ w'.cell? ⟨p', 0, none⟩ = some nv' ∧ Below w.heap.size w w') := fun w' hb =>
    ⟨cell_of (h.below hb).o 0, cell_of (h'.below hb).o 0, hb⟩
  have HE : Hid (∀ w', Below w.heap.size w w' → Calls Tryd.prog 27 #[nv, nv', .func (.func 28) #[] #[]] w' fun e w2 => e = .returned (.bool true) ∧ Below w'.heap.size w' w2) := fun w' hb => equal_self B B' nv nv' s.now w' (h.below hb).n (by have := (h'.below hb).n; rw [he] at this; exact this) h.good (hT.below hb hs) (Nat.lt_of_lt_of_le hs hb.size) h.n32
  clear h h' hT
  go_enter Tryd.func10, Tryd.ntmps10
  go_wp2_with fail
  go_region_held3 (fun w' => w'.cell? ⟨p, 0, none⟩ = some nv ∧ w'.cell? ⟨p', 0, none⟩ = some nv' ∧ Below w.heap.size w w')
    (first | exact HS.out _ (Below.refl _ _).drew | exact HS.out _ (bl_next (And.right (And.right (by assumption))) (by assumption)) | assumption)
    (first
      | (go_at_call 27; refine calls_at (HE.out _ (And.right (And.right (by assumption)))) (by with_reducible rfl) (by with_reducible rfl) ?_; rintro e w1 ⟨rfl, hb1⟩))
  have HB1 : Hid (Below w.heap.size w w1) := And.right (And.right (by assumption))
  go_wp2_with fail
  go_ret
  exact ⟨rfl, HB1.out⟩
end Go.Proofs.YtakdboddbgihpaaDoor
