/-
  Package dom: what is asked of a variable that is there.
-/
import Derived.Test.YtakdboddbgihpaaDoorJ34
namespace Go.Proofs.YtakdboddbgihpaaDoor
open Go.RowKit

set_option maxRecDepth 10000 in
set_option maxHeartbeats 400000 in
theorem lo_in (B p : Nat) (nv mv : Value) (s : St) (x : Nat) (hx : x < s.now.length) (w : World) (h : StAt B w p nv mv s) (hT : Tz w) : Calls Tryd.prog 22 #[.pointer (some ⟨p, 0, none⟩), .int .i64 (x : Int)] w fun e w' => e = .returned (.int .i64 (s.now[x].f + bLow s.now[x].a s.now[x].b)) ∧ Below w.heap.size w w' := by
  have c0 : w.cell? ⟨p, 0, none⟩ = some nv := cell_of h.o 0
  have HIs : Hid (Calls Tryd.prog 29 #[.pointer (some ⟨p, 0, none⟩), .int .i64 (x : Int)] w fun e w' => e = .returned (.bool true) ∧ w' = w) := by
    have := is_any B p nv mv s x w h
    have e : isB s.now.length (x : Int) = true := by simp [isB]; omega
    rw [e] at this
    exact this
  have hok := h.good s.now[x] (List.getElem_mem hx)
  have hs : 0 < w.heap.size := Nat.lt_of_le_of_lt (Nat.zero_le _) h.lt
  have hn := h.n32
  obtain ⟨a, cap, rfl, hc⟩ := dm_form h.n
  obtain ⟨g, rfl, _, _, k0, k1, k2, _⟩ := hc x hx
  obtain ⟨d, hd⟩ : ∃ d, s.now[x] = d := ⟨_, rfl⟩
  rw [hd] at k0 k1 k2 hok ⊢
  have HC : Hid (Calls Tryd.prog 36 #[dmVal d.f d.a d.b] w fun e w' => e = .returned (.int .i64 (d.f + bLow d.a d.b)) ∧ Below w.heap.size w w') := lo_any _ _ _ w hok.f1 hok.f2 hok.a hok.b hT hs
  have hxI : (x : Int) < (s.now.length : Int) := by omega
  clear h hc hd hok
  (try unfold dmVal at *); (try unfold btVal at *)
  go_enter Tryd.func22, Tryd.ntmps22
  go_wp2_with fail
  refine calls_at HIs.out (by with_reducible rfl) (by with_reducible rfl) ?_
  rintro e w1 ⟨rfl, rfl⟩
  go_wp2_with fail
  refine calls_at HC.out (by with_reducible rfl) (by with_reducible rfl) ?_
  rintro e w2 ⟨rfl, hb2⟩
  have HB2 : Hid (Below w1.heap.size w1 w2) := hb2
  clear hb2
  go_wp2_with fail
  go_ret
  exact ⟨rfl, HB2.out⟩

set_option maxRecDepth 10000 in
set_option maxHeartbeats 400000 in
theorem hi_in (B p : Nat) (nv mv : Value) (s : St) (x : Nat) (hx : x < s.now.length) (w : World) (h : StAt B w p nv mv s) : Calls Tryd.prog 21 #[.pointer (some ⟨p, 0, none⟩), .int .i64 (x : Int)] w fun e w' => e = .returned (.int .i64 (s.now[x].f + bHigh s.now[x].a s.now[x].b)) ∧ Below w.heap.size w w' := by
  have c0 : w.cell? ⟨p, 0, none⟩ = some nv := cell_of h.o 0
  have HIs : Hid (Calls Tryd.prog 29 #[.pointer (some ⟨p, 0, none⟩), .int .i64 (x : Int)] w fun e w' => e = .returned (.bool true) ∧ w' = w) := by
    have := is_any B p nv mv s x w h
    have e : isB s.now.length (x : Int) = true := by simp [isB]; omega
    rw [e] at this
    exact this
  have hok := h.good s.now[x] (List.getElem_mem hx)
  have hs : 0 < w.heap.size := Nat.lt_of_le_of_lt (Nat.zero_le _) h.lt
  have hn := h.n32
  obtain ⟨a, cap, rfl, hc⟩ := dm_form h.n
  obtain ⟨g, rfl, _, _, k0, k1, k2, _⟩ := hc x hx
  obtain ⟨d, hd⟩ : ∃ d, s.now[x] = d := ⟨_, rfl⟩
  rw [hd] at k0 k1 k2 hok ⊢
  have HC : Hid (Calls Tryd.prog 35 #[dmVal d.f d.a d.b] w fun e w' => e = .returned (.int .i64 (d.f + bHigh d.a d.b)) ∧ Below w.heap.size w w') := hi_any _ _ _ w hok.f1 hok.f2 hok.a hok.b
  have hxI : (x : Int) < (s.now.length : Int) := by omega
  clear h hc hd hok
  (try unfold dmVal at *); (try unfold btVal at *)
  go_enter Tryd.func21, Tryd.ntmps21
  go_wp2_with fail
  refine calls_at HIs.out (by with_reducible rfl) (by with_reducible rfl) ?_
  rintro e w1 ⟨rfl, rfl⟩
  go_wp2_with fail
  refine calls_at HC.out (by with_reducible rfl) (by with_reducible rfl) ?_
  rintro e w2 ⟨rfl, hb2⟩
  have HB2 : Hid (Below w1.heap.size w1 w2) := hb2
  clear hb2
  go_wp2_with fail
  go_ret
  exact ⟨rfl, HB2.out⟩

set_option maxRecDepth 10000 in
set_option maxHeartbeats 400000 in
theorem size_in (B p : Nat) (nv mv : Value) (s : St) (x : Nat) (hx : x < s.now.length) (w : World) (h : StAt B w p nv mv s) : Calls Tryd.prog 17 #[.pointer (some ⟨p, 0, none⟩), .int .i64 (x : Int)] w fun e w' => e = .returned (.int .i64 (bSize s.now[x].a s.now[x].b)) ∧ Below w.heap.size w w' := by
  have c0 : w.cell? ⟨p, 0, none⟩ = some nv := cell_of h.o 0
  have HIs : Hid (Calls Tryd.prog 29 #[.pointer (some ⟨p, 0, none⟩), .int .i64 (x : Int)] w fun e w' => e = .returned (.bool true) ∧ w' = w) := by
    have := is_any B p nv mv s x w h
    have e : isB s.now.length (x : Int) = true := by simp [isB]; omega
    rw [e] at this
    exact this
  have hok := h.good s.now[x] (List.getElem_mem hx)
  have hs : 0 < w.heap.size := Nat.lt_of_le_of_lt (Nat.zero_le _) h.lt
  have hn := h.n32
  obtain ⟨a, cap, rfl, hc⟩ := dm_form h.n
  obtain ⟨g, rfl, _, _, k0, k1, k2, _⟩ := hc x hx
  obtain ⟨d, hd⟩ : ∃ d, s.now[x] = d := ⟨_, rfl⟩
  rw [hd] at k0 k1 k2 hok ⊢
  have HC : Hid (Calls Tryd.prog 32 #[btVal d.a d.b] w fun e w' => e = .returned (.int .i64 (bSize d.a d.b)) ∧ Below w.heap.size w w') := size_any _ _ w hok.a hok.b
  have hxI : (x : Int) < (s.now.length : Int) := by omega
  clear h hc hd hok
  (try unfold dmVal at *); (try unfold btVal at *)
  go_enter Tryd.func17, Tryd.ntmps17
  go_wp2_with fail
  refine calls_at HIs.out (by with_reducible rfl) (by with_reducible rfl) ?_
  rintro e w1 ⟨rfl, rfl⟩
  go_wp2_with fail
  refine calls_at HC.out (by with_reducible rfl) (by with_reducible rfl) ?_
  rintro e w2 ⟨rfl, hb2⟩
  have HB2 : Hid (Below w1.heap.size w1 w2) := hb2
  clear hb2
  go_wp2_with fail
  go_ret
  exact ⟨rfl, HB2.out⟩

set_option maxRecDepth 10000 in
set_option maxHeartbeats 400000 in
theorem has_in (B p : Nat) (nv mv : Value) (s : St) (x : Nat) (hx : x < s.now.length) (v : Int) (w : World) (h : StAt B w p nv mv s) : Calls Tryd.prog 12 #[.pointer (some ⟨p, 0, none⟩), .int .i64 (x : Int), .int .i64 v] w fun e w' => e = .returned (.bool (dHas s.now[x].f s.now[x].a s.now[x].b v)) ∧ Below w.heap.size w w' := by
  have c0 : w.cell? ⟨p, 0, none⟩ = some nv := cell_of h.o 0
  have HIs : Hid (Calls Tryd.prog 29 #[.pointer (some ⟨p, 0, none⟩), .int .i64 (x : Int)] w fun e w' => e = .returned (.bool true) ∧ w' = w) := by
    have := is_any B p nv mv s x w h
    have e : isB s.now.length (x : Int) = true := by simp [isB]; omega
    rw [e] at this
    exact this
  have hok := h.good s.now[x] (List.getElem_mem hx)
  have hs : 0 < w.heap.size := Nat.lt_of_le_of_lt (Nat.zero_le _) h.lt
  have hn := h.n32
  obtain ⟨a, cap, rfl, hc⟩ := dm_form h.n
  obtain ⟨g, rfl, _, _, k0, k1, k2, _⟩ := hc x hx
  obtain ⟨d, hd⟩ : ∃ d, s.now[x] = d := ⟨_, rfl⟩
  rw [hd] at k0 k1 k2 hok ⊢
  have HC : Hid (Calls Tryd.prog 30 #[dmVal d.f d.a d.b, .int .i64 v] w fun e w' => e = .returned (.bool (dHas d.f d.a d.b v)) ∧ Below w.heap.size w w') := holds_any _ _ _ v w hok.f1 hok.f2
  have hxI : (x : Int) < (s.now.length : Int) := by omega
  clear h hc hd hok
  (try unfold dmVal at *); (try unfold btVal at *)
  go_enter Tryd.func12, Tryd.ntmps12
  go_wp2_with fail
  refine calls_at HIs.out (by with_reducible rfl) (by with_reducible rfl) ?_
  rintro e w1 ⟨rfl, rfl⟩
  go_wp2_with fail
  refine calls_at HC.out (by with_reducible rfl) (by with_reducible rfl) ?_
  rintro e w2 ⟨rfl, hb2⟩
  have HB2 : Hid (Below w1.heap.size w1 w2) := hb2
  clear hb2
  go_wp2_with fail
  go_ret
  exact ⟨rfl, HB2.out⟩

set_option maxRecDepth 10000 in
set_option maxHeartbeats 400000 in
theorem values_in (B p : Nat) (nv mv : Value) (s : St) (x : Nat) (hx : x < s.now.length) (w : World) (h : StAt B w p nv mv s) (hT : Tz w) : Calls Tryd.prog 20 #[.pointer (some ⟨p, 0, none⟩), .int .i64 (x : Int)] w (VsOut (dAll s.now[x].f s.now[x].a s.now[x].b) w) := by
  have c0 : w.cell? ⟨p, 0, none⟩ = some nv := cell_of h.o 0
  have HIs : Hid (Calls Tryd.prog 29 #[.pointer (some ⟨p, 0, none⟩), .int .i64 (x : Int)] w fun e w' => e = .returned (.bool true) ∧ w' = w) := by
    have := is_any B p nv mv s x w h
    have e : isB s.now.length (x : Int) = true := by simp [isB]; omega
    rw [e] at this
    exact this
  have hok := h.good s.now[x] (List.getElem_mem hx)
  have hs : 0 < w.heap.size := Nat.lt_of_le_of_lt (Nat.zero_le _) h.lt
  have hn := h.n32
  obtain ⟨a, cap, rfl, hc⟩ := dm_form h.n
  obtain ⟨g, rfl, _, _, k0, k1, k2, _⟩ := hc x hx
  obtain ⟨d, hd⟩ : ∃ d, s.now[x] = d := ⟨_, rfl⟩
  rw [hd] at k0 k1 k2 hok ⊢
  have HC : Hid (Calls Tryd.prog 34 #[dmVal d.f d.a d.b] w (VsOut (dAll d.f d.a d.b) w)) := values_any _ _ _ w hok.f1 hok.f2 hok.a hok.b hT hs
  have hxI : (x : Int) < (s.now.length : Int) := by omega
  clear h hc hd hok
  (try unfold dmVal at *); (try unfold btVal at *)
  go_enter Tryd.func20, Tryd.ntmps20
  go_wp2_with fail
  refine calls_at HIs.out (by with_reducible rfl) (by with_reducible rfl) ?_
  rintro e w1 ⟨rfl, rfl⟩
  go_wp2_with fail
  refine calls_at HC.out (by with_reducible rfl) (by with_reducible rfl) ?_
  rintro e w2 ⟨v, rfl, ho, hb2⟩
  have HO : Hid (w2.ownsRow w1.heap.size 3 1 v (dAll d.f d.a d.b).length ((dAll d.f d.a d.b).map (.int .i64))) := ho
  have HB2 : Hid (Below w1.heap.size w1 w2) := hb2
  clear hb2 ho
  go_wp2_with fail
  go_ret
  exact ⟨_, rfl, HO.out, HB2.out⟩
end Go.Proofs.YtakdboddbgihpaaDoor
