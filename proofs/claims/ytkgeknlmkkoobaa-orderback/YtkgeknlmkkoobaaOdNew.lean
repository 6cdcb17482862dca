/-
  New: the program's.
-/
import Derived.Test.YtkgeknlmkkoobaaOdPicks
import Derived.Test.YtkgeknlmkkoobaaMdOpenM
import Derived.Deep.CutRange
import Derived.Test.YtkgeknlmkkoobaaOdLists
namespace Go.Proofs.Ytkgeknlmkkoobaa
open Go.RowKit

theorem und63' : Try.prog.underlying 63 = some (.slice 77) := by kernel_rfl
theorem und64' : Try.prog.underlying 64 = some (.slice 81) := by kernel_rfl
theorem und65' : Try.prog.underlying 65 = some (.slice 86) := by kernel_rfl
theorem info77' : (Try.prog.info? 77).map (fun i => (i.zero, i.size, i.bytes)) = some (some (.agg #[.int .i64 0, .int .i64 0, .int .i64 0, .int .i64 0, .int .i64 0, .int .i64 0]), 6, 48) := by kernel_rfl
theorem info81' : (Try.prog.info? 81).map (fun i => (i.zero, i.size, i.bytes)) = some (some (.agg #[.int .i64 0, .int .i64 0]), 2, 16) := by kernel_rfl
theorem info86' : (Try.prog.info? 86).map (fun i => (i.zero, i.size, i.bytes)) = some (some (.agg #[.int .i64 0, .int .i64 0, .int .i64 0, .slice none 0 0, .slice none 0 0]), 5, 72) := by kernel_rfl
def oV (n : Nat) : Obj := .cells (madeCells #[.int .i64 0, .int .i64 0, .int .i64 0, .int .i64 0, .int .i64 0, .int .i64 0] (n * 6)) 77
def oM (n : Nat) : Obj := .cells (madeCells #[.int .i64 0, .int .i64 0] ((n + 1) * 2)) 81
def oK (n : Nat) : Obj := .cells (madeCells #[.int .i64 0, .int .i64 0, .int .i64 0, .slice none 0 0, .slice none 0 0] (n * 5)) 86
theorem mk63 (n : Nat) (h : n ≤ 1000000) (w : World) : (Instr.makeSlice 63 (.int .i64 (n : Int)) (.int .i64 (n : Int))).run Try.prog w = .ok (.slice (some ⟨w.heap.size, 0, none⟩) n n) (w.alloc (oV n)) := make_any 63 77 _ 6 48 und63' info77' n (by omega) (by omega) w
theorem mk64 (n : Nat) (h : n ≤ 1000000) (w : World) : (Instr.makeSlice 64 (.int .i64 ((n : Int) + 1)) (.int .i64 ((n : Int) + 1))).run Try.prog w = .ok (.slice (some ⟨w.heap.size, 0, none⟩) (n + 1) (n + 1)) (w.alloc (oM n)) := make_any 64 81 _ 2 16 und64' info81' (n + 1) (by omega) (by omega) w
theorem mk65 (n : Nat) (h : n ≤ 1000000) (w : World) : (Instr.makeSlice 65 (.int .i64 (n : Int)) (.int .i64 (n : Int))).run Try.prog w = .ok (.slice (some ⟨w.heap.size, 0, none⟩) n n) (w.alloc (oK n)) := make_any 65 86 _ 5 72 und65' info86' n (by omega) (by omega) w
/-- How an order lies when it is new. -/
structure Fresh (nn nq : Nat) (W wx : World) (s : Sh) : Prop where
  hn : s.n = nn
  hq : s.nc = nq
  o : wx.heap[s.P]? = some (.cells (hdr s 0) 67 (0, 0))
  v : wx.heap[s.vb]? = some (oV nn)
  m : wx.heap[s.mb]? = some (oM nn)
  k : wx.heap[s.kb]? = some (oK nq)
  pv : s.P ≠ s.vb
  pm : s.P ≠ s.mb
  pk : s.P ≠ s.kb
  vm : s.vb ≠ s.mb
  vk : s.vb ≠ s.kb
  mq : s.mb ≠ s.kb
  bp : W.heap.size ≤ s.P
  bv : W.heap.size ≤ s.vb
  bm : W.heap.size ≤ s.mb
  bk : W.heap.size ≤ s.kb
  b : Below W.heap.size W wx
def FreshAt (n nc : Nat) (W : World) (v : Value) (wx : World) : Prop := ∃ s, v = .pointer (some ⟨s.P, 0, none⟩) ∧ Fresh n nc W wx s

theorem heap4 (w : World) (a b c d : Obj) : ((((w.alloc a).alloc b).alloc c).alloc d).drew.heap[w.heap.size]? = some a ∧ ((((w.alloc a).alloc b).alloc c).alloc d).drew.heap[w.heap.size + 1]? = some b ∧ ((((w.alloc a).alloc b).alloc c).alloc d).drew.heap[w.heap.size + 1 + 1]? = some c ∧ ((((w.alloc a).alloc b).alloc c).alloc d).drew.heap[w.heap.size + 1 + 1 + 1]? = some d ∧ Below w.heap.size w ((((w.alloc a).alloc b).alloc c).alloc d).drew := by
  have s1 : (w.alloc a).heap.size = w.heap.size + 1 := by simp
  have s2 : ((w.alloc a).alloc b).heap.size = w.heap.size + 1 + 1 := by simp
  have s3 : (((w.alloc a).alloc b).alloc c).heap.size = w.heap.size + 1 + 1 + 1 := by simp
  have n0 := heap_alloc_new w a
  have n1 := heap_alloc_new (w.alloc a) b
  have n2 := heap_alloc_new ((w.alloc a).alloc b) c
  have n3 := heap_alloc_new (((w.alloc a).alloc b).alloc c) d
  rw [s1] at n1
  rw [s2] at n2
  rw [s3] at n3
  refine ⟨?_, ?_, ?_, n3, ?_⟩
  · exact (heap_alloc_old _ d (by omega)).trans ((heap_alloc_old _ c (by omega)).trans ((heap_alloc_old _ b (by omega)).trans n0))
  · exact (heap_alloc_old _ d (by omega)).trans ((heap_alloc_old _ c (by omega)).trans n1)
  · exact (heap_alloc_old _ d (by omega)).trans n2
  · exact (((((Below.refl _ _).alloc (Nat.le_refl _) _).alloc (by omega) _).alloc (by omega) _).alloc (by omega) _).drew
theorem fresh_vmk (n nc : Nat) (w : World) : FreshAt n nc w (.pointer (some ⟨w.heap.size + 1 + 1 + 1, 0, none⟩)) ((((w.alloc (oV n)).alloc (oM n)).alloc (oK nc)).alloc (.cells #[.int .i64 0, .slice (some ⟨w.heap.size, 0, none⟩) n n, .slice (some ⟨w.heap.size + 1, 0, none⟩) (n + 1) (n + 1), .slice (some ⟨w.heap.size + 1 + 1, 0, none⟩) nc nc] 67)).drew := by
  obtain ⟨h0, h1, h2, h3, hb⟩ := heap4 w (oV n) (oM n) (oK nc) (.cells #[.int .i64 0, .slice (some ⟨w.heap.size, 0, none⟩) n n, .slice (some ⟨w.heap.size + 1, 0, none⟩) (n + 1) (n + 1), .slice (some ⟨w.heap.size + 1 + 1, 0, none⟩) nc nc] 67)
  exact ⟨⟨w.heap.size + 1 + 1 + 1, w.heap.size, w.heap.size + 1, w.heap.size + 1 + 1, n, nc⟩, rfl, rfl, rfl, h3, h0, h1, h2, by show w.heap.size + 1 + 1 + 1 ≠ w.heap.size; omega, by show w.heap.size + 1 + 1 + 1 ≠ w.heap.size + 1; omega, by show w.heap.size + 1 + 1 + 1 ≠ w.heap.size + 1 + 1; omega, by show w.heap.size ≠ w.heap.size + 1; omega, by show w.heap.size ≠ w.heap.size + 1 + 1; omega, by show w.heap.size + 1 ≠ w.heap.size + 1 + 1; omega, by show w.heap.size ≤ w.heap.size + 1 + 1 + 1; omega, by show w.heap.size ≤ w.heap.size; omega, by show w.heap.size ≤ w.heap.size + 1; omega, by show w.heap.size ≤ w.heap.size + 1 + 1; omega, hb⟩
theorem fresh_vkm (n nc : Nat) (w : World) : FreshAt n nc w (.pointer (some ⟨w.heap.size + 1 + 1 + 1, 0, none⟩)) ((((w.alloc (oV n)).alloc (oK nc)).alloc (oM n)).alloc (.cells #[.int .i64 0, .slice (some ⟨w.heap.size, 0, none⟩) n n, .slice (some ⟨w.heap.size + 1 + 1, 0, none⟩) (n + 1) (n + 1), .slice (some ⟨w.heap.size + 1, 0, none⟩) nc nc] 67)).drew := by
  obtain ⟨h0, h1, h2, h3, hb⟩ := heap4 w (oV n) (oK nc) (oM n) (.cells #[.int .i64 0, .slice (some ⟨w.heap.size, 0, none⟩) n n, .slice (some ⟨w.heap.size + 1 + 1, 0, none⟩) (n + 1) (n + 1), .slice (some ⟨w.heap.size + 1, 0, none⟩) nc nc] 67)
  exact ⟨⟨w.heap.size + 1 + 1 + 1, w.heap.size, w.heap.size + 1 + 1, w.heap.size + 1, n, nc⟩, rfl, rfl, rfl, h3, h0, h2, h1, by show w.heap.size + 1 + 1 + 1 ≠ w.heap.size; omega, by show w.heap.size + 1 + 1 + 1 ≠ w.heap.size + 1 + 1; omega, by show w.heap.size + 1 + 1 + 1 ≠ w.heap.size + 1; omega, by show w.heap.size ≠ w.heap.size + 1 + 1; omega, by show w.heap.size ≠ w.heap.size + 1; omega, by show w.heap.size + 1 + 1 ≠ w.heap.size + 1; omega, by show w.heap.size ≤ w.heap.size + 1 + 1 + 1; omega, by show w.heap.size ≤ w.heap.size; omega, by show w.heap.size ≤ w.heap.size + 1 + 1; omega, by show w.heap.size ≤ w.heap.size + 1; omega, hb⟩
theorem fresh_mvk (n nc : Nat) (w : World) : FreshAt n nc w (.pointer (some ⟨w.heap.size + 1 + 1 + 1, 0, none⟩)) ((((w.alloc (oM n)).alloc (oV n)).alloc (oK nc)).alloc (.cells #[.int .i64 0, .slice (some ⟨w.heap.size + 1, 0, none⟩) n n, .slice (some ⟨w.heap.size, 0, none⟩) (n + 1) (n + 1), .slice (some ⟨w.heap.size + 1 + 1, 0, none⟩) nc nc] 67)).drew := by
  obtain ⟨h0, h1, h2, h3, hb⟩ := heap4 w (oM n) (oV n) (oK nc) (.cells #[.int .i64 0, .slice (some ⟨w.heap.size + 1, 0, none⟩) n n, .slice (some ⟨w.heap.size, 0, none⟩) (n + 1) (n + 1), .slice (some ⟨w.heap.size + 1 + 1, 0, none⟩) nc nc] 67)
  exact ⟨⟨w.heap.size + 1 + 1 + 1, w.heap.size + 1, w.heap.size, w.heap.size + 1 + 1, n, nc⟩, rfl, rfl, rfl, h3, h1, h0, h2, by show w.heap.size + 1 + 1 + 1 ≠ w.heap.size + 1; omega, by show w.heap.size + 1 + 1 + 1 ≠ w.heap.size; omega, by show w.heap.size + 1 + 1 + 1 ≠ w.heap.size + 1 + 1; omega, by show w.heap.size + 1 ≠ w.heap.size; omega, by show w.heap.size + 1 ≠ w.heap.size + 1 + 1; omega, by show w.heap.size ≠ w.heap.size + 1 + 1; omega, by show w.heap.size ≤ w.heap.size + 1 + 1 + 1; omega, by show w.heap.size ≤ w.heap.size + 1; omega, by show w.heap.size ≤ w.heap.size; omega, by show w.heap.size ≤ w.heap.size + 1 + 1; omega, hb⟩
theorem fresh_mkv (n nc : Nat) (w : World) : FreshAt n nc w (.pointer (some ⟨w.heap.size + 1 + 1 + 1, 0, none⟩)) ((((w.alloc (oM n)).alloc (oK nc)).alloc (oV n)).alloc (.cells #[.int .i64 0, .slice (some ⟨w.heap.size + 1 + 1, 0, none⟩) n n, .slice (some ⟨w.heap.size, 0, none⟩) (n + 1) (n + 1), .slice (some ⟨w.heap.size + 1, 0, none⟩) nc nc] 67)).drew := by
  obtain ⟨h0, h1, h2, h3, hb⟩ := heap4 w (oM n) (oK nc) (oV n) (.cells #[.int .i64 0, .slice (some ⟨w.heap.size + 1 + 1, 0, none⟩) n n, .slice (some ⟨w.heap.size, 0, none⟩) (n + 1) (n + 1), .slice (some ⟨w.heap.size + 1, 0, none⟩) nc nc] 67)
  exact ⟨⟨w.heap.size + 1 + 1 + 1, w.heap.size + 1 + 1, w.heap.size, w.heap.size + 1, n, nc⟩, rfl, rfl, rfl, h3, h2, h0, h1, by show w.heap.size + 1 + 1 + 1 ≠ w.heap.size + 1 + 1; omega, by show w.heap.size + 1 + 1 + 1 ≠ w.heap.size; omega, by show w.heap.size + 1 + 1 + 1 ≠ w.heap.size + 1; omega, by show w.heap.size + 1 + 1 ≠ w.heap.size; omega, by show w.heap.size + 1 + 1 ≠ w.heap.size + 1; omega, by show w.heap.size ≠ w.heap.size + 1; omega, by show w.heap.size ≤ w.heap.size + 1 + 1 + 1; omega, by show w.heap.size ≤ w.heap.size + 1 + 1; omega, by show w.heap.size ≤ w.heap.size; omega, by show w.heap.size ≤ w.heap.size + 1; omega, hb⟩
theorem fresh_kvm (n nc : Nat) (w : World) : FreshAt n nc w (.pointer (some ⟨w.heap.size + 1 + 1 + 1, 0, none⟩)) ((((w.alloc (oK nc)).alloc (oV n)).alloc (oM n)).alloc (.cells #[.int .i64 0, .slice (some ⟨w.heap.size + 1, 0, none⟩) n n, .slice (some ⟨w.heap.size + 1 + 1, 0, none⟩) (n + 1) (n + 1), .slice (some ⟨w.heap.size, 0, none⟩) nc nc] 67)).drew := by
  obtain ⟨h0, h1, h2, h3, hb⟩ := heap4 w (oK nc) (oV n) (oM n) (.cells #[.int .i64 0, .slice (some ⟨w.heap.size + 1, 0, none⟩) n n, .slice (some ⟨w.heap.size + 1 + 1, 0, none⟩) (n + 1) (n + 1), .slice (some ⟨w.heap.size, 0, none⟩) nc nc] 67)
  exact ⟨⟨w.heap.size + 1 + 1 + 1, w.heap.size + 1, w.heap.size + 1 + 1, w.heap.size, n, nc⟩, rfl, rfl, rfl, h3, h1, h2, h0, by show w.heap.size + 1 + 1 + 1 ≠ w.heap.size + 1; omega, by show w.heap.size + 1 + 1 + 1 ≠ w.heap.size + 1 + 1; omega, by show w.heap.size + 1 + 1 + 1 ≠ w.heap.size; omega, by show w.heap.size + 1 ≠ w.heap.size + 1 + 1; omega, by show w.heap.size + 1 ≠ w.heap.size; omega, by show w.heap.size + 1 + 1 ≠ w.heap.size; omega, by show w.heap.size ≤ w.heap.size + 1 + 1 + 1; omega, by show w.heap.size ≤ w.heap.size + 1; omega, by show w.heap.size ≤ w.heap.size + 1 + 1; omega, by show w.heap.size ≤ w.heap.size; omega, hb⟩
theorem fresh_kmv (n nc : Nat) (w : World) : FreshAt n nc w (.pointer (some ⟨w.heap.size + 1 + 1 + 1, 0, none⟩)) ((((w.alloc (oK nc)).alloc (oM n)).alloc (oV n)).alloc (.cells #[.int .i64 0, .slice (some ⟨w.heap.size + 1 + 1, 0, none⟩) n n, .slice (some ⟨w.heap.size + 1, 0, none⟩) (n + 1) (n + 1), .slice (some ⟨w.heap.size, 0, none⟩) nc nc] 67)).drew := by
  obtain ⟨h0, h1, h2, h3, hb⟩ := heap4 w (oK nc) (oM n) (oV n) (.cells #[.int .i64 0, .slice (some ⟨w.heap.size + 1 + 1, 0, none⟩) n n, .slice (some ⟨w.heap.size + 1, 0, none⟩) (n + 1) (n + 1), .slice (some ⟨w.heap.size, 0, none⟩) nc nc] 67)
  exact ⟨⟨w.heap.size + 1 + 1 + 1, w.heap.size + 1 + 1, w.heap.size + 1, w.heap.size, n, nc⟩, rfl, rfl, rfl, h3, h2, h1, h0, by show w.heap.size + 1 + 1 + 1 ≠ w.heap.size + 1 + 1; omega, by show w.heap.size + 1 + 1 + 1 ≠ w.heap.size + 1; omega, by show w.heap.size + 1 + 1 + 1 ≠ w.heap.size; omega, by show w.heap.size + 1 + 1 ≠ w.heap.size + 1; omega, by show w.heap.size + 1 + 1 ≠ w.heap.size; omega, by show w.heap.size + 1 ≠ w.heap.size; omega, by show w.heap.size ≤ w.heap.size + 1 + 1 + 1; omega, by show w.heap.size ≤ w.heap.size + 1 + 1; omega, by show w.heap.size ≤ w.heap.size + 1; omega, by show w.heap.size ≤ w.heap.size; omega, hb⟩

theorem Fresh.ok {nn nq : Nat} {W wx : World} {s : Sh} (h : Fresh nn nq W wx s) (h1 : nn ≤ 32) (h2 : nq ≤ 64) : s.Ok W.heap.size :=
  ⟨h.pv, h.pm, h.pk, h.vm, h.vk, h.mq, h.bp, h.bv, h.bm, h.bk, by rw [h.hn]; exact h1, by rw [h.hq]; exact h2⟩
def fK (i : Nat) : Value := (#[.int .i64 0, .int .i64 0, .int .i64 0, .slice none 0 0, .slice none 0 0] : Array Value)[i % 5]!
theorem fK_none (j : Nat) : fK (j * 5 + 3) = .slice none 0 0 ∧ fK (j * 5 + 4) = .slice none 0 0 := by
  unfold fK
  rw [show (j * 5 + 3) % 5 = 3 by omega, show (j * 5 + 4) % 5 = 4 by omega]
  exact ⟨rfl, rfl⟩
theorem rowIs_of {w : World} {g : Nat} {zs : Array Value} {N : Nat} {t : TypeId} (h : w.heap[g]? = some (.cells (madeCells zs N) t (0, 0))) : w.rowIs g t N (fun i => zs[i % zs.size]!) :=
  ⟨_, h, size_madeCells _ _, fun i hi => by simp [madeCells, hi]⟩
theorem Fresh.ord {nn nq : Nat} {W wx : World} {s : Sh} (h : Fresh nn nq W wx s) : ∃ V M, OrdAt s wx 0 V M fK := by
  have hv := rowIs_of h.v
  have hm := rowIs_of h.m
  have hk := rowIs_of h.k
  rw [← h.hn] at hv hm
  rw [← h.hq] at hk
  exact ⟨_, _, h.o, hv, hm, hk⟩

/-- What New leaves. -/
def NewOut (m : Md.Mo) (w : World) (e : Ending) (w' : World) : Prop :=
  (((Md.check m).2 ≠ 0 ∧ e = .returned (.tuple #[.pointer none, .int .i64 (Md.check m).2])) ∨
   ((Md.check m).2 = 0 ∧ ∃ s V M K B2, e = .returned (.tuple #[.pointer (some ⟨s.P, 0, none⟩), .int .i64 0]) ∧ s.Ok w.heap.size ∧ s.n = m.vars.length ∧ s.nc = m.cons.length ∧ OrdAt s w' (Od.aK m.vars m.cons m.cons.length) V M K ∧ StOk m.vars m.vars.length V ∧ PtOk m.vars m.cons m.vars.length V ∧ MsOk m.vars (m.vars.length + 1) M ∧ MpOk m.vars m.cons (m.vars.length + 1) M ∧ KOk w' B2 m.vars m.cons m.cons.length K)) ∧ Below w.heap.size w w'

set_option maxRecDepth 10000 in
set_option maxHeartbeats 4000000 in
theorem new_any (m : Md.Mo) (vv vc vg : Value) (w : World) (h : MoAt w m vv vc vg) : Calls Try.prog 9 #[moVal m vv vc vg] w (NewOut m w) := by
  have hM := h
  obtain ⟨va, vp, rfl, hvm, hvn, hvo⟩ := id h.v
  obtain ⟨ca, cp, rfl, hcm, hco⟩ := id h.c
  obtain ⟨ga, gp, rfl, hgm⟩ := h.g.form
  obtain ⟨W, hW⟩ : ∃ W, w.alloc (.cells #[.slice va m.vars.length vp, .slice ca m.cons.length cp, .bool m.has, .slice ga m.goal.length gp] 26) = W := ⟨_, rfl⟩
  have hbW : Below w.heap.size w W := by rw [← hW]; exact (Below.refl _ _).alloc (Nat.le_refl _) _
  have hN : W.heap[w.heap.size]? = some (.cells #[.slice va m.vars.length vp, .slice ca m.cons.length cp, .bool m.has, .slice ga m.goal.length gp] 26) := by rw [← hW]; exact heap_alloc_new w _
  have HCk : Hid (Calls Try.prog 21 #[.agg #[.slice va m.vars.length vp, .slice ca m.cons.length cp, .bool m.has, .slice ga m.goal.length gp]] W fun e w' => e = .returned (.tuple #[.int .i64 (Md.check m).1, .int .i64 (Md.check m).2]) ∧ Below W.heap.size W w') := check_any m _ _ _ W (h.below hbW)
  have HB : Hid (Below w.heap.size w W) := hbW
  have HN : Hid (∀ w', Below W.heap.size W w' → w'.heap[w.heap.size]? = some (.cells #[.slice va m.vars.length vp, .slice ca m.cons.length cp, .bool m.has, .slice ga m.goal.length gp] 26)) := fun w' hb => (hb.block _ (Array.getElem?_eq_some_iff.1 hN).1).trans hN
  have HM : Hid (MoAt w m (.slice va m.vars.length vp) (.slice ca m.cons.length cp) (.slice ga m.goal.length gp)) := hM
  obtain ⟨⟨p0, p1, p2, p3⟩, _⟩ := box4 hN
  unfold maxLen at hvm hcm hgm
  unfold moVal
  clear h hM hbW hN hvn hvo hco
  go_enter Try.func9, Try.ntmps9
  go_wp2_with fail
  refine calls_at HCk.out (by with_reducible rfl) (by with_reducible rfl) ?_
  rintro e w1 ⟨rfl, hb1⟩
  have HB1 : Hid (Below W.heap.size W w1) := hb1
  clear hb1 p0 p1 p2 p3 HCk
  by_cases hr : (Md.check m).2 = 0
  rotate_left
  · have hrB : ((Md.check m).2 != 0) = true := by simpa using hr
    go_wp2_with fail
    go_ret2
    exact ⟨.inl ⟨hr, rfl⟩, HB.out.trans (HB1.out.mono HB.out.size)⟩
  have hrB : ((Md.check m).2 != 0) = false := by simpa using hr
  have HR : Hid ((Md.check m).2 = 0) := hr
  have Hri : Hid (Md.Right m) := Md.right_of hr
  clear hr
  have hn1 : m.vars.length ≤ 32 := Hri.out.nv.2
  have hn2 : m.cons.length ≤ 64 := Hri.out.nc
  have k63 := mk63 m.vars.length (by omega)
  have k64 := mk64 m.vars.length (by omega)
  have k65 := mk65 m.cons.length (by omega)
  obtain ⟨⟨p0, p1, p2, p3⟩, _⟩ := box4 (HN.out w1 HB1.out)
  have hw1 : IntKind.i64.wrap ((m.vars.length : Int) + 1) = (m.vars.length : Int) + 1 := wrap_ok (by omega) (by omega)
  have hlt : w.heap.size < w1.heap.size := (Array.getElem?_eq_some_iff.1 (HN.out w1 HB1.out)).1
  go_upto_region 4 with fail
  go_cut [6] from 15 to 44 (fun s6 wx => Hid (FreshAt m.vars.length m.cons.length w1 s6 wx))
  case first =>
    go_region
    all_goals (go_wp2_with fail; go_meet; first | exact fresh_vmk _ _ _ | exact fresh_vkm _ _ _ | exact fresh_mvk _ _ _ | exact fresh_mkv _ _ _ | exact fresh_kvm _ _ _ | exact fresh_kmv _ _ _)
  case rest =>
    obtain ⟨s, rfl, hF⟩ := hcut.out
    obtain ⟨V0, M0, hO⟩ := hF.ord
    have HOk : Hid (s.Ok w1.heap.size) := hF.ok hn1 hn2
    have HO : Hid (OrdAt s wc 0 V0 M0 fK) := hO
    have Hsn : Hid (s.n = m.vars.length) := hF.hn
    have Hsq : Hid (s.nc = m.cons.length) := hF.hq
    have HBc : Hid (Below w1.heap.size w1 wc) := hF.b
    have Hbox : Hid (∀ w', Below w1.heap.size w1 w' → w'.heap[w.heap.size]? = some (.cells #[.slice va m.vars.length vp, .slice ca m.cons.length cp, .bool m.has, .slice ga m.goal.length gp] 26)) := fun w' hb => (hb.block _ hlt).trans (HN.out w1 HB1.out)
    have Hw1 : Hid (Below w.heap.size w w1) := HB.out.trans (HB1.out.mono HB.out.size)
    obtain ⟨va', vp', hve, _, _, hvo⟩ := HM.out.v
    injection hve with e1 _ e3
    subst e1 e3
    obtain ⟨vb0, vo0, rfl, hvb, hvc⟩ := hvo (by have := Hri.out.nv.1; omega)
    have HVc : Hid (∀ w', Below w1.heap.size w1 w' → VarCells w' vb0 vo0 m.vars) := fun w' hb j hj => by
      obtain ⟨c0, c1, c2⟩ := hvc j hj
      have hh := Hw1.out.trans (hb.mono Hw1.out.size)
      exact ⟨(hh.cell (p := ⟨vb0, vo0 + j * 3, none⟩) hvb).trans c0, (hh.cell (p := ⟨vb0, vo0 + j * 3 + 1, none⟩) hvb).trans c1, (hh.cell (p := ⟨vb0, vo0 + j * 3 + 2, none⟩) hvb).trans c2⟩
    have HCc : Hid (∀ w', Below w1.heap.size w1 w' → ConsAt w' (.slice ca m.cons.length cp) m.cons) := fun w' hb => HM.out.c.below (Hw1.out.trans (hb.mono Hw1.out.size))
    have HGd : Hid (Od.Good m.vars) := Od.good_of Hri.out
    have HGc : Hid (Od.GoodC m.vars.length m.cons) := Od.goodC_of Hri.out
    have HX32 : Hid (∀ k (h : k < m.cons.length), ∀ y ∈ m.cons[k].xs, 0 ≤ y ∧ y < 32) := fun k hk y hy => by have := HGc.out.x k hk y hy; omega
    have Hle : Hid (w1.heap.size ≤ wc.heap.size) := HBc.out.size
    clear hcut hF hO hvo hvc k63 k64 k65 p0 p1 p2 p3
    obtain ⟨⟨p0, p1, p2, p3⟩, _⟩ := box4 (Hbox.out wc HBc.out)
    go_wp2_with fail
    refine calls_at (laySteps_any s w1.heap.size m.vars vb0 vo0 vp V0 M0 fK wc HO.out HOk.out Hle.out HGd.out Hsn.out (fun w' hb => HVc.out w' (HBc.out.trans hb))) (by with_reducible rfl) (by with_reducible rfl) ?_
    rintro e w2 ⟨rfl, V1, M1, hO2, hSt, hMs, hT2⟩
    have HT2 : Hid (Below w1.heap.size w1 w2) := HBc.out.trans hT2.below
    have HP : Hid (∀ w', Below w1.heap.size w2 w' → Below w1.heap.size w1 w') := fun w' hb => HT2.out.trans hb
    clear p0 p1 p2 p3
    obtain ⟨⟨p0, p1, p2, p3⟩, _⟩ := box4 (Hbox.out w2 HT2.out)
    have HC2 : Hid (Calls Try.prog 23 #[.pointer (some ⟨s.P, 0, none⟩), .slice (some ⟨vb0, vo0, none⟩) m.vars.length vp, .slice ca m.cons.length cp] w2 _) := layPoints_any s w1.heap.size m.vars m.cons vb0 vo0 vp _ V1 M1 fK w2 hO2 hSt hMs HOk.out (Nat.le_trans Hle.out hT2.size) HGd.out Hsn.out (fun w' hb => HVc.out w' (HP.out w' hb)) (HCc.out w2 HT2.out) HX32.out
    clear hO2 hSt hMs hT2
    go_wp2_with fail
    refine calls_at HC2.out (by with_reducible rfl) (by with_reducible rfl) ?_
    rintro e w3 ⟨rfl, V2, M2, hO3, hSt, hPt, hMs, hMp, hT3⟩
    have HT3 : Hid (Below w1.heap.size w1 w3) := HT2.out.trans hT3.below
    have HSt : Hid (StOk m.vars m.vars.length V2) := hSt
    have HPt : Hid (PtOk m.vars m.cons m.vars.length V2) := hPt
    have HMs : Hid (MsOk m.vars (m.vars.length + 1) M2) := hMs
    have HMp : Hid (MpOk m.vars m.cons (m.vars.length + 1) M2) := hMp
    clear p0 p1 p2 p3
    obtain ⟨⟨p0, p1, p2, p3⟩, _⟩ := box4 (Hbox.out w3 HT3.out)
    have HC3 : Hid (Calls Try.prog 24 #[.pointer (some ⟨s.P, 0, none⟩), .slice ca m.cons.length cp] w3 _) := layPicks_any s w1.heap.size m.vars m.cons _ V2 M2 fK w3 hO3 (fun j _ => fK_none j) HOk.out HT3.out.size HGd.out HGc.out Hsq.out w1 (HCc.out w1 (Below.refl _ _)) HT3.out (Nat.le_refl _)
    clear hO3 hSt hPt hMs hMp hT3 HC2
    go_wp2_with fail
    refine calls_at HC3.out (by with_reducible rfl) (by with_reducible rfl) ?_
    rintro e w4 ⟨rfl, K4, hO4, hK4, hT4⟩
    have HO4 : Hid (OrdAt s w4 (Od.aK m.vars m.cons m.cons.length) V2 M2 K4) := hO4
    have HK4 : Hid (KOk w4 w3.heap.size m.vars m.cons m.cons.length K4) := hK4
    have HT4 : Hid (Below w1.heap.size w1 w4) := HT3.out.trans hT4.below
    have Hok2 : Hid (s.Ok w.heap.size) := by
      have h1 := HOk.out
      have h2 := Hw1.out.size
      exact ⟨h1.pv, h1.pm, h1.pk, h1.vm, h1.vk, h1.mq, Nat.le_trans h2 h1.bp, Nat.le_trans h2 h1.bv, Nat.le_trans h2 h1.bm, Nat.le_trans h2 h1.bk, h1.n1, h1.nc1⟩
    clear hO4 hK4 hT4 p0 p1 p2 p3 HC3
    go_wp2_with fail
    go_ret2
    exact ⟨.inr ⟨HR.out, s, V2, M2, K4, w3.heap.size, rfl, Hok2.out, Hsn.out, Hsq.out, HO4.out, HSt.out, HPt.out, HMs.out, HMp.out, HK4.out⟩, Hw1.out.trans (HT4.out.mono Hw1.out.size)⟩
end Go.Proofs.Ytkgeknlmkkoobaa
