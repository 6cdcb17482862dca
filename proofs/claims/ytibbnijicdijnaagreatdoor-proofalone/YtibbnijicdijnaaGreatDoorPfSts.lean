/-
  Package proof: a row of steps; a log's fault.
-/
import Derived.Test.YtibbnijicdijnaaGreatDoorPfLns
namespace Go.Proofs.YtibbnijicdijnaaGreatDoor
open Go.RowKit

theorem fault_any (n m : Int) (w : World) : Calls Tryz.prog 36 #[.int .i64 n, .int .i64 m] w fun e w' => e = .returned (.iface 95 (.pointer (some ⟨w.heap.size, 0, none⟩))) ∧ w' = w.alloc (.cells #[.int .i64 2, .int .i64 n, .int .i64 m] 98) := by
  go_enter Tryz.func36, Tryz.ntmps36
  go_wp2_with fail
  go_ret
  exact ⟨rfl, rfl⟩

abbrev St4 := SL × Value × Value × Value × Value
def stC (p : St4) : List Value := (slC p.1 p.2.1 p.2.2.1 p.2.2.2.1 p.2.2.2.2).toList
def StOwn (B : Nat) (w : World) (p : St4) : Prop := SlOwn B w p.1 p.2.1 p.2.2.1 p.2.2.2.1 p.2.2.2.2
/-- A row of steps. -/
def StsAt (B : Nat) (w : World) (v : Value) (ds : List SL) : Prop := ∃ L : List St4, L.map (·.1) = ds ∧ w.ownsRow B 45 10 v ds.length (L.flatMap stC) ∧ ∀ p ∈ L, StOwn B w p
theorem stsAt_nil (B : Nat) (w : World) : StsAt B w (.slice none 0 0) [] := ⟨[], rfl, own_z _ _ _ _, fun _ h => absurd h List.not_mem_nil⟩
theorem StOwn.off {S : Nat → Prop} {B : Nat} {w w' : World} {p : St4} (h : StOwn B w p) (hS : ∀ k, S k → k < B) (ho : Ofw S w w') : StOwn B w' p :=
  ⟨own_off h.o (fun g hg e => by have := (h.o.lt g hg).1; have := hS g e; omega) ho, own_off h.p (fun g hg e => by have := (h.p.lt g hg).1; have := hS g e; omega) ho, own_off h.l (fun g hg e => by have := (h.l.lt g hg).1; have := hS g e; omega) ho, own_off h.i (fun g hg e => by have := (h.i.lt g hg).1; have := hS g e; omega) ho⟩
theorem StsAt.off {S : Nat → Prop} {B : Nat} {w w' : World} {v : Value} {ds : List SL} (h : StsAt B w v ds) (hS : ∀ k, S k → k < B) (ho : Ofw S w w') : StsAt B w' v ds := by
  obtain ⟨L, h1, h2, h3⟩ := h
  exact ⟨L, h1, own_off h2 (fun g hg e => by have := (h2.lt g hg).1; have := hS g e; omega) ho, fun p hp => (h3 p hp).off hS ho⟩
theorem StsAt.next {B : Nat} {w w' : World} {v : Value} {ds : List SL} (h : StsAt B w v ds) (hb : Below w.heap.size w w') : StsAt B w' v ds := h.off (S := fun _ => False) (fun _ f => f.elim) (Ofw.of_below hb)
theorem StOwn.next {B : Nat} {w w' : World} {p : St4} (h : StOwn B w p) (hb : Below w.heap.size w w') : StOwn B w' p := h.off (S := fun _ => False) (fun _ f => f.elim) (Ofw.of_below hb)
theorem own_apart {w : World} {B B' : Nat} {e e' : TypeId} {m m' : Nat} {v v' : Value} {n n' : Nat} {xs xs' : List Value} (h : w.ownsRow B e m v n xs) (h' : w.ownsRow B' e' m' v' n' xs') (he : e ≠ e') : ∀ g, v.ownBlock = some g → v'.ownBlock ≠ some g := by
  intro g hg hg'
  rcases h.2 with ⟨rfl, _⟩ | ⟨g1, cap, cur, rfl, _, hc, _⟩
  · simp [Value.ownBlock] at hg
  · rcases h'.2 with ⟨rfl, _⟩ | ⟨g2, cap2, cur2, rfl, _, hc2, _⟩
    · simp [Value.ownBlock] at hg'
    · simp [Value.ownBlock] at hg hg'
      subst hg hg'
      rw [hc] at hc2
      injection hc2 with hc2
      injection hc2 with _ q
      exact he q
theorem own_grown {w w' : World} {B B' : Nat} {e e' : TypeId} {m m' : Nat} {v v' : Value} {n n' : Nat} {xs xs' : List Value} (h : w.ownsRow B e m v n xs) (h' : w.ownsRow B' e' m' v' n' xs') (he : e ≠ e') (hg : w.grownBy w' v'.ownBlock) : w'.ownsRow B e m v n xs :=
  own_keep h fun g hgv => hg.block g (h.lt g hgv).2 (fun q => own_apart h h' he g hgv q.symm)
theorem StOwn.grown {w w' : World} {B B' : Nat} {p : St4} {v' : Value} {n' : Nat} {xs' : List Value} (h : StOwn B w p) (h' : w.ownsRow B' 45 10 v' n' xs') (hg : w.grownBy w' v'.ownBlock) : StOwn B w' p :=
  ⟨own_grown h.o h' (by decide) hg, own_grown h.p h' (by decide) hg, own_grown h.l h' (by decide) hg, own_grown h.i h' (by decide) hg⟩
theorem StsAt.push {B : Nat} {w w' : World} {v v' : Value} {ds : List SL} {L : List St4} (h1 : L.map (·.1) = ds) (h2 : w.ownsRow B 45 10 v ds.length (L.flatMap stC)) (h3 : ∀ p ∈ L, StOwn B w p) (p : St4) (hp : StOwn B w p) (hr : w'.ownsRow B 45 10 v' (ds.length + 1) (L.flatMap stC ++ stC p)) (hg : w.grownBy w' v.ownBlock) : StsAt B w' v' (ds ++ [p.1]) := by
  refine ⟨L ++ [p], by rw [List.map_append, h1]; rfl, ?_, fun q hq => ?_⟩
  · rw [List.flatMap_append, List.length_append]
    simpa using hr
  · rcases List.mem_append.1 hq with hq | hq
    · exact (h3 q hq).grown h2 hg
    · rw [List.mem_singleton.1 hq]; exact hp.grown h2 hg
theorem stC_len (p : St4) : (stC p).length = 10 := rfl
theorem stC_one (p : St4) (ho : ∃ a n c, p.2.1 = .slice a n c) (hp : ∃ a n c, p.2.2.1 = .slice a n c) (hl : ∃ a n c, p.2.2.2.1 = .slice a n c) (hi : ∃ a n c, p.2.2.2.2 = .slice a n c) : ∀ u ∈ stC p, u.oneCell' = true := by
  obtain ⟨d, vo, vp, vl, vi⟩ := p
  obtain ⟨_, _, _, rfl⟩ := ho
  obtain ⟨_, _, _, rfl⟩ := hp
  obtain ⟨_, _, _, rfl⟩ := hl
  obtain ⟨_, _, _, rfl⟩ := hi
  intro u hu
  simp only [stC, slC, List.mem_cons, List.not_mem_nil, or_false] at hu
  rcases hu with rfl | rfl | rfl | rfl | rfl | rfl | rfl | rfl | rfl | rfl <;> rfl
theorem und22 : Tryz.prog.underlying 22 = some (.slice 45) := by kernel_rfl
theorem info45s : (Tryz.prog.info? 45).map (fun i => (i.zero, i.size, i.bytes)) = some (some (.agg cs0), 10, 176) := by kernel_rfl

/-- An append of one element of several cells, within a fence. -/
theorem appendIn_els {F : Fence} {nn : Nat} {P : Program} {ops : Array Oper} {rest : List Oper} {o : Oper} {a : Act} {Q : Exit → Act → World → Prop} (wr : World) (us : List Value) (size : Nat) (hsz0 : us.length = size) (hsz1 : 0 < size) (hgd : o.guard = none) (s x : Operand) (t e : TypeId) (z : Value) (bytes : Nat)
    (ho : o.op = .call { callee := .builtin .append, args := #[s, x], argTypes := #[t, t] }) (ht : P.underlying t = some (.slice e)) (hinfo : (P.info? e).map (fun i => (i.zero, i.size, i.bytes)) = some (some z, size, bytes)) (hz1 : z.cells.size = size)
    (base : Nat) (v : Value) (n : Nat) (xs : List Value) (hs : a.eval s = v) (hown : wr.ownsRow base e size v n xs) (hu : ∀ u ∈ us, u.oneCell' = true)
    (bk : Nat) (hbk : wr.heap.size = bk) (hx : a.eval x = .slice (some ⟨bk, 0, none⟩) 1 1) (h63 : n + 1 ≤ maxLen) (hbytes : (n + 1) * bytes ≤ 140737488355328) (hbase : base ≤ wr.heap.size)
    (h : ∀ v' w', w'.ownsRow base e size v' (n + 1) (xs ++ us) → (wr.alloc (.cells us.toArray e)).grownBy w' v.ownBlock → wpListIn F nn P ops Q rest (a.put o.dst v') w') : wpListIn F nn P ops Q (o :: rest) a (wr.alloc (.cells us.toArray e)) := by
  subst hbk
  obtain ⟨i0, hi, hz0, hz1', hz2⟩ := info_of hinfo
  have hn := heap_alloc_new wr (.cells us.toArray e)
  refine wpListIn_append_own _ hgd s x t ho base e i0 z size bytes ht hi hz0 hz1' hz2 hz1 hsz1 v n xs hs (own_below hown ((Below.refl _ _).alloc (Nat.le_refl _) _)) ⟨wr.heap.size, 0, none⟩ 1 1 us hx (by omega) (fun j u hj => World.news_of_block hn j u (by simpa using hj)) hu h63 hbytes (by simp; omega) (fun v' w' g1 g2 _ => h v' w' g1 g2)
end Go.Proofs.YtibbnijicdijnaaGreatDoor
