/-
  Put together: PfSts, PfRead, PfEr, PfMg.
-/
import Derived.Test.YtibbnijicdijnaaGreatDoorJ40
import Derived.Test.YtibbnijicdijnaaGreatDoorJ39
namespace Go.Proofs.YtibbnijicdijnaaGreatDoor
open Go.RowKit

theorem fault_any (n m : Int) (w : World) : Calls Tryz.prog 36 #[.int .i64 n, .int .i64 m] w fun e w' => e = .returned (.iface 95 (.pointer (some ⟨w.heap.size, 0, none⟩))) ∧ w' = w.alloc (.cells #[.int .i64 2, .int .i64 n, .int .i64 m] 98) := by
  go_enter Tryz.func36, Tryz.ntmps36
  go_wp2_with fail
  go_ret
  exact ⟨rfl, rfl⟩

abbrev St4 := SL × Value × Value × Value × Value
def stC (p : St4) : List Value := (slC p.1 p.2.1 p.2.2.1 p.2.2.2.1 p.2.2.2.2).toList
def StOwn (B : Nat) (w : World) (p : St4) : Prop := SlOwn B w p.1 p.2.1 p.2.2.1 p.2.2.2.1 p.2.2.2.2
/-- A row of steps. -/
def StsAt (B : Nat) (w : World) (v : Value) (ds : List SL) : Prop := ∃ L : List St4, L.map (·.1) = ds ∧ w.ownsRow B 45 10 v ds.length (L.flatMap stC) ∧ ∀ p ∈ L, StOwn B w p
theorem stsAt_nil (B : Nat) (w : World) : StsAt B w (.slice none 0 0) [] := ⟨[], rfl, own_z _ _ _ _, fun _ h => absurd h List.not_mem_nil⟩
theorem StOwn.off {S : Nat → Prop} {B : Nat} {w w' : World} {p : St4} (h : StOwn B w p) (hS : ∀ k, S k → k < B) (ho : Ofw S w w') : StOwn B w' p :=
  ⟨own_off h.o (fun g hg e => by have := (h.o.lt g hg).1; have := hS g e; omega) ho, own_off h.p (fun g hg e => by have := (h.p.lt g hg).1; have := hS g e; omega) ho, own_off h.l (fun g hg e => by have := (h.l.lt g hg).1; have := hS g e; omega) ho, own_off h.i (fun g hg e => by have := (h.i.lt g hg).1; have := hS g e; omega) ho⟩
theorem StsAt.off {S : Nat → Prop} {B : Nat} {w w' : World} {v : Value} {ds : List SL} (h : StsAt B w v ds) (hS : ∀ k, S k → k < B) (ho : Ofw S w w') : StsAt B w' v ds := by
  obtain ⟨L, h1, h2, h3⟩ := h
  exact ⟨L, h1, own_off h2 (fun g hg e => by have := (h2.lt g hg).1; have := hS g e; omega) ho, fun p hp => (h3 p hp).off hS ho⟩
theorem StsAt.next {B : Nat} {w w' : World} {v : Value} {ds : List SL} (h : StsAt B w v ds) (hb : Below w.heap.size w w') : StsAt B w' v ds := h.off (S := fun _ => False) (fun _ f => f.elim) (Ofw.of_below hb)
theorem StOwn.next {B : Nat} {w w' : World} {p : St4} (h : StOwn B w p) (hb : Below w.heap.size w w') : StOwn B w' p := h.off (S := fun _ => False) (fun _ f => f.elim) (Ofw.of_below hb)
theorem own_apart {w : World} {B B' : Nat} {e e' : TypeId} {m m' : Nat} {v v' : Value} {n n' : Nat} {xs xs' : List Value} (h : w.ownsRow B e m v n xs) (h' : w.ownsRow B' e' m' v' n' xs') (he : e ≠ e') : ∀ g, v.ownBlock = some g → v'.ownBlock ≠ some g := by
  intro g hg hg'
  rcases h.2 with ⟨rfl, _⟩ | ⟨g1, cap, cur, rfl, _, hc, _⟩
  · simp [Value.ownBlock] at hg
  · rcases h'.2 with ⟨rfl, _⟩ | ⟨g2, cap2, cur2, rfl, _, hc2, _⟩
    · simp [Value.ownBlock] at hg'
    · simp [Value.ownBlock] at hg hg'
      subst hg hg'
      rw [hc] at hc2
      injection hc2 with hc2
      injection hc2 with _ q
      exact he q
theorem own_grown {w w' : World} {B B' : Nat} {e e' : TypeId} {m m' : Nat} {v v' : Value} {n n' : Nat} {xs xs' : List Value} (h : w.ownsRow B e m v n xs) (h' : w.ownsRow B' e' m' v' n' xs') (he : e ≠ e') (hg : w.grownBy w' v'.ownBlock) : w'.ownsRow B e m v n xs :=
  own_keep h fun g hgv => hg.block g (h.lt g hgv).2 (fun q => own_apart h h' he g hgv q.symm)
theorem StOwn.grown {w w' : World} {B B' : Nat} {p : St4} {v' : Value} {n' : Nat} {xs' : List Value} (h : StOwn B w p) (h' : w.ownsRow B' 45 10 v' n' xs') (hg : w.grownBy w' v'.ownBlock) : StOwn B w' p :=
  ⟨own_grown h.o h' (by decide) hg, own_grown h.p h' (by decide) hg, own_grown h.l h' (by decide) hg, own_grown h.i h' (by decide) hg⟩
theorem StsAt.push {B : Nat} {w w' : World} {v v' : Value} {ds : List SL} {L : List St4} (h1 : L.map (·.1) = ds) (h2 : w.ownsRow B 45 10 v ds.length (L.flatMap stC)) (h3 : ∀ p ∈ L, StOwn B w p) (p : St4) (hp : StOwn B w p) (hr : w'.ownsRow B 45 10 v' (ds.length + 1) (L.flatMap stC ++ stC p)) (hg : w.grownBy w' v.ownBlock) : StsAt B w' v' (ds ++ [p.1]) := by
  refine ⟨L ++ [p], by rw [List.map_append, h1]; rfl, ?_, fun q hq => ?_⟩
  · rw [List.flatMap_append, List.length_append]
    simpa using hr
  · rcases List.mem_append.1 hq with hq | hq
    · exact (h3 q hq).grown h2 hg
    · rw [List.mem_singleton.1 hq]; exact hp.grown h2 hg
theorem stC_len (p : St4) : (stC p).length = 10 := rfl
theorem stC_one (p : St4) (ho : ∃ a n c, p.2.1 = .slice a n c) (hp : ∃ a n c, p.2.2.1 = .slice a n c) (hl : ∃ a n c, p.2.2.2.1 = .slice a n c) (hi : ∃ a n c, p.2.2.2.2 = .slice a n c) : ∀ u ∈ stC p, u.oneCell' = true := by
  obtain ⟨d, vo, vp, vl, vi⟩ := p
  obtain ⟨_, _, _, rfl⟩ := ho
  obtain ⟨_, _, _, rfl⟩ := hp
  obtain ⟨_, _, _, rfl⟩ := hl
  obtain ⟨_, _, _, rfl⟩ := hi
  intro u hu
  simp only [stC, slC, List.mem_cons, List.not_mem_nil, or_false] at hu
  rcases hu with rfl | rfl | rfl | rfl | rfl | rfl | rfl | rfl | rfl | rfl <;> rfl
theorem und22 : Tryz.prog.underlying 22 = some (.slice 45) := by kernel_rfl
theorem info45s : (Tryz.prog.info? 45).map (fun i => (i.zero, i.size, i.bytes)) = some (some (.agg cs0), 10, 176) := by kernel_rfl

/-- An append of one element of several cells, within a fence. -/
theorem appendIn_els {F : Fence} {nn : Nat} {P : Program} {ops : Array Oper} {rest : List Oper} {o : Oper} {a : Act} {Q : Exit → Act → World → Prop} (wr : World) (us : List Value) (size : Nat) (hsz0 : us.length = size) (hsz1 : 0 < size) (hgd : o.guard = none) (s x : Operand) (t e : TypeId) (z : Value) (bytes : Nat)
    (ho : o.op = .call { callee := .builtin .append, args := #[s, x], argTypes := #[t, t] }) (ht : P.underlying t = some (.slice e)) (hinfo : (P.info? e).map (fun i => (i.zero, i.size, i.bytes)) = some (some z, size, bytes)) (hz1 : z.cells.size = size)
    (base : Nat) (v : Value) (n : Nat) (xs : List Value) (hs : a.eval s = v) (hown : wr.ownsRow base e size v n xs) (hu : ∀ u ∈ us, u.oneCell' = true)
    (bk : Nat) (hbk : wr.heap.size = bk) (hx : a.eval x = .slice (some ⟨bk, 0, none⟩) 1 1) (h63 : n + 1 ≤ maxLen) (hbytes : (n + 1) * bytes ≤ 140737488355328) (hbase : base ≤ wr.heap.size)
    (h : ∀ v' w', w'.ownsRow base e size v' (n + 1) (xs ++ us) → (wr.alloc (.cells us.toArray e)).grownBy w' v.ownBlock → wpListIn F nn P ops Q rest (a.put o.dst v') w') : wpListIn F nn P ops Q (o :: rest) a (wr.alloc (.cells us.toArray e)) := by
  subst hbk
  obtain ⟨i0, hi, hz0, hz1', hz2⟩ := info_of hinfo
  have hn := heap_alloc_new wr (.cells us.toArray e)
  refine wpListIn_append_own _ hgd s x t ho base e i0 z size bytes ht hi hz0 hz1' hz2 hz1 hsz1 v n xs hs (own_below hown ((Below.refl _ _).alloc (Nat.le_refl _) _)) ⟨wr.heap.size, 0, none⟩ 1 1 us hx (by omega) (fun j u hj => World.news_of_block hn j u (by simpa using hj)) hu h63 hbytes (by simp; omega) (fun v' w' g1 g2 _ => h v' w' g1 g2)
end Go.Proofs.YtibbnijicdijnaaGreatDoor

namespace Go.Proofs.YtibbnijicdijnaaGreatDoor
open Go.RowKit Go.Shelf Go.Lib
attribute [local go_sem] Oper.semAt_some

def gd (x : List UInt8) : SL := (parseP x).1
def er (x : List UInt8) : Int := (parseP x).2
/-- All lines were read. -/
def RdAll (B : Nat) (w : World) (xs : List (List UInt8)) (v : Value) (W : World) : Prop := StsAt B W v (xs.map gd) ∧ (∀ x ∈ xs, er x = 0) ∧ Below w.heap.size w W
/-- The last of the lines can't be read. -/
def RdNo (B : Nat) (w : World) (xs : List (List UInt8)) (u : Value) (W : World) : Prop := ∃ pre x f, xs = pre ++ [x] ∧ (∀ y ∈ pre, er y = 0) ∧ er x ≠ 0 ∧ u = .iface 95 (.pointer (some ⟨f, 0, none⟩)) ∧ W.heap[f]? = some (.cells #[.int .i64 2, .int .i64 (pre.length + 1), .int .i64 (er x)] 98 (0, 0)) ∧ B ≤ f ∧ Below w.heap.size w W
def RgI (w : World) (pre : List (List UInt8)) (W : World) : Prop := ∃ v, W.heap[w.heap.size + 2]? = some (.cells #[v] 22 (0, 0)) ∧ W.heap[w.heap.size]? = some (.cells #[.slice none 0 0] 22 (0, 0)) ∧ W.heap[w.heap.size + 1]? = some (.cells #[.nilIface] 28 (0, 0)) ∧ RdAll (w.heap.size + 10) w pre v W
def RgN (w : World) (pre : List (List UInt8)) (W : World) : Prop := ∃ u, W.heap[w.heap.size]? = some (.cells #[.slice none 0 0] 22 (0, 0)) ∧ W.heap[w.heap.size + 1]? = some (.cells #[u] 28 (0, 0)) ∧ RdNo (w.heap.size + 10) w pre u W
def rgT (w : World) (k : Nat) : Prop := (w.heap.size + 6 ≤ k ∧ k < w.heap.size + 10) ∨ k = w.heap.size + 4 ∨ k = w.heap.size + 4 + 1
theorem ofw_low {S : Nat → Prop} {B : Nat} {w A C : World} (h : Below B w A) (hS : ∀ k, S k → B ≤ k) (hB : B ≤ w.heap.size) (ho : Ofw S A C) : Below B w C := h.trans (ho.below hS (Nat.le_trans hB h.size))
theorem RgI.off {w A C : World} {pre : List (List UInt8)} (h : RgI w pre A) (ho : Ofw (rgT w) A C) : RgI w pre C := by
  obtain ⟨v, h1, h2, h3, h4, h5, h6⟩ := h
  refine ⟨v, (ho.block _ (Array.getElem?_eq_some_iff.1 h1).1 ?_).trans h1, (ho.block _ (Array.getElem?_eq_some_iff.1 h2).1 ?_).trans h2, (ho.block _ (Array.getElem?_eq_some_iff.1 h3).1 ?_).trans h3, h4.off ?_ ho, h5, ofw_low h6 ?_ (Nat.le_refl _) ho⟩
  · unfold rgT; omega
  · unfold rgT; omega
  · unfold rgT; omega
  · intro k hk; unfold rgT at hk; omega
  · intro k hk; unfold rgT at hk; omega
theorem RgN.off {w A C : World} {pre : List (List UInt8)} (h : RgN w pre A) (ho : Ofw (rgT w) A C) : RgN w pre C := by
  obtain ⟨u, h2, h3, p, x, f, a1, a2, a3, a4, a5, a6, h6⟩ := h
  refine ⟨u, (ho.block _ (Array.getElem?_eq_some_iff.1 h2).1 ?_).trans h2, (ho.block _ (Array.getElem?_eq_some_iff.1 h3).1 ?_).trans h3, p, x, f, a1, a2, a3, a4, (ho.block _ (Array.getElem?_eq_some_iff.1 a5).1 ?_).trans a5, a6, ofw_low h6 ?_ (Nat.le_refl _) ho⟩
  · unfold rgT; omega
  · unfold rgT; omega
  · unfold rgT; omega
  · intro k hk; unfold rgT at hk; omega

/-- A step more. -/
theorem read_push {w W V w5 : World} {pre : List (List UInt8)} {x : List UInt8} {va : Option Addr} {vc : Nat} {u vo vp vl vi : Value} {L : List St4} (hI : W.heap[w.heap.size]? = some (.cells #[.slice none 0 0] 22 (0, 0)) ∧ W.heap[w.heap.size + 1]? = some (.cells #[.nilIface] 28 (0, 0)) ∧ W.heap[w.heap.size + 2]? = some (.cells #[.slice va pre.length vc] 22 (0, 0)) ∧ (∀ y ∈ pre, er y = 0) ∧ Below w.heap.size w W)
    (hL : L.map (·.1) = pre.map gd ∧ W.ownsRow (w.heap.size + 10) 45 10 (.slice va pre.length vc) pre.length (L.flatMap stC) ∧ ∀ p ∈ L, StOwn (w.heap.size + 10) W p) (hS : SlOwn W.heap.size V (gd x) vo vp vl vi) (hb : Below W.heap.size W V) (hM : w.heap.size + 10 ≤ W.heap.size) (hx : er x = 0)
    (g1 : w5.ownsRow (w.heap.size + 10) 45 10 u (pre.length + 1) (L.flatMap stC ++ stC (gd x, vo, vp, vl, vi))) (g2 : V.grownBy w5 (Value.slice va pre.length vc).ownBlock) :
    RgI w (pre ++ [x]) (w5.setCell ⟨w.heap.size + 2, 0, none⟩ u) ∧ W.heap.size ≤ w5.heap.size ∧ (∀ k, k < w.heap.size + 10 → k ≠ w.heap.size + 2 → (w5.setCell ⟨w.heap.size + 2, 0, none⟩ u).heap[k]? = W.heap[k]?) ∧ w5.heap[w.heap.size + 2]? = some (.cells #[.slice va pre.length vc] 22 (0, 0)) := by
  obtain ⟨i2, i3, i1, i5, i6⟩ := hI
  obtain ⟨j1, j2, j3⟩ := hL
  have hk5 : ∀ k, k < w.heap.size + 10 → w5.heap[k]? = W.heap[k]? := fun k hk => by
    have hkW : k < W.heap.size := by omega
    refine (g2.block k (Nat.lt_of_lt_of_le hkW hb.size) (fun e => ?_)).trans (hb.block k hkW)
    have := (j2.lt k e.symm).1
    omega
  have hset : ∀ k, k ≠ w.heap.size + 2 → (w5.setCell ⟨w.heap.size + 2, 0, none⟩ u).heap[k]? = w5.heap[k]? := fun k hne => Below.heap_setCell _ ⟨w.heap.size + 2, 0, none⟩ _ k hne
  have hsz : W.heap.size ≤ w5.heap.size := Nat.le_trans hb.size g2.size
  have h5 := (hk5 (w.heap.size + 2) (by omega)).trans i1
  have hml : (pre.map gd).length = pre.length := by simp
  have hsts : StsAt (w.heap.size + 10) w5 u ((pre ++ [x]).map gd) := by
    rw [List.map_append]
    refine StsAt.push (p := (gd x, vo, vp, vl, vi)) j1 (by rw [hml]; exact own_next j2 hb) (fun p hp => (j3 p hp).next hb) ⟨own_less hS.o hM, own_less hS.p hM, own_less hS.l hM, own_less hS.i hM⟩ (by rw [hml]; exact g1) g2
  refine ⟨⟨u, ?_, ?_, ?_, hsts.off (S := fun k => k = w.heap.size + 2) (fun k e => by omega) (Ofw.set _ rfl), ?_, ?_⟩, hsz, fun k h1 h2 => (hset k h2).trans (hk5 k h1), h5⟩
  · simp [World.setCell, Array.getElem?_modify, h5]
  · rw [hset _ (by omega), hk5 _ (by omega)]; exact i2
  · rw [hset _ (by omega), hk5 _ (by omega)]; exact i3
  · intro y hy
    rcases List.mem_append.1 hy with hy | hy
    · exact i5 y hy
    · rw [List.mem_singleton.1 hy]; exact hx
  · refine ⟨g2.os.trans (hb.os.trans i6.os), g2.tape.trans (hb.tape.trans i6.tape), g2.output.trans (hb.output.trans i6.output), ?_, fun k hk => ?_⟩
    · have := i6.size
      simp [World.setCell]
      omega
    · rw [hset k (by omega), hk5 k (by omega)]
      exact i6.block k hk
/-- A line that can't be read. -/
theorem read_no {w W F : World} {pre : List (List UInt8)} {x : List UInt8} {a : Value} {f : Nat} (hI : W.heap[w.heap.size]? = some (.cells #[.slice none 0 0] 22 (0, 0)) ∧ W.heap[w.heap.size + 1]? = some (.cells #[.nilIface] 28 (0, 0)) ∧ W.heap[w.heap.size + 2]? = some (.cells #[a] 22 (0, 0)) ∧ (∀ y ∈ pre, er y = 0) ∧ Below w.heap.size w W)
    (hb : Below W.heap.size W F) (hM : w.heap.size + 10 ≤ W.heap.size) (hx : er x ≠ 0) (hf : F.heap[f]? = some (.cells #[.int .i64 2, .int .i64 (pre.length + 1), .int .i64 (er x)] 98 (0, 0))) (hfl : w.heap.size + 10 ≤ f) :
    RgN w (pre ++ [x]) ((F.setCell ⟨w.heap.size, 0, none⟩ (.slice none 0 0)).setCell ⟨w.heap.size + 1, 0, none⟩ (.iface 95 (.pointer (some ⟨f, 0, none⟩)))) ∧ W.heap.size ≤ F.heap.size ∧ (∀ k, w.heap.size + 2 ≤ k → k < w.heap.size + 10 → ((F.setCell ⟨w.heap.size, 0, none⟩ (.slice none 0 0)).setCell ⟨w.heap.size + 1, 0, none⟩ (.iface 95 (.pointer (some ⟨f, 0, none⟩)))).heap[k]? = W.heap[k]?) := by
  obtain ⟨i2, i3, i1, i5, i6⟩ := hI
  have hk5 : ∀ k, k < W.heap.size → F.heap[k]? = W.heap[k]? := fun k hk => hb.block k hk
  have hset : ∀ k, k ≠ w.heap.size → k ≠ w.heap.size + 1 → ((F.setCell ⟨w.heap.size, 0, none⟩ (.slice none 0 0)).setCell ⟨w.heap.size + 1, 0, none⟩ (.iface 95 (.pointer (some ⟨f, 0, none⟩)))).heap[k]? = F.heap[k]? := fun k h1 h2 => (Below.heap_setCell _ ⟨w.heap.size + 1, 0, none⟩ _ k h2).trans (Below.heap_setCell _ ⟨w.heap.size, 0, none⟩ _ k h1)
  have e0 := (hk5 w.heap.size (by omega)).trans i2
  have e1 := (hk5 (w.heap.size + 1) (by omega)).trans i3
  refine ⟨⟨_, ?_, ?_, pre, x, f, rfl, i5, hx, rfl, ?_, hfl, ?_⟩, hb.size, fun k h1 h2 => (hset k (by omega) (by omega)).trans (hk5 k (by omega))⟩
  · refine (Below.heap_setCell _ ⟨w.heap.size + 1, 0, none⟩ _ _ (by simp)).trans ?_
    simp [World.setCell, Array.getElem?_modify, e0]
  · have : (F.setCell ⟨w.heap.size, 0, none⟩ (.slice none 0 0)).heap[w.heap.size + 1]? = some (.cells #[.nilIface] 28 (0, 0)) := (Below.heap_setCell _ ⟨w.heap.size, 0, none⟩ _ _ (by simp)).trans e1
    exact set_of this 0 _
  · exact (hset f (by omega) (by omega)).trans hf
  · refine ⟨hb.os.trans i6.os, hb.tape.trans i6.tape, hb.output.trans i6.output, ?_, fun k hk => ?_⟩
    · have h1 := i6.size
      have h2 := hb.size
      simp [World.setCell]
      omega
    · rw [hset k (by omega) (by omega), hk5 k (by have := i6.size; omega)]
      exact i6.block k hk

/-- What a return reads. -/
theorem read_done {w W : World} {xs : List (List UInt8)} {v : Value} {b : Nat} (h0 : W.heap[w.heap.size]? = some (.cells #[.slice none 0 0] 22 (0, 0))) (h1 : W.heap[w.heap.size + 1]? = some (.cells #[.nilIface] 28 (0, 0))) (hA : RdAll (w.heap.size + 10) w xs v W) (hb : b = w.heap.size + 4) (Z : World) (hZ : ((W.setCell ⟨w.heap.size, 0, none⟩ v).setCell ⟨w.heap.size + 1, 0, none⟩ .nilIface).putObj b (.deferred none) = Z) :
    Z.cell? ⟨w.heap.size, 0, none⟩ = some v ∧ Z.cell? ⟨w.heap.size + 1, 0, none⟩ = some .nilIface ∧ RdAll w.heap.size w xs v Z := by
  have ho : Ofw (fun k => k = w.heap.size ∨ k = w.heap.size + 1 ∨ k = w.heap.size + 4) W Z := by
    rw [← hZ, hb]
    exact ((Ofw.set _ (.inl rfl)).trans (Ofw.set _ (.inr (.inl rfl)))).trans (off_putObj _ _ _ (.inr (.inr rfl)))
  have e0 : (W.setCell ⟨w.heap.size, 0, none⟩ v).heap[w.heap.size]? = some (.cells #[v] 22 (0, 0)) := set_of h0 0 v
  have e1 : (W.setCell ⟨w.heap.size, 0, none⟩ v).heap[w.heap.size + 1]? = some (.cells #[.nilIface] 28 (0, 0)) := (Below.heap_setCell _ ⟨w.heap.size, 0, none⟩ _ _ (by simp)).trans h1
  have f0 : Z.heap[w.heap.size]? = some (.cells #[v] 22 (0, 0)) := by
    rw [← hZ]
    exact (World.putObj_heap_other (by omega)).trans ((Below.heap_setCell _ ⟨w.heap.size + 1, 0, none⟩ _ _ (by simp)).trans e0)
  have f1 : Z.heap[w.heap.size + 1]? = some (.cells #[.nilIface] 28 (0, 0)) := by
    rw [← hZ]
    exact (World.putObj_heap_other (by omega)).trans (set_of e1 0 _)
  obtain ⟨a1, a2, a3⟩ := hA
  obtain ⟨L, b1, b2, b3⟩ := a1.off (fun k hk => by omega) ho
  exact ⟨cell_of f0 0, cell_of f1 0, ⟨L, b1, own_less b2 (by omega), fun p hp => ⟨own_less (b3 p hp).o (by omega), own_less (b3 p hp).p (by omega), own_less (b3 p hp).l (by omega), own_less (b3 p hp).i (by omega)⟩⟩, a2, ofw_low a3 (fun k hk => by omega) (Nat.le_refl _) ho⟩
theorem read_stop {w W : World} {xs : List (List UInt8)} {b : Nat} (h : RgN w xs W) (hb : b = w.heap.size + 4) (Z : World) (hZ : W.putObj b (.deferred none) = Z) :
    ∃ u, Z.cell? ⟨w.heap.size, 0, none⟩ = some (.slice none 0 0) ∧ Z.cell? ⟨w.heap.size + 1, 0, none⟩ = some u ∧ RdNo w.heap.size w xs u Z := by
  have ho : Ofw (rgT w) W Z := by
    rw [← hZ, hb]
    exact off_putObj _ _ _ (.inr (.inl rfl))
  obtain ⟨u, h2, h3, p, x, f, a1, a2, a3, a4, a5, a6, a7⟩ := h.off ho
  exact ⟨u, cell_of h2 0, cell_of h3 0, p, x, f, a1, a2, a3, a4, a5, by omega, a7⟩

/-- How Read ends. -/
def ReOut (xs : List (List UInt8)) (w : World) (e : Ending) (W : World) : Prop := (∃ v, e = .returned (.tuple #[v, .nilIface]) ∧ RdAll w.heap.size w xs v W) ∨ ∃ u pre x post, xs = pre ++ x :: post ∧ e = .returned (.tuple #[.slice none 0 0, u]) ∧ RdNo w.heap.size w (pre ++ [x]) u W

set_option maxRecDepth 100000 in
set_option maxHeartbeats 4000000 in
theorem read_log (s : ByteArray) (w : World) (hs : s.size ≤ 9000000) (hg : Gl w) (h12 : 12 ≤ w.heap.size) : Calls Tryz.prog 15 #[.string s] w (ReOut (lns s.data.toList []) w) := by
  refine (callsIn_wide (n := 5)).1 ?_
  obtain ⟨W1, hW1⟩ : ∃ W1, ((w.alloc (.cells #[.slice none 0 0] 22)).alloc (.cells #[.nilIface] 28)).alloc (.cells #[.slice none 0 0] 22) = W1 := ⟨_, rfl⟩
  have hb1 : Below w.heap.size w W1 := hW1 ▸ (((Below.refl _ _).alloc (Nat.le_refl _) _).alloc (by simp) _).alloc (by simp; omega) _
  have hs1 : W1.heap.size = w.heap.size + 3 := by rw [← hW1]; simp
  have hX := linesOf_in 4 s W1
  have hbA : Below (w.alloc (.cells #[.slice none 0 0] 22)).heap.size (w.alloc (.cells #[.slice none 0 0] 22)) W1 := hW1 ▸ ((Below.refl _ _).alloc (Nat.le_refl _) _).alloc (by simp) _
  have hbB : Below ((w.alloc (.cells #[.slice none 0 0] 22)).alloc (.cells #[.nilIface] 28)).heap.size ((w.alloc (.cells #[.slice none 0 0] 22)).alloc (.cells #[.nilIface] 28)) W1 := hW1 ▸ (Below.refl _ _).alloc (Nat.le_refl _) _
  have g0 : W1.heap[w.heap.size]? = some (.cells #[.slice none 0 0] 22 (0, 0)) := (hbA.block _ (by simp)).trans (heap_alloc_new w _)
  have g1 : W1.heap[w.heap.size + 1]? = some (.cells #[.nilIface] 28 (0, 0)) := (hbB.block _ (by simp)).trans (heap_alloc2_new w _ _)
  have g2 : W1.heap[w.heap.size + 2]? = some (.cells #[.slice none 0 0] 22 (0, 0)) := by
    rw [← hW1]
    have := heap_alloc_new ((w.alloc (.cells #[.slice none 0 0] 22)).alloc (.cells #[.nilIface] 28)) (.cells #[.slice none 0 0] 22)
    simpa using this
  refine callsIn_of_wp_marks Tryz.func15 rfl trivial ?_ rfl
  simp only [Tryz.ntmps15, List.size_toArray, List.length_cons, List.length_nil, Nat.reduceAdd, Nat.reduceSub, Array.replicate_succ, Array.replicate_zero, List.push_toArray, List.append_toArray, List.nil_append, List.cons_append]
  gi_wp2_with (refine ⟨trivial, ?_⟩; gi_at_call 42; refine hX.mono ?_; rintro e w' ⟨rfl, rfl⟩)
  obtain ⟨W2, hW2⟩ : ∃ W2, W1.alloc (.cells #[.string s] 9) = W2 := ⟨_, rfl⟩
  rw [hW2]
  have hb2 : Below W1.heap.size W1 W2 := hW2 ▸ (Below.refl _ _).alloc (Nat.le_refl _) _
  have hs2 : W2.heap.size = w.heap.size + 4 := by rw [← hW2]; simp [hs1]
  have hT2 : TBox W2 (w.heap.size + 3) s.data.toList := by
    rw [← hs1, ← hW2]
    exact World.alloc_heap_new W1 _
  have hI0 : RgI w [] W2 := ⟨.slice none 0 0, (hb2.block _ (by omega)).trans g2, (hb2.block _ (by omega)).trans g0, (hb2.block _ (by omega)).trans g1, stsAt_nil _ _, fun _ h => absurd h List.not_mem_nil, hb1.trans (hb2.mono hb1.size)⟩
  clear hX hW1 hW2 hb1 hb2 hbA hbB g0 g1 g2
  refine range_stop (α := List UInt8) rfl (by omega) (gf := 66) (lb := #[.pointer (some ⟨w.heap.size + 3, 0, none⟩)]) rfl trivial (enters_of Tryz.func66 (by kernel_rfl) rfl) (encs := lineEnc) (T := fun k => w.heap.size + 6 ≤ k ∧ k < w.heap.size + 10) (M := w.heap.size + 10) (xs := lns s.data.toList []) (fun k hk => by omega)
    (fun W hb hsz => by
      have := linesOf1_in 4 (by omega) (w.heap.size + 3) s.data.toList (by have h := hs; rw [Lib.size_eq] at h; exact h) W ((hb.block _ (by omega)).trans hT2)
      rw [hsz, hs2] at this
      exact this) (fun _ => rfl)
    (RgI w) (RgN w)
    (fun pre A B hh ho => hh.off (ho.less (fun k hk => by unfold rgT; omega)))
    (fun pre A B hh ho => hh.off (ho.less (fun k hk => by unfold rgT; omega)))
    hI0
    (fun x => { tmps := #[.string s, undef, .pointer (some ⟨w.heap.size, 0, none⟩), .pointer (some ⟨w.heap.size + 1, 0, none⟩), .pointer (some ⟨w.heap.size + 2, 0, none⟩), .string (txtOf x), undef, undef, .string s, .func (.func 66) #[] #[.pointer (some ⟨w.heap.size + 3, 0, none⟩)], .string (txtOf x), undef, undef, undef, undef, undef, undef, undef, undef, undef, undef, undef, undef, undef, undef, undef, undef, undef], defers := [] }) ?assign ?body ?done ?stop
  case assign =>
    intro l' x W K hK
    simp only [lineEnc]
    gi_wp2
    exact hK
  case body =>
    rintro l' pre x post W hx hI hM hsz
    have hql : (lns s.data.toList []).length ≤ 9000001 := by
      have := lns_count s.data.toList []
      have h := hs
      rw [Lib.size_eq] at h
      omega
    have hpl : pre.length ≤ 9000001 := by
      rw [hx] at hql
      simp at hql
      omega
    have hxl : x.length ≤ 9000000 := by
      have h := lns_len s.data.toList [] x (by rw [hx]; simp)
      have h' := hs
      rw [Lib.size_eq] at h'
      simp at h h'
      omega
    obtain ⟨v, i1, i2, i3, ⟨L, j1, j2, j3⟩, i5, i6⟩ := hI
    have hlen : (pre.map gd).length = pre.length := by simp
    rw [hlen] at j2
    obtain ⟨va, vc, rfl⟩ := own_slice j2
    have HI : Hid (W.heap[w.heap.size]? = some (.cells #[.slice none 0 0] 22 (0, 0)) ∧ W.heap[w.heap.size + 1]? = some (.cells #[.nilIface] 28 (0, 0)) ∧ W.heap[w.heap.size + 2]? = some (.cells #[.slice va pre.length vc] 22 (0, 0)) ∧ (∀ y ∈ pre, er y = 0) ∧ Below w.heap.size w W) := ⟨i2, i3, i1, i5, i6⟩
    have HL : Hid (L.map (·.1) = pre.map gd ∧ W.ownsRow (w.heap.size + 10) 45 10 (.slice va pre.length vc) pre.length (L.flatMap stC) ∧ ∀ p ∈ L, StOwn (w.heap.size + 10) W p) := ⟨j1, j2, j3⟩
    have HPa : Hid (Calls Tryz.prog 18 #[.string (txtOf x)] W fun e W3 => ∃ oa oc pa pc la lc ia ic, e = .returned (.tuple #[.agg #[.int .i64 (gd x).k, .string (txtOf (gd x).n), .slice oa (gd x).ops.length oc, .slice pa (gd x).pcs.length pc, .string (txtOf (gd x).deg), .slice la (gd x).lits.length lc, .slice ia (gd x).ids.length ic, .int .i64 (gd x).ends, .string (txtOf (gd x).low), .string (txtOf (gd x).high)], .int .i64 (er x)]) ∧ SlOwn W.heap.size W3 (gd x) (.slice oa (gd x).ops.length oc) (.slice pa (gd x).pcs.length pc) (.slice la (gd x).lits.length lc) (.slice ia (gd x).ids.length ic) ∧ Below W.heap.size W W3) := by
      refine (parse_any8 x W hxl (hg.to i6 h12)).mono fun e W3 hq => ?_
      obtain ⟨vo, vp, vl, vi, q1, q2, q3⟩ := hq
      obtain ⟨oa, oc, rfl⟩ := own_slice q2.o
      obtain ⟨pa, pc, rfl⟩ := own_slice q2.p
      obtain ⟨la, lc, rfl⟩ := own_slice q2.l
      obtain ⟨ia, ic, rfl⟩ := own_slice q2.i
      exact ⟨oa, oc, pa, pc, la, lc, ia, ic, q1, q2, q3⟩
    clear i1 i2 i3 i5 i6 j1 j2 j3 hql hlen hxl
    by_cases hex : er x = 0
    · have hne : (er x != 0) = false := by simpa using hex
      have HX0 : Hid (er x = 0) := hex
      clear hex
      gi_wp2_with (first | (refine ⟨trivial, ?_⟩; gi_at_call 18; refine (calls_any HPa.out).mono ?_; rintro e W3 ⟨oa, oc, pa, pc, la, lc, ia, ic, rfl, hso, hb3⟩; (have HSo : Hid (SlOwn W.heap.size W3 (gd x) (.slice oa (gd x).ops.length oc) (.slice pa (gd x).pcs.length pc) (.slice la (gd x).lits.length lc) (.slice ia (gd x).ids.length ic) ∧ Below W.heap.size W W3) := ⟨hso, hb3⟩); clear hso hb3; obtain ⟨V, hV⟩ : ∃ V, W3.alloc (.cells #[.int .i64 (gd x).k, .string (txtOf (gd x).n), .slice oa (gd x).ops.length oc, .slice pa (gd x).pcs.length pc, .string (txtOf (gd x).deg), .slice la (gd x).lits.length lc, .slice ia (gd x).ids.length ic, .int .i64 (gd x).ends, .string (txtOf (gd x).low), .string (txtOf (gd x).high)] 45) = V := ⟨_, rfl⟩; (have hbV : Below W3.heap.size W3 V := hV ▸ (Below.refl _ _).alloc (Nat.le_refl _) _); (have HSV : Hid (SlOwn W.heap.size V (gd x) (.slice oa (gd x).ops.length oc) (.slice pa (gd x).pcs.length pc) (.slice la (gd x).lits.length lc) (.slice ia (gd x).ids.length ic) ∧ Below W.heap.size W V) := ⟨⟨own_next HSo.out.1.o hbV, own_next HSo.out.1.p hbV, own_next HSo.out.1.l hbV, own_next HSo.out.1.i hbV⟩, bl_next HSo.out.2 hbV⟩); (have gV : V.heap[W3.heap.size]? = some (.cells #[.int .i64 (gd x).k, .string (txtOf (gd x).n), .slice oa (gd x).ops.length oc, .slice pa (gd x).pcs.length pc, .string (txtOf (gd x).deg), .slice la (gd x).lits.length lc, .slice ia (gd x).ids.length ic, .int .i64 (gd x).ends, .string (txtOf (gd x).low), .string (txtOf (gd x).high)] 45 (0, 0)) := hV ▸ heap_alloc_new W3 _); (have gA : V.heap[w.heap.size + 2]? = some (.cells #[.slice va pre.length vc] 22 (0, 0)) := (HSV.out.2.block _ (by omega)).trans HI.out.2.2.1); (have ca := cell_of gA 0); (have n0 := cell_of gV 0); (have n1 := cell_of gV 1); (have n2 := cell_of gV 2); (have n3 := cell_of gV 3); (have n4 := cell_of gV 4); (have n5 := cell_of gV 5); (have n6 := cell_of gV 6); (have n7 := cell_of gV 7); (have n8 := cell_of gV 8); (have n9 := cell_of gV 9); dsimp at ca n0 n1 n2 n3 n4 n5 n6 n7 n8 n9; clear hbV gV gA) | (gi_at_builtin; refine appendIn_els V (stC (gd x, .slice oa (gd x).ops.length oc, .slice pa (gd x).pcs.length pc, .slice la (gd x).lits.length lc, .slice ia (gd x).ids.length ic)) 10 rfl (by decide) rfl (.tmp 23) (.tmp 25) 22 45 (.agg cs0) 176 rfl und22 info45s rfl (w.heap.size + 10) (.slice va pre.length vc) pre.length (L.flatMap stC) (by rfl) (own_next HL.out.2.1 HSV.out.2) (stC_one _ ⟨_, _, _, rfl⟩ ⟨_, _, _, rfl⟩ ⟨_, _, _, rfl⟩ ⟨_, _, _, rfl⟩) _ rfl (by rfl) (by unfold maxLen; omega) (by omega) (by have := HSV.out.2.size; omega) ?_; intro v5 w5 q1 q2; obtain ⟨a5, c5, rfl⟩ := own_slice q1; (have hP := read_push HI.out HL.out ⟨own_next HSV.out.1.o ((Below.refl _ _).alloc (Nat.le_refl _) _), own_next HSV.out.1.p ((Below.refl _ _).alloc (Nat.le_refl _) _), own_next HSV.out.1.l ((Below.refl _ _).alloc (Nat.le_refl _) _), own_next HSV.out.1.i ((Below.refl _ _).alloc (Nat.le_refl _) _)⟩ (bl_next HSV.out.2 ((Below.refl _ _).alloc (Nat.le_refl _) _)) hM HX0.out q1 q2); (have HP : Hid _ := hP); (have cb := cell_of hP.2.2.2 0); (have fb := frozen_of hP.2.2.2 0); clear hP q1 q2; dsimp at cb))
      exact ⟨HP.out.1, HP.out.2.1, fun k hk => HP.out.2.2.1 k (by omega) (by omega)⟩
    · have hne : (er x != 0) = true := by simpa using hex
      have HX0 : Hid (er x ≠ 0) := hex
      clear hex
      gi_wp2_with (first | (refine ⟨trivial, ?_⟩; gi_at_call 18; refine (calls_any HPa.out).mono ?_; rintro e W3 ⟨oa, oc, pa, pc, la, lc, ia, ic, rfl, hso, hb3⟩; (have HSo : Hid (SlOwn W.heap.size W3 (gd x) (.slice oa (gd x).ops.length oc) (.slice pa (gd x).pcs.length pc) (.slice la (gd x).lits.length lc) (.slice ia (gd x).ids.length ic) ∧ Below W.heap.size W W3) := ⟨hso, hb3⟩); clear hso hb3; obtain ⟨V, hV⟩ : ∃ V, W3.alloc (.cells #[.int .i64 (gd x).k, .string (txtOf (gd x).n), .slice oa (gd x).ops.length oc, .slice pa (gd x).pcs.length pc, .string (txtOf (gd x).deg), .slice la (gd x).lits.length lc, .slice ia (gd x).ids.length ic, .int .i64 (gd x).ends, .string (txtOf (gd x).low), .string (txtOf (gd x).high)] 45) = V := ⟨_, rfl⟩; (have hbV : Below W3.heap.size W3 V := hV ▸ (Below.refl _ _).alloc (Nat.le_refl _) _); (have HSV : Hid (SlOwn W.heap.size V (gd x) (.slice oa (gd x).ops.length oc) (.slice pa (gd x).pcs.length pc) (.slice la (gd x).lits.length lc) (.slice ia (gd x).ids.length ic) ∧ Below W.heap.size W V) := ⟨⟨own_next HSo.out.1.o hbV, own_next HSo.out.1.p hbV, own_next HSo.out.1.l hbV, own_next HSo.out.1.i hbV⟩, bl_next HSo.out.2 hbV⟩); (have gV : V.heap[W3.heap.size]? = some (.cells #[.int .i64 (gd x).k, .string (txtOf (gd x).n), .slice oa (gd x).ops.length oc, .slice pa (gd x).pcs.length pc, .string (txtOf (gd x).deg), .slice la (gd x).lits.length lc, .slice ia (gd x).ids.length ic, .int .i64 (gd x).ends, .string (txtOf (gd x).low), .string (txtOf (gd x).high)] 45 (0, 0)) := hV ▸ heap_alloc_new W3 _); (have gA : V.heap[w.heap.size + 2]? = some (.cells #[.slice va pre.length vc] 22 (0, 0)) := (HSV.out.2.block _ (by omega)).trans HI.out.2.2.1); (have ca := cell_of gA 0); (have n0 := cell_of gV 0); (have n1 := cell_of gV 1); (have n2 := cell_of gV 2); (have n3 := cell_of gV 3); (have n4 := cell_of gV 4); (have n5 := cell_of gV 5); (have n6 := cell_of gV 6); (have n7 := cell_of gV 7); (have n8 := cell_of gV 8); (have n9 := cell_of gV 9); dsimp at ca n0 n1 n2 n3 n4 n5 n6 n7 n8 n9; clear hbV gV gA) | (refine ⟨trivial, ?_⟩; gi_at_call 36; refine (calls_any (fault_any _ _ _)).mono ?_; rintro e F ⟨rfl, hF⟩; (have hbF : Below V.heap.size V F := by rw [hF]; exact (Below.refl _ _).alloc (Nat.le_refl _) _); (have gF : F.heap[V.heap.size]? = some (.cells #[.int .i64 2, .int .i64 (pre.length + 1), .int .i64 (er x)] 98 (0, 0)) := by rw [hF]; exact heap_alloc_new V _); (have hP := read_no (x := x) HI.out (bl_next HSV.out.2 hbF) hM HX0.out gF (by have := HSV.out.2.size; omega)); (have HP : Hid _ := hP); (have e0 : F.heap[w.heap.size]? = some (.cells #[.slice none 0 0] 22 (0, 0)) := ((bl_next HSV.out.2 hbF).block _ (by omega)).trans HI.out.1); (have e1 : F.heap[w.heap.size + 1]? = some (.cells #[.nilIface] 28 (0, 0)) := ((bl_next HSV.out.2 hbF).block _ (by omega)).trans HI.out.2.1); (have cb := cell_of e0 0); (have fb := frozen_of e0 0); (have cc := cell_of e1 0); (have fc := frozen_of e1 0); clear hP hF hbF gF e0 e1; dsimp at cb cc))
      exact ⟨HP.out.1, HP.out.2.1, fun k hk => HP.out.2.2 k (by omega) (by omega)⟩
  case done =>
    rintro W hI hK
    obtain ⟨v, h1, h2, h3, h4⟩ := hI
    obtain ⟨va, vc, rfl⟩ : ∃ a c, v = .slice a (lns s.data.toList []).length c := by
      obtain ⟨⟨L, _, h, _⟩, _⟩ := h4
      have := own_slice h
      simpa using this
    have HI : Hid (W.heap[w.heap.size]? = some (.cells #[.slice none 0 0] 22 (0, 0)) ∧ W.heap[w.heap.size + 1]? = some (.cells #[.nilIface] 28 (0, 0)) ∧ RdAll (w.heap.size + 10) w (lns s.data.toList []) (.slice va (lns s.data.toList []).length vc) W ∧ W.heap[W2.heap.size]? = some (.deferred (some []))) := ⟨h2, h3, h4, hK⟩
    have c2 := cell_of h1 0
    have c0 := cell_of h2 0
    have f0 := frozen_of h2 0
    have c1 := cell_of h3 0
    have f1 := frozen_of h3 0
    dsimp at c2 c0 c1
    clear h1 h2 h3 h4 hK
    gi_wp2
    have hK : ((W.setCell ⟨w.heap.size, 0, none⟩ (.slice va (lns s.data.toList []).length vc)).setCell ⟨w.heap.size + 1, 0, none⟩ .nilIface).heap[W2.heap.size]? = some (.deferred (some [])) := (Below.heap_setCell _ ⟨w.heap.size + 1, 0, none⟩ _ _ (by simp; omega)).trans ((Below.heap_setCell _ ⟨w.heap.size, 0, none⟩ _ _ (by simp; omega)).trans HI.out.2.2.2)
    refine ⟨by simp, .inl ⟨_, _, rfl, run_takeDeferred hK, ?_⟩⟩
    obtain ⟨d0, d1, d2⟩ := read_done HI.out.1 HI.out.2.1 HI.out.2.2.1 hs2 _ rfl
    exact ⟨.tuple #[.slice va (lns s.data.toList []).length vc, .nilIface], by simp [results, Tryz.results15, go_sem, d0, d1], .inl ⟨_, rfl, d2⟩⟩
  case stop =>
    rintro pre x post W hx hI hK
    have HI : Hid (RgN w (pre ++ [x]) W ∧ W.heap[W2.heap.size]? = some (.deferred (some []))) := ⟨hI, hK⟩
    clear hI hK
    gi_wp2
    refine ⟨by simp, .inl ⟨_, _, rfl, run_takeDeferred HI.out.2, ?_⟩⟩
    obtain ⟨u, d0, d1, d2⟩ := read_stop HI.out.1 hs2 _ rfl
    exact ⟨.tuple #[.slice none 0 0, u], by simp [results, Tryz.results15, go_sem, d0, d1], .inr ⟨u, pre, x, post, hx, rfl, d2⟩⟩
end Go.Proofs.YtibbnijicdijnaaGreatDoor

namespace Go.Proofs.YtibbnijicdijnaaGreatDoor
open Go.RowKit

def OkL (s : Ls) : Prop := ∀ e, s.2 = some e → 80 ≤ e ∧ e ≤ 82
theorem ok_fail {s : Ls} (h : OkL s) (e : Int) (he : 80 ≤ e ∧ e ≤ 82) : OkL (failP e s) := by
  intro e' h'
  unfold failP at h'
  split at h'
  · simp at h'; subst h'; exact he
  · exact h e' h'
theorem ok_if {c : Prop} [Decidable c] {a b : Ls} (ha : OkL a) (hb : OkL b) : OkL (if c then a else b) := by split <;> assumption
theorem ok_take {s : Ls} (h : OkL s) : OkL (takeP s).2 := by unfold takeP; split <;> exact h
theorem ok_next {s : Ls} (h : OkL s) : OkL (nextP s).2 := by
  unfold nextP
  split
  · exact ok_take h
  · exact ok_fail (ok_take h) 82 (by decide)
theorem ok_must {s : Ls} (x : List UInt8) (h : OkL s) : OkL (mustP x s) := ok_if (ok_next h) (ok_fail (ok_next h) 80 (by decide))
theorem ok_end {s : Ls} (h : OkL s) : OkL (endP s) := ok_if (ok_fail (ok_take h) 80 (by decide)) (ok_take h)
theorem ok_whole {s : Ls} (x : List UInt8) (g : Int) (h : OkL s) : OkL (wholeP x g s) := ok_if (ok_fail h 81 (by decide)) h
theorem ok_lit {s : Ls} (x : List UInt8) (h : OkL s) : OkL (literalP x s) := ok_if h (ok_fail h 81 (by decide))
theorem ok_leanS {s : Ls} (x : List UInt8) (h : OkL s) : OkL (leanS x s) := ok_if h (ok_fail h 80 (by decide))
theorem ok_lean {s : Ls} (x : List UInt8) (h : OkL s) : OkL (leanP x s).2 := ok_whole _ _ (ok_next (ok_leanS x h))
theorem ok_operS {s : Ls} (x : List UInt8) (h : OkL s) : OkL (operS x s) := ok_if (ok_fail h 80 (by decide)) h
theorem ok_oper {s : Ls} (x : List UInt8) (h : OkL s) : OkL (operP x s).2 := by
  unfold operP
  split
  · exact h
  · exact ok_whole _ _ (ok_operS x h)
theorem ok_turn {s : Ls} (a b : Int) (L : List OpL) (h : OkL s) : OkL (turnP a b L s).2 := by
  unfold turnP
  split
  · exact ok_fail h 80 (by decide)
  · split
    · exact h
    · exact ok_fail h 80 (by decide)
theorem ok_op {s : Ls} (x : List UInt8) (L : List OpL) (h : OkL s) : OkL (opP x L s).2 := by
  unfold opP
  split
  · exact h
  split
  · exact h
  split
  · exact ok_turn _ _ _ h
  split
  · exact ok_turn _ _ _ h
  split
  · exact ok_turn _ _ _ h
  · exact ok_oper x h
theorem ok_lops : ∀ (n : Nat) (L : List OpL) (s : Ls), OkL s → OkL (lopsP n L s).2
  | 0, _, _, h => h
  | n + 1, L, s, h => by
    unfold lopsP
    split
    · exact ok_lops n _ _ (ok_op _ _ (ok_take h))
    · exact ok_take h
theorem ok_ops {s : Ls} (h : OkL s) : OkL (opsP s).2 := ok_lops _ _ _ (ok_op _ _ (ok_next h))
theorem ok_lst {rd : List UInt8 → Ls → Ls} (hr : ∀ x s, OkL s → OkL (rd x s)) : ∀ (n : Nat) (s : Ls), OkL s → OkL (lstP rd n s).2
  | 0, _, h => h
  | n + 1, s, h => by
    unfold lstP
    split
    · exact ok_lst hr n _ (hr _ _ (ok_take h))
    · exact ok_take h
theorem ok_list {rd : List UInt8 → Ls → Ls} (hr : ∀ x s, OkL s → OkL (rd x s)) {s : Ls} (h : OkL s) : OkL (listP rd s).2 := ok_lst hr _ _ h
theorem ok_ids {s : Ls} (h : OkL s) : OkL (idsP s).2 := ok_list (fun x _ h => ok_whole x 1 h) h
theorem ok_rowL : ∀ (n : Nat) (x : List UInt8) (s : Ls), OkL s → OkL (rowL n x s).2
  | 0, _, _, h => h
  | n + 1, x, s, h => by
    unfold rowL
    split
    · exact h
    · exact ok_rowL n _ _ (ok_next (ok_lit _ (ok_next (ok_whole _ _ h))))
theorem ok_row {s : Ls} (h : OkL s) : OkL (rowP s).2 := ok_must _ (ok_whole _ _ (ok_next (ok_rowL _ _ _ (ok_next h))))
theorem ok_musts (l : List (List UInt8)) : ∀ {s : Ls}, OkL s → OkL (mustsP l s) := by
  unfold mustsP
  induction l with
  | nil => exact fun h => h
  | cons x l ih => exact fun h => ih (ok_must x h)
theorem ok_eqS {s : Ls} (h : OkL s) : OkL (eqS s) := ok_whole _ _ (ok_next h)
theorem ok_pick (T : List FmL) (rd : FuncId → Ls → SL × Ls) (hr : ∀ f s, OkL s → OkL (rd f s).2) {s : Ls} (h : OkL s) : OkL (pickP T rd s).2.2 := by
  unfold pickP
  split
  · exact hr _ _ (ok_musts _ (ok_next h))
  · exact ok_fail (ok_next h) 80 (by decide)
theorem ok_unsat {s : Ls} (h : OkL s) : OkL (unsatP s).2 := by
  unfold unsatP
  split
  · exact ok_lean _ (ok_take h)
  · exact ok_take h
theorem ok_all {s : Ls} (h : OkL s) : OkL (allP s).2 := ok_lean _ (ok_next (ok_whole _ _ (ok_next h)))
theorem ok_bounds {s : Ls} (h : OkL s) : OkL (boundsP s).2 := by
  have hA : OkL (bdA s) := by unfold bdA; exact ok_whole _ _ (ok_next h)
  have hB : OkL (bdB s) := ok_next hA
  unfold boundsP
  split
  · exact ok_whole _ _ (ok_next (ok_lean _ hB))
  · exact ok_whole _ _ hB
theorem ok_rdC (f : FuncId) (s : Ls) (h : OkL s) : OkL (rdC f s).2 := by
  unfold rdC
  split
  · exact ok_unsat h
  split
  · exact ok_bounds h
  split
  · exact ok_all h
  · exact h
theorem ok_ends {s : Ls} (h : OkL s) : OkL (endsP s).2 := ok_pick _ _ ok_rdC h
theorem ok_rdF (f : FuncId) (s : Ls) (h : OkL s) : OkL (rdF f s).2 := by
  unfold rdF
  split
  · exact ok_whole _ _ (ok_next h)
  split
  · exact ok_ops h
  split
  · exact ok_ids (ok_row h)
  split
  · exact ok_row (ok_eqS h)
  split
  · exact ok_list (fun x _ h => ok_lit x h) h
  split
  · exact ok_ids (ok_eqS h)
  split
  · exact h
  split
  · exact ok_ends h
  · exact h
theorem er_range (x : List UInt8) : er x = 0 ∨ (80 ≤ er x ∧ er x ≤ 82) := by
  have h : OkL (endP (pickP formsL rdF (x, none)).2.2) := ok_end (ok_pick _ _ ok_rdF (fun e he => by cases he))
  unfold er parseP
  cases hr : (readP x).2 with
  | none => exact .inl rfl
  | some e =>
    right
    unfold readP at hr
    split at hr
    · cases hr
    · exact h e hr

theorem info32 : (Tryz.prog.info? 32).map (·.size) = some 2 := by kernel_rfl
theorem und95 : Tryz.prog.underlying 95 = some (.pointer 98) := by kernel_rfl
theorem run_assert (p : Value) (w : World) : (Instr.typeAssert (.iface 95 p) 28 95 true).run Tryz.prog w = .ok (.tuple #[p, .bool true]) w := by
  unfold Instr.typeAssert
  simp [run_underlying und95]
set_option maxRecDepth 10000 in
set_option maxHeartbeats 2000000 in
theorem told_nil (w : World) : Calls Tryz.prog 12 #[.nilIface] w fun e w' => e = .returned (.tuple #[.agg #[.int .i64 0, .int .i64 0], .bool true]) ∧ Below w.heap.size w w' := by
  go_enter Tryz.func12, Tryz.ntmps12
  go_wp2_with fail
  refine bodyPost_ret (res_step rfl _ _ w.heap.size 32 _ (0, 0) _ rfl (heap_alloc_new w _) Tryz.underlying32 rfl info32) rfl ⟨rfl, (Below.refl _ _).alloc (Nat.le_refl _) _⟩
set_option maxRecDepth 10000 in
set_option maxHeartbeats 2000000 in
theorem told_hit (n m : Int) (f : Nat) (w : World) (hf : w.heap[f]? = some (.cells #[.int .i64 2, .int .i64 n, .int .i64 m] 98 (0, 0))) (h1 : 80 ≤ m) (h2 : m ≤ 83) : Calls Tryz.prog 12 #[.iface 95 (.pointer (some ⟨f, 0, none⟩))] w fun e w' => e = .returned (.tuple #[.agg #[.int .i64 n, .int .i64 m], .bool true]) ∧ Below w.heap.size w w' := by
  obtain ⟨W, hW⟩ : ∃ W, w.alloc (.cells #[.int .i64 0, .int .i64 0] 32) = W := ⟨_, rfl⟩
  have hbW : Below w.heap.size w W := by rw [← hW]; exact (Below.refl _ _).alloc (Nat.le_refl _) _
  have gW := (hbW.block _ (Array.getElem?_eq_some_iff.1 hf).1).trans hf
  have c0 := cell_of gW 0
  have c1 := cell_of gW 1
  have c2 := cell_of gW 2
  have gN : W.heap[w.heap.size]? = some (.cells #[.int .i64 0, .int .i64 0] 32 (0, 0)) := by rw [← hW]; exact heap_alloc_new w _
  have d0 := cell_of gN 0
  have d1 := cell_of gN 1
  have z0 := frozen_of gN 0
  have z1 := frozen_of gN 1
  dsimp at c0 c1 c2 d0 d1
  have HW : Hid (Below w.heap.size w W) := hbW
  have HgN : Hid (W.heap[w.heap.size]? = some (.cells #[.int .i64 0, .int .i64 0] 32 (0, 0))) := gN
  have hTA := fun W => run_assert (.pointer (some ⟨f, 0, none⟩)) W
  have hm1 : ¬ m < 80 := by omega
  have hm2 : ¬ 83 < m := by omega
  clear gW gN hbW h1 h2 hf
  go_enter Tryz.func12, Tryz.ntmps12
  go_wp2_with fail
  go_region
  go_wp2_with fail

  refine bodyPost_ret (res_step rfl _ _ w.heap.size 32 _ (0, 0) _ rfl (set_of (set_of (show W.drew.heap[w.heap.size]? = _ from HgN.out) 0 _) 1 _) Tryz.underlying32 rfl info32) rfl ⟨rfl, (HW.out.drew.setCell (Nat.le_refl _) _).setCell (Nat.le_refl _) _⟩
end Go.Proofs.YtibbnijicdijnaaGreatDoor

namespace Go.Proofs.YtibbnijicdijnaaGreatDoor
open Go.RowKit

theorem BdC.same {f : FuncId} {M : List (List UInt8)} {d : SL} (h : BdC f M d) : d.pcs = [] ∧ d.lits = [] ∧ d.ops = [] := by
  unfold BdC at h
  split at h
  · rcases h with ⟨_, rfl⟩ | ⟨_, _, _, rfl⟩ <;> exact ⟨rfl, rfl, rfl⟩
  split at h
  · rcases h with ⟨_, _, _, _, _, rfl⟩ | ⟨_, _, _, _, _, _, _, rfl⟩ <;> exact ⟨rfl, rfl, rfl⟩
  split at h
  · obtain ⟨_, _, _, _, _, rfl⟩ := h
    exact ⟨rfl, rfl, rfl⟩
  · obtain ⟨_, rfl⟩ := h
    exact ⟨rfl, rfl, rfl⟩
theorem BdF.ints {f : FuncId} {M : List (List UInt8)} {d : SL} (h : BdF f M d) : SlI d := by
  have nil : ∀ d : SL, d.pcs = [] → d.lits = [] → d.ops = [] → SlI d := fun d h1 h2 h3 => ⟨fun x hx => by rw [h1] at hx; exact absurd hx List.not_mem_nil, fun x hx => by rw [h2] at hx; exact absurd hx List.not_mem_nil, fun x hx => by rw [h3] at hx; exact absurd hx List.not_mem_nil⟩
  have row : ∀ P : List PcL, (∀ o ∈ P, okPc o) → ∀ x ∈ P, -9223372036854775808 ≤ x.2 ∧ x.2 ≤ 9223372036854775807 := fun P hP x hx => by
    have := (hP x hx).2.good
    exact ⟨by omega, by omega⟩
  unfold BdF at h
  split at h
  · obtain ⟨_, _, _, rfl⟩ := h; exact nil _ rfl rfl rfl
  split at h
  · obtain ⟨F, _, hr, rfl⟩ := h
    refine ⟨fun x hx => absurd hx List.not_mem_nil, fun x hx => absurd hx List.not_mem_nil, fun x hx => ?_⟩
    have := (runW_is M [] F hr).2.2 (fun o ho => absurd ho List.not_mem_nil) x hx
    exact ⟨by have := this.1; omega, by have := this.2; omega⟩
  split at h
  · obtain ⟨P, deg, ids, _, hP, _, _, rfl⟩ := h
    exact ⟨row P hP, fun x hx => absurd hx List.not_mem_nil, fun x hx => absurd hx List.not_mem_nil⟩
  split at h
  · obtain ⟨i, P, deg, _, _, hP, _, rfl⟩ := h
    exact ⟨row P hP, fun x hx => absurd hx List.not_mem_nil, fun x hx => absurd hx List.not_mem_nil⟩
  split at h
  · obtain ⟨l, _, hl, rfl⟩ := h
    refine ⟨fun x hx => absurd hx List.not_mem_nil, fun x hx => ?_, fun x hx => absurd hx List.not_mem_nil⟩
    have := (hl x hx).good
    exact ⟨by omega, by omega⟩
  split at h
  · obtain ⟨_, _, _, _, _, rfl⟩ := h; exact nil _ rfl rfl rfl
  split at h
  · obtain ⟨_, rfl⟩ := h; exact nil _ rfl rfl rfl
  split at h
  · obtain ⟨g, hg, N, e, _, hB, rfl⟩ := h
    obtain ⟨h1, h2, h3⟩ := hB.same
    exact nil _ h1 h2 h3
  · obtain ⟨_, rfl⟩ := h; exact nil _ rfl rfl rfl
theorem Rgt.ints {L : List (List UInt8)} {d : SL} (h : Rgt L d) : SlI d := by
  obtain ⟨f, hf, M, e, _, hb, rfl⟩ := h
  have := hb.ints
  exact ⟨this.p, this.l, this.o⟩
/-- A text of lines. -/
def txt (ls : List (List UInt8)) : List UInt8 := ls.flatMap fun x => x ++ [10]
theorem lns_line : ∀ (x t cur : List UInt8), 10 ∉ x → lns (x ++ 10 :: t) cur = (cur ++ x) :: lns t [] := by
  intro x
  induction x with
  | nil => intro t cur _; rw [List.nil_append, lns, if_pos rfl, List.append_nil]
  | cons c x ih =>
    intro t cur h
    rw [List.cons_append, lns, if_neg (fun e => h (by rw [e]; exact List.mem_cons_self)), ih t (cur ++ [c]) (fun e => h (List.mem_cons_of_mem _ e))]
    simp
theorem lns_txt : ∀ ls : List (List UInt8), (∀ x ∈ ls, 10 ∉ x) → lns (txt ls) [] = ls := by
  intro ls
  induction ls with
  | nil => intro _; rfl
  | cons x ls ih =>
    intro h
    have e : txt (x :: ls) = x ++ 10 :: txt ls := by simp [txt]
    rw [e, lns_line x _ [] (h x List.mem_cons_self), ih fun y hy => h y (List.mem_cons_of_mem _ hy)]
    rfl
theorem txt_len (ls : List (List UInt8)) : (txt ls).length = tot ls := by
  induction ls with
  | nil => rfl
  | cons x ls ih => simp [txt, tot] at ih ⊢; omega
theorem lns_tot : ∀ (r cur : List UInt8), tot (lns r cur) ≤ cur.length + r.length + 1 := by
  intro r
  induction r with
  | nil => intro cur; unfold lns; split <;> simp [tot]
  | cons c r ih =>
    intro cur
    unfold lns
    split
    · have := ih []
      simp [tot] at this ⊢
      omega
    · have := ih (cur ++ [c])
      simp at this ⊢
      omega
theorem er_right {x : List UInt8} (h : er x = 0) : ∃ L, Rgt L (gd x) ∧ (Tk x L ∨ L = [[42]]) := by
  refine parse_right (x := x) (Prod.ext rfl h) fun e he => ?_
  intro h0
  subst h0
  have hk : OkL (endP (pickP formsL rdF (x, none)).2.2) := ok_end (ok_pick _ _ ok_rdF (fun e he => by cases he))
  unfold readP at he
  split at he
  · cases he
  · have := hk 0 he
    omega
end Go.Proofs.YtibbnijicdijnaaGreatDoor
