/-
  Put together: MdRow, MdRoom0.
-/
import Derived.Test.YtjanpglnahagdaaGreatDoorProg
import Derived.ProofKit
import Derived.Laws.AppendOwn
import Derived.Laws.AppendOwnNone
import Derived.Laws.CopyOwn
import Derived.Deep.OwnRows
import Derived.Deep.RegionHeld3
namespace Go.Proofs.YtjanpglnahagdaaGreatDoor
open Go.RowKit

theorem run_append_s {P : Program} (w : World) (base : Nat) (t ty e : TypeId) (i : TypeInfo) (z : Value) (size bytes : Nat) (ht : P.underlying t = some (.slice e)) (hi : P.info? e = some i) (hz : i.zero = some z)
    (hsize : i.size = size) (hby : i.bytes = bytes) (hzs : z.cells.size = size) (hsz : 0 < size)
    (v : Value) (n : Nat) (xs : List Value) (hown : w.ownsRow base e size v n xs)
    (a : Addr) (m c : Nat) (news : List Value) (hl : news.length = m * size) (hnews : ∀ j u, news[j]? = some u → w.cell? (a.add j) = some u) (h1 : ∀ u ∈ news, u.oneCell' = true)
    (h63 : n + m ≤ maxLen) (hbytes : (n + m) * bytes ≤ 140737488355328) (hbase : base ≤ w.heap.size) :
    ∃ v' w', (Builtin.append_ #[t, t] ty #[v, .slice (some a) m c]).run P w = .ok v' w' ∧ w'.ownsRow base e size v' (n + m) (xs ++ news) ∧ w.grownBy w' v.ownBlock ∧ (v'.ownBlock = v.ownBlock ∨ v'.ownBlock = some w.heap.size) := by
  obtain ⟨v', w', hr, ho, hg, hnil⟩ := run_append_own (P := P) w base t ty e i z size bytes ht hi hz hsize hby hzs hsz v n xs hown a m c news hl hnews h1 h63 hbytes hbase
  refine ⟨v', w', hr, ho, hg, ?_⟩
  subst hsize
  subst hby
  have hsmall : n + m ≤ 9223372036854775807 := by simp only [maxLen] at h63; omega
  obtain ⟨hxl, hcase⟩ := hown
  rcases hcase with ⟨rfl, rfl⟩ | ⟨g, cap, cur, rfl, hbg, hgg, hnc, hcm, hcs, htake⟩
  · by_cases hm : m = 0
    · have := hnil.2 ⟨rfl, hm⟩
      exact .inl (by rw [this])
    · have hr2 := run_append_nil (P := P) w t ty e i z ht hi hz a m c news hl hnews (by omega) (by omega) (by have hb := hbytes; simp only [Nat.zero_add] at hb; omega)
      rw [hr] at hr2
      injection hr2 with e1 e2
      exact .inr (by rw [e1]; rfl)
  · by_cases hroom : n + m ≤ cap
    · have hfit : n * i.size + news.length ≤ cur.size := by rw [hl, hcs, ← Nat.add_mul]; exact Nat.mul_le_mul_right _ hroom
      have hr2 := run_append_room (P := P) w t ty e i ht hi g n cap cur hgg a m c news hl hnews h1 hroom hfit
      rw [hr] at hr2
      injection hr2 with e1 e2
      exact .inl (by rw [e1]; rfl)
    · have holds : ∀ j u, xs[j]? = some u → w.cell? ((⟨g, 0, none⟩ : Addr).add j) = some u := World.ownsRow.cells (base := base) (e := e) (size := i.size) (n := n) (v := .slice (some ⟨g, 0, none⟩) n cap) ⟨hxl, .inr ⟨g, cap, cur, rfl, hbg, hgg, hnc, hcm, hcs, htake⟩⟩ rfl
      have hr2 := run_append_grow (P := P) w t ty e i z ht hi hz ⟨g, 0, none⟩ n cap xs hxl holds a m c news hl hnews (by omega) (by omega) (growslice_fits (by omega) hbytes)
      rw [hr] at hr2
      injection hr2 with e1 e2
      exact .inr (by rw [e1]; rfl)

theorem wpList_append_s {P : Program} {ops : Array Oper} {rest : List Oper} {o : Oper} {a : Act} {Q : Exit → Act → World → Prop} (w : World) (hgd : o.guard = none) (s x : Operand) (t : TypeId)
    (ho : o.op = .call { callee := .builtin .append, args := #[s, x], argTypes := #[t, t] })
    (base : Nat) (e : TypeId) (i : TypeInfo) (z : Value) (size bytes : Nat) (ht : P.underlying t = some (.slice e)) (hi : P.info? e = some i) (hz : i.zero = some z)
    (hsize : i.size = size) (hby : i.bytes = bytes) (hzs : z.cells.size = size) (hsz : 0 < size)
    (v : Value) (n : Nat) (xs : List Value) (hs : a.eval s = v) (hown : w.ownsRow base e size v n xs)
    (ad : Addr) (m c : Nat) (news : List Value) (hx : a.eval x = .slice (some ad) m c) (hl : news.length = m * size) (hnews : ∀ j u, news[j]? = some u → w.cell? (ad.add j) = some u) (h1 : ∀ u ∈ news, u.oneCell' = true)
    (h63 : n + m ≤ maxLen) (hbytes : (n + m) * bytes ≤ 140737488355328) (hbase : base ≤ w.heap.size)
    (h : ∀ v' w', w'.ownsRow base e size v' (n + m) (xs ++ news) → w.grownBy w' v.ownBlock → (v'.ownBlock = v.ownBlock ∨ v'.ownBlock = some w.heap.size) → wpList P ops Q rest (a.put o.dst v') w') : wpList P ops Q (o :: rest) a w := by
  refine wpList_plain hgd fun _ hK => ?_
  obtain ⟨v', w', hr, h2, h3, h4⟩ := run_append_s (P := P) w base t o.type e i z size bytes ht hi hz hsize hby hzs hsz v n xs hown ad m c news hl hnews h1 h63 hbytes hbase
  unfold Oper.wp execOp
  simp only [ho, resolve, invoke, builtin, Sem.run_bind, Sem.run_pure, Result.andThen_ok, List.map_toArray, List.map_cons, List.map_nil, hs, hx, hr]
  exact hK _ _ (h v' w' h2 h3 h4)

theorem addr_none (b o j : Nat) : (⟨b, o, none⟩ : Addr).add j = ⟨b, o + j, none⟩ := by unfold Addr.add; split <;> simp_all

/-- One cell more, of a row of one cell an element: it stands in a new block. -/
theorem append_one {P : Program} {ops : Array Oper} {rest : List Oper} {o : Oper} {a : Act} {Q : Exit → Act → World → Prop} (wr : World) (u : Value) (hgd : o.guard = none) (s x : Operand) (t e : TypeId) (z : Value) (bytes : Nat)
    (ho : o.op = .call { callee := .builtin .append, args := #[s, x], argTypes := #[t, t] }) (ht : P.underlying t = some (.slice e)) (hinfo : (P.info? e).map (fun i => (i.zero, i.size, i.bytes)) = some (some z, 1, bytes)) (hz1 : z.cells.size = 1)
    (base : Nat) (v : Value) (n : Nat) (xs : List Value) (hs : a.eval s = v) (hown : wr.ownsRow base e 1 v n xs) (hu : u.oneCell' = true)
    (bk : Nat) (hbk : wr.heap.size = bk) (hx : a.eval x = .slice (some ⟨bk, 0, none⟩) 1 1) (h63 : n + 1 ≤ maxLen) (hbytes : (n + 1) * bytes ≤ 140737488355328) (hbase : base ≤ wr.heap.size)
    (h : ∀ v' w', w'.ownsRow base e 1 v' (n + 1) (xs ++ [u]) → (wr.alloc (.cells #[u] e)).grownBy w' v.ownBlock → (v'.ownBlock = v.ownBlock ∨ v'.ownBlock = some (wr.heap.size + 1)) → wpList P ops Q rest (a.put o.dst v') w') : wpList P ops Q (o :: rest) a (wr.alloc (.cells #[u] e)) := by
  subst hbk
  obtain ⟨i0, hi, hz0, hz1', hz2⟩ : ∃ i0, P.info? e = some i0 ∧ i0.zero = some z ∧ i0.size = 1 ∧ i0.bytes = bytes := by
    cases hh : P.info? e with
    | none => rw [hh] at hinfo; cases hinfo
    | some i0 => rw [hh] at hinfo; simp at hinfo; exact ⟨i0, rfl, hinfo.1, hinfo.2.1, hinfo.2.2⟩
  have hsz : (wr.alloc (.cells #[u] e)).heap.size = wr.heap.size + 1 := by simp
  refine wpList_append_s _ hgd s x t ho base e i0 z 1 bytes ht hi hz0 hz1' hz2 hz1 (by decide) v n xs hs (hown.alloc _) ⟨wr.heap.size, 0, none⟩ 1 1 [u] hx rfl ?_ ?_ h63 hbytes (by rw [hsz]; omega) ?_
  · intro j y hj
    rw [addr_none]
    match j, hj with
    | 0, hj => simp at hj; subst hj; show World.cell? _ ⟨wr.heap.size, 0, none⟩ = _; unfold World.cell?; rw [heap_alloc_new wr (.cells #[u] e)]; rfl
    | k + 1, hj => simp at hj
  · intro y hy
    rw [List.mem_singleton.1 hy]; exact hu
  · intro v' w' h1 h2 h3
    rw [hsz] at h3
    exact h v' w' h1 h2 h3
end Go.Proofs.YtjanpglnahagdaaGreatDoor

namespace Go.Proofs.YtjanpglnahagdaaGreatDoor
open Go.RowKit

/-- Which blocks are the room's own: 0: not; 100: its struct; f + 1: the row of its field f. -/
abbrev Lab := Nat → Nat

/-- What has no label stays. -/
structure Agree (S S' : Lab) (w w' : World) : Prop where
  os : w'.os = w.os
  tape : w'.tape = w.tape
  output : w'.output = w.output
  size : w.heap.size ≤ w'.heap.size
  lab : ∀ k, k < w.heap.size → S' k = S k
  block : ∀ k, k < w.heap.size → S k = 0 → w'.heap[k]? = w.heap[k]?

theorem Agree.refl (S : Lab) (w : World) : Agree S S w w := ⟨rfl, rfl, rfl, Nat.le_refl _, fun _ _ => rfl, fun _ _ _ => rfl⟩
theorem Agree.trans {S1 S2 S3 : Lab} {w1 w2 w3 : World} (h : Agree S1 S2 w1 w2) (k : Agree S2 S3 w2 w3) : Agree S1 S3 w1 w3 :=
  ⟨k.os.trans h.os, k.tape.trans h.tape, k.output.trans h.output, Nat.le_trans h.size k.size, fun i hi => (k.lab i (Nat.lt_of_lt_of_le hi h.size)).trans (h.lab i hi),
    fun i hi h0 => (k.block i (Nat.lt_of_lt_of_le hi h.size) ((h.lab i hi).trans h0)).trans (h.block i hi h0)⟩
theorem Agree.of_below (S : Lab) {w w' : World} (hb : Below w.heap.size w w') : Agree S S w w' :=
  ⟨hb.os, hb.tape, hb.output, hb.size, fun _ _ => rfl, fun i hi _ => hb.block i hi⟩
theorem Agree.below {S S' : Lab} {w w' : World} {base : Nat} (h : Agree S S' w w') (hb : base ≤ w.heap.size) (h0 : ∀ k, k < base → S k = 0) : Below base w w' :=
  ⟨h.os, h.tape, h.output, h.size, fun i hi => h.block i (Nat.lt_of_lt_of_le hi hb) (h0 i hi)⟩
theorem Agree.cell {S S' : Lab} {w w' : World} (h : Agree S S' w w') {a : Addr} (ha : a.block < w.heap.size) (h0 : S a.block = 0) : w'.cell? a = w.cell? a :=
  World.cell?_of_block (h.block _ ha h0)

/-- The room: its struct lies in the block R; F tells what its rows have. -/
structure RoomAt (ety : Nat → TypeId) (base : Nat) (R : Nat) (S : Lab) (F : Nat → List Value) (w : World) : Prop where
  lab : S R = 100
  top : ∀ k, w.heap.size ≤ k → S k = 0
  low : ∀ k, k < base → S k = 0
  bas : base ≤ w.heap.size
  blk : ∃ cs t, w.heap[R]? = some (.cells cs t (0, 0)) ∧ cs.size = 28
  field : ∀ f, f < 28 → ∃ v, w.cell? ⟨R, f, none⟩ = some v ∧ w.ownsRow base (ety f) 1 v (F f).length (F f) ∧ ∀ g, v.ownBlock = some g → S g = f + 1

theorem RoomAt.lt {ety : Nat → TypeId} {base R : Nat} {S : Lab} {F : Nat → List Value} {w : World} (h : RoomAt ety base R S F w) : R < w.heap.size := by
  obtain ⟨cs, t, hb, _⟩ := h.blk
  exact (Array.getElem?_eq_some_iff.1 hb).1

theorem ownsRow_same {w w' : World} {base : Nat} {e : TypeId} {size : Nat} {v : Value} {n : Nat} {xs : List Value} (h : w.ownsRow base e size v n xs) (hb : ∀ g, v.ownBlock = some g → w'.heap[g]? = w.heap[g]?) : w'.ownsRow base e size v n xs := by
  refine ⟨h.1, ?_⟩
  rcases h.2 with hn | ⟨g, cap, cur, rfl, hbg, hgg, rest⟩
  · exact .inl hn
  · exact .inr ⟨g, cap, cur, rfl, hbg, (hb g rfl).trans hgg, rest⟩

/-- New blocks alone. -/
theorem RoomAt.kept {ety : Nat → TypeId} {base R : Nat} {S : Lab} {F : Nat → List Value} {w w' : World} (h : RoomAt ety base R S F w) (hb : Below w.heap.size w w') : RoomAt ety base R S F w' := by
  have hR := h.lt
  refine ⟨h.lab, fun k hk => h.top k (Nat.le_trans hb.size hk), h.low, Nat.le_trans h.bas hb.size, ?_, fun f hf => ?_⟩
  · obtain ⟨cs, t, h1, h2⟩ := h.blk
    exact ⟨cs, t, (hb.block R hR).trans h1, h2⟩
  · obtain ⟨v, h1, h2, h3⟩ := h.field f hf
    exact ⟨v, (hb.cell (p := ⟨R, f, none⟩) hR).trans h1, ownsRow_same h2 (fun g hg => hb.block g (h2.lt g hg).2), h3⟩

/-- The room's field, and what is written to it, behind an append that laid one cell more. -/
theorem RoomAt.push {ety : Nat → TypeId} {base R : Nat} {S : Lab} {F : Nat → List Value} {w W w' : World} {f : Nat} {v v' u : Value} (h : RoomAt ety base R S F w) (hf : f < 28) (hW : Below w.heap.size w W)
    (hv : w.cell? ⟨R, f, none⟩ = some v) (ho : w'.ownsRow base (ety f) 1 v' ((F f).length + 1) (F f ++ [u])) (hg : W.grownBy w' v.ownBlock) (hn : v'.ownBlock = v.ownBlock ∨ v'.ownBlock = some W.heap.size) :
    ∃ S', RoomAt ety base R S' (fun j => if j = f then F f ++ [u] else F j) (w'.setCell ⟨R, f, none⟩ v') ∧ Agree S S' w (w'.setCell ⟨R, f, none⟩ v') ∧ ∀ k, w.heap.size ≤ k → some k ≠ v'.ownBlock → S' k = 0 := by
  have hR := h.lt
  obtain ⟨v0, hv0, hov, hlv⟩ := h.field f hf
  have : v0 = v := by rw [hv] at hv0; injection hv0 with e; exact e.symm
  subst this
  have hvl : ∀ g, v0.ownBlock = some g → g < w.heap.size := fun g hg => (hov.lt g hg).2
  have hv'l := ho.lt
  have hneR : some R ≠ v0.ownBlock := fun he => by have h1 := hlv R he.symm; rw [h.lab] at h1; omega
  have hsz1 : w.heap.size ≤ W.heap.size := hW.size
  have blk1 : ∀ k, k < w.heap.size → some k ≠ v0.ownBlock → w'.heap[k]? = w.heap[k]? := fun k hk hne => (hg.block k (Nat.lt_of_lt_of_le hk hsz1) hne).trans (hW.block k hk)
  have blk2 : ∀ k, k < w.heap.size → some k ≠ v0.ownBlock → k ≠ R → (w'.setCell ⟨R, f, none⟩ v').heap[k]? = w.heap[k]? := fun k hk hne hkR => (Below.heap_setCell w' ⟨R, f, none⟩ v' k hkR).trans (blk1 k hk hne)
  have hsz2 : (w'.setCell ⟨R, f, none⟩ v').heap.size = w'.heap.size := by simp [World.setCell]
  have hRblk := blk1 R hR hneR
  obtain ⟨cs, t, hcs, hcsz⟩ := h.blk
  rw [hcs] at hRblk
  have hRnew : (w'.setCell ⟨R, f, none⟩ v').heap[R]? = some (.cells (cs.setIfInBounds f v') t (0, 0)) := by simp [World.setCell, Array.getElem?_modify, hRblk]
  have hv'R : v'.ownBlock ≠ some R := by
    rcases hn with e | e
    · rw [e]; exact fun he => hneR he.symm
    · rw [e]; intro he; injection he with he; omega
  refine ⟨fun k => if some k = v'.ownBlock then f + 1 else S k, ⟨?_, ?_, ?_, ?_, ?_, ?_⟩, ⟨?_, ?_, ?_, ?_, ?_, ?_⟩, ?_⟩
  · show (if some R = v'.ownBlock then f + 1 else S R) = 100
    rw [if_neg (fun he => hv'R he.symm)]; exact h.lab
  · intro k hk
    rw [hsz2] at hk
    show (if some k = v'.ownBlock then f + 1 else S k) = 0
    rw [if_neg (fun he => by have := (hv'l k he.symm).2; omega)]
    exact h.top k (by have := hg.size; omega)
  · intro k hk
    show (if some k = v'.ownBlock then f + 1 else S k) = 0
    rw [if_neg (fun he => by have := (hv'l k he.symm).1; omega)]
    exact h.low k hk
  · rw [hsz2]; exact Nat.le_trans h.bas (Nat.le_trans hsz1 hg.size)
  · exact ⟨_, t, hRnew, by simpa using hcsz⟩
  · intro j hj
    by_cases hjf : j = f
    · subst hjf
      refine ⟨v', ?_, ?_, ?_⟩
      · unfold World.cell?
        rw [hRnew]
        simp [hcsz, hj]
      · simp only [if_true]
        rw [List.length_append]
        refine ownsRow_same ho (fun g hg' => ?_)
        exact Below.heap_setCell w' ⟨R, j, none⟩ v' g (fun he => hv'R (by rw [hg', show g = R from he]))
      · intro g hg'
        show (if some g = v'.ownBlock then j + 1 else S g) = j + 1
        rw [if_pos hg'.symm]
    · obtain ⟨x, hx, hox, hlx⟩ := h.field j hj
      have hxlt := fun g hg => (hox.lt g hg).2
      have hxv : ∀ g, x.ownBlock = some g → some g ≠ v0.ownBlock := fun g hg he => by
        have h1 := hlx g hg
        have h2 := hlv g he.symm
        omega
      have hxR : ∀ g, x.ownBlock = some g → g ≠ R := fun g hg he => by
        have h1 := hlx g hg
        rw [he, h.lab] at h1; omega
      refine ⟨x, ?_, ?_, ?_⟩
      · have hx' : cs[j]? = some x := by
          have := hx
          unfold World.cell? at this
          rw [hcs] at this
          exact this
        unfold World.cell?
        rw [hRnew]
        show (cs.setIfInBounds f v')[j]? = some x
        rw [Array.getElem?_setIfInBounds_ne (fun he => hjf he.symm)]
        exact hx'
      · simp only [hjf, if_false]
        exact ownsRow_same hox (fun g hg => blk2 g (hxlt g hg) (hxv g hg) (hxR g hg))
      · intro g hg'
        show (if some g = v'.ownBlock then f + 1 else S g) = j + 1
        rw [if_neg ?_]
        · exact hlx g hg'
        · intro he
          rcases hn with e | e
          · exact hxv g hg' (he.trans e)
          · rw [e] at he
            injection he with he
            have := hxlt g hg'
            omega
  · exact (show (w'.setCell ⟨R, f, none⟩ v').os = w'.os from rfl).trans (hg.os.trans hW.os)
  · exact (show (w'.setCell ⟨R, f, none⟩ v').tape = w'.tape from rfl).trans (hg.tape.trans hW.tape)
  · exact (show (w'.setCell ⟨R, f, none⟩ v').output = w'.output from rfl).trans (hg.output.trans hW.output)
  · rw [hsz2]; exact Nat.le_trans hsz1 hg.size
  · intro k hk
    show (if some k = v'.ownBlock then f + 1 else S k) = S k
    split
    · rename_i he
      rcases hn with e | e
      · exact (hlv k (by rw [← e]; exact he.symm)).symm
      · rw [e] at he
        injection he with he
        omega
    · rfl
  · intro k hk h0
    refine blk2 k hk (fun he => ?_) (fun he => ?_)
    · have := hlv k he.symm; omega
    · rw [he, h.lab] at h0; omega
  · intro k hk hne
    show (if some k = v'.ownBlock then f + 1 else S k) = 0
    rw [if_neg hne]
    exact h.top k hk
/-- What has a label of 150 or more stays too. -/
theorem RoomAt.push_high {ety : Nat → TypeId} {base R : Nat} {S : Lab} {F : Nat → List Value} {w W w' : World} {f : Nat} {v v' : Value} (h : RoomAt ety base R S F w) (hf : f < 28) (hW : Below w.heap.size w W)
    (hv : w.cell? ⟨R, f, none⟩ = some v) (hg : W.grownBy w' v.ownBlock) : ∀ k, k < w.heap.size → 150 ≤ S k → (w'.setCell ⟨R, f, none⟩ v').heap[k]? = w.heap[k]? := by
  intro k hk hS
  obtain ⟨v0, hv0, hov, hlv⟩ := h.field f hf
  have : v0 = v := by rw [hv] at hv0; injection hv0 with e; exact e.symm
  subst this
  have h1 : some k ≠ v0.ownBlock := fun he => by have := hlv k he.symm; omega
  have h2 : k ≠ R := fun he => by rw [he, h.lab] at hS; omega
  exact (Below.heap_setCell w' ⟨R, f, none⟩ v' k h2).trans ((hg.block k (Nat.lt_of_lt_of_le hk hW.size) h1).trans (hW.block k hk))
end Go.Proofs.YtjanpglnahagdaaGreatDoor
