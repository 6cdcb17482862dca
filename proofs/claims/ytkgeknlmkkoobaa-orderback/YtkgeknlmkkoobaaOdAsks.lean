/-
  asksIs: the program's.
-/
import Derived.Test.YtkgeknlmkkoobaaOdSteps
import Derived.Laws.CopyOwn
namespace Od
theorem asked_next {cs : List Md.Cn} {k : Nat} (h : k < cs.length) (x : Nat) : asked (cs.take (k + 1)) x = (asked (cs.take k) x || askC cs[k] x) := by
  unfold asked
  rw [List.take_succ_eq_append_getElem h, List.any_append]
  simp
def anyB (l : List Int) (x : Nat) : Bool := l.any fun y => y == (x : Int)
theorem anyB_next {l : List Int} {j : Nat} (h : j < l.length) {m : Nat} (hm : l[j] = (m : Int)) (x : Nat) : anyB (l.take (j + 1)) x = (anyB (l.take j) x || decide (x = m)) := by
  unfold anyB
  rw [List.take_succ_eq_append_getElem h, List.any_append]
  simp only [List.any_cons, List.any_nil, Bool.or_false, hm]
  congr 1
  by_cases e : x = m
  · subst e; simp
  · have : ((m : Int) == (x : Int)) = false := by rw [beq_eq_false_iff_ne]; omega
    rw [this, decide_eq_false e]
theorem askC_yes {c : Md.Cn} (h : c.kind = 3 ∨ c.kind = 9) (x : Nat) : askC c x = anyB c.xs x := by
  unfold askC anyB
  rcases h with h | h <;> simp [h]
theorem askC_no {c : Md.Cn} (h1 : c.kind ≠ 3) (h2 : c.kind ≠ 9) (x : Nat) : askC c x = false := by
  unfold askC
  simp [h1, h2]
end Od
namespace Go.Proofs.Ytkgeknlmkkoobaa
open Go.RowKit

def AskOut (cs : List Md.Cn) (w : World) (e : Ending) (w' : World) : Prop :=
  (∃ cur : Array Value, e = .returned (.agg cur) ∧ cur.size = 32 ∧ ∀ i, i < 32 → cur[i]? = some (.bool (Od.asked cs i))) ∧ Below w.heap.size w w'
theorem u98 : Try.prog.underlying 98 = some (.array 32 4) := by kernel_rfl
theorem i98 : (Try.prog.info? 98).map (·.size) = some 32 := by kernel_rfl
theorem row_one {n : Nat} {f : Nat → Bool} {cur : Array Value} (hs : cur.size = n) (hc : ∀ i, i < n → cur[i]? = some (.bool (f i))) : cur.all (·.oneCell') = true := by
  rw [Array.all_eq_true]
  intro i hi
  have h1 := hc i (by omega)
  rw [Array.getElem?_eq_getElem hi] at h1
  injection h1 with h1
  rw [h1]
  rfl

theorem cons_all {w : World} {ca : Option Addr} {n cp : Nat} {cs : List Md.Cn} (h : ConsAt w (.slice ca n cp) cs) (j : Nat) (hj : j < cs.length) : ∃ b off vt vx vb vr, ca = some ⟨b, off, none⟩ ∧ ∀ w', Below w.heap.size w w' → CnAt w' cs[j] vt vx vb vr ∧ CnCells w' b (off + j * 10) cs[j] vt vx vb vr := by
  obtain ⟨a', c', he, _, hco⟩ := h
  injection he with e1 _ e3
  subst e1 e3
  obtain ⟨b, off, rfl, hbl, hcc⟩ := hco (by omega)
  obtain ⟨vt, vx, vb, vr, h1, h2⟩ := hcc j hj
  exact ⟨b, off, vt, vx, vb, vr, rfl, fun w' hb => ⟨h1.below hb, h2.below hb⟩⟩
theorem ints_all {w : World} {a : Option Addr} {n cp : Nat} {l : List Int} (h : IntsAt w (.slice a n cp) l) (h0 : 0 < l.length) : ∃ b off, a = some ⟨b, off, none⟩ ∧ b < w.heap.size ∧ ∀ j (h : j < l.length), w.cell? ⟨b, off + j, none⟩ = some (.int .i64 l[j]) := by
  obtain ⟨a', c', he, _, hco⟩ := h
  injection he with e1 _ e3
  subst e1 e3
  exact hco h0

set_option maxRecDepth 10000 in
set_option maxHeartbeats 2000000 in
theorem asksIs_any (cs : List Md.Cn) (vc : Value) (w : World) (h : ConsAt w vc cs) (hx : ∀ k (h : k < cs.length), ∀ y ∈ cs[k].xs, 0 ≤ y ∧ y < 32) : Calls Try.prog 41 #[vc] w (AskOut cs w) := by
  obtain ⟨ca, cp, rfl, hcm⟩ := h.form
  unfold maxLen at hcm
  obtain ⟨W0, hW0⟩ : ∃ W, w.alloc (.cells #[.bool false, .bool false, .bool false, .bool false, .bool false, .bool false, .bool false, .bool false, .bool false, .bool false, .bool false, .bool false, .bool false, .bool false, .bool false, .bool false, .bool false, .bool false, .bool false, .bool false, .bool false, .bool false, .bool false, .bool false, .bool false, .bool false, .bool false, .bool false, .bool false, .bool false, .bool false, .bool false] 98) = W := ⟨_, rfl⟩
  obtain ⟨W, hW⟩ : ∃ W, W0.alloc (.cells #[.bool false, .bool false, .bool false, .bool false, .bool false, .bool false, .bool false, .bool false, .bool false, .bool false, .bool false, .bool false, .bool false, .bool false, .bool false, .bool false, .bool false, .bool false, .bool false, .bool false, .bool false, .bool false, .bool false, .bool false, .bool false, .bool false, .bool false, .bool false, .bool false, .bool false, .bool false, .bool false] 98) = W := ⟨_, rfl⟩
  have hs0 : W0.heap.size = w.heap.size + 1 := by rw [← hW0]; simp
  have hb0 : Below w.heap.size w W0 := by rw [← hW0]; exact (Below.refl _ _).alloc (Nat.le_refl _) _
  have hb1 : Below W0.heap.size W0 W := by rw [← hW]; exact (Below.refl _ _).alloc (Nat.le_refl _) _
  have hN0 := heap_alloc_new w (.cells #[.bool false, .bool false, .bool false, .bool false, .bool false, .bool false, .bool false, .bool false, .bool false, .bool false, .bool false, .bool false, .bool false, .bool false, .bool false, .bool false, .bool false, .bool false, .bool false, .bool false, .bool false, .bool false, .bool false, .bool false, .bool false, .bool false, .bool false, .bool false, .bool false, .bool false, .bool false, .bool false] 98)
  rw [hW0] at hN0
  have hN0' := (hb1.block w.heap.size (by omega)).trans hN0
  have hR : W.rowIs W0.heap.size 98 32 (fun i => .bool (Od.asked (cs.take 0) i)) := by
    rw [← hW]
    refine ⟨_, heap_alloc_new W0 _, rfl, fun i hi => ?_⟩
    have e : Od.asked (cs.take 0) i = false := by simp [Od.asked]
    show _ = some (Value.bool (Od.asked (cs.take 0) i))
    rw [e]
    have : ∀ i : Fin 32, (#[Value.bool false, .bool false, .bool false, .bool false, .bool false, .bool false, .bool false, .bool false, .bool false, .bool false, .bool false, .bool false, .bool false, .bool false, .bool false, .bool false, .bool false, .bool false, .bool false, .bool false, .bool false, .bool false, .bool false, .bool false, .bool false, .bool false, .bool false, .bool false, .bool false, .bool false, .bool false, .bool false] : Array Value)[i.val]? = some (.bool false) := by
      intro i
      match i with
      | ⟨0, _⟩ | ⟨1, _⟩ | ⟨2, _⟩ | ⟨3, _⟩ | ⟨4, _⟩ | ⟨5, _⟩ | ⟨6, _⟩ | ⟨7, _⟩ | ⟨8, _⟩ | ⟨9, _⟩ | ⟨10, _⟩ | ⟨11, _⟩ | ⟨12, _⟩ | ⟨13, _⟩ | ⟨14, _⟩ | ⟨15, _⟩ | ⟨16, _⟩ | ⟨17, _⟩ | ⟨18, _⟩ | ⟨19, _⟩ | ⟨20, _⟩ | ⟨21, _⟩ | ⟨22, _⟩ | ⟨23, _⟩ | ⟨24, _⟩ | ⟨25, _⟩ | ⟨26, _⟩ | ⟨27, _⟩ | ⟨28, _⟩ | ⟨29, _⟩ | ⟨30, _⟩ | ⟨31, _⟩ => rfl
      | ⟨n + 32, h⟩ => exact absurd h (by omega)
    exact this ⟨i, hi⟩
  have HB0 : Hid (Below w.heap.size w W) := hb0.trans (hb1.mono hb0.size)
  have HN0 : Hid (∀ w', Below W0.heap.size W w' → ∃ old : Array Value, w'.heap[w.heap.size]? = some (.cells old 98 (0, 0)) ∧ old.size = 32) := fun w' hb => ⟨_, (hb.block _ (by omega)).trans hN0', rfl⟩
  have HC : Hid (∀ j (hj : j < cs.length), ∃ b off vt vx vb vr, ca = some ⟨b, off, none⟩ ∧ ∀ w', Below W0.heap.size W w' → CnAt w' cs[j] vt vx vb vr ∧ CnCells w' b (off + j * 10) cs[j] vt vx vb vr) := fun j hj => by
    obtain ⟨b, off, vt, vx, vb, vr, e, hh⟩ := cons_all h j hj
    exact ⟨b, off, vt, vx, vb, vr, e, fun w' hb => hh w' ((hb0.trans (hb1.mono hb0.size)).trans (hb.mono (by omega)))⟩
  have HX : Hid (∀ k (h : k < cs.length), ∀ y ∈ cs[k].xs, 0 ≤ y ∧ y < 32) := hx
  have HR0 : Hid (W.rowIs W0.heap.size 98 32 (fun i => .bool (Od.asked (cs.take 0) i))) := hR
  have Hs0 : Hid (W0.heap.size = w.heap.size + 1) := hs0
  have Hs1 : Hid (W0.heap.size < W.heap.size) := hR.lt
  clear h hx hs0 hb0 hb1 hN0 hN0' hR
  go_enter Try.func41, Try.ntmps41
  go_wp2_with fail
  go_loopw [10] (fun iv wr => ∃ k : Nat, iv = .int .i64 (k : Int) ∧ k ≤ cs.length ∧ Hid (wr.rowIs W0.heap.size 98 32 (fun i => .bool (Od.asked (cs.take k) i))) ∧ Hid (Below W0.heap.size W wr)) (fun iv _ => cs.length - (intOf iv).toNat)
  case atStart => exact ⟨0, rfl, Nat.zero_le _, HR0, Below.refl _ _⟩
  case round =>
    obtain ⟨k, rfl, hk, hR, hB⟩ := hrel
    clear HR0 hW0 hW
    rename World => wk
    by_cases hlt : k < cs.length
    · have hkI : (k : Int) < (cs.length : Int) := by omega
      obtain ⟨b, off, vt, vx, vb, vr, rfl, hal⟩ := HC.out k hlt
      obtain ⟨hCn, d0, d1, d2, d3, d4, d5, d6, d7, d8, d9⟩ := hal wk hB.out
      have HAl : Hid (∀ w', Below W0.heap.size W w' → IntsAt w' vx cs[k].xs) := fun w' hb => (hal w' hb).1.x
      clear hal
      have HXk : Hid (∀ y ∈ cs[k].xs, 0 ≤ y ∧ y < 32) := HX.out k hlt
      have HNx : Hid (∀ x, Od.asked (cs.take (k + 1)) x = (Od.asked (cs.take k) x || Od.askC cs[k] x)) := Od.asked_next hlt
      generalize cs[k] = c at *
      obtain ⟨xa, xc, rfl, hxm⟩ := hCn.x.form
      obtain ⟨ta, tc, rfl, _⟩ := hCn.t.form
      obtain ⟨ba, bc, rfl, _⟩ := hCn.b.form
      obtain ⟨ra, rc, rfl, _⟩ := hCn.r.form
      unfold maxLen at hxm
      obtain ⟨X, hX⟩ : ∃ X, wk.alloc (.cells #[.int .i64 c.kind, .int .i64 c.op, .slice ta c.terms.length tc, .int .i64 c.k, .int .i64 c.v, .int .i64 c.x, .int .i64 c.y, .slice xa c.xs.length xc, .slice ba c.table.length bc, .slice ra c.rows.length rc] 51) = X := ⟨_, rfl⟩
      have hbX : Below wk.heap.size wk X := by rw [← hX]; exact (Below.refl _ _).alloc (Nat.le_refl _) _
      have hNX : X.heap[wk.heap.size]? = some (.cells #[.int .i64 c.kind, .int .i64 c.op, .slice ta c.terms.length tc, .int .i64 c.k, .int .i64 c.v, .int .i64 c.x, .int .i64 c.y, .slice xa c.xs.length xc, .slice ba c.table.length bc, .slice ra c.rows.length rc] 51) := by rw [← hX]; exact heap_alloc_new wk _
      have hle : W0.heap.size ≤ wk.heap.size := Nat.le_trans (Nat.le_of_lt Hs1.out) hB.out.size
      have HRX : Hid (X.rowIs W0.heap.size 98 32 (fun i => .bool (Od.asked (cs.take k) i))) := hR.out.of_block (hbX.block _ hR.out.lt)
      have HBX : Hid (Below W0.heap.size W X) := hB.out.trans (hbX.mono hle)
      obtain ⟨⟨p0, p1, p2, p3, p4, p5, p6, p7, p8, p9⟩, _⟩ := box10 hNX
      have Hlt : Hid (W0.heap.size < wk.heap.size) := hR.out.lt
      have HbX : Hid (Below wk.heap.size wk X) := hbX
      clear hbX hNX hCn hle
      by_cases h39 : c.kind = 3 ∨ c.kind = 9
      · have HY : Hid (∀ x, Od.askC c x = Od.anyB c.xs x) := Od.askC_yes h39
        have HR0 : Hid (X.rowIs W0.heap.size 98 32 (fun i => .bool (Od.asked (cs.take k) i || Od.anyB (c.xs.take 0) i))) := HRX.out.congr fun i _ => by simp [Od.anyB]
        rcases h39 with h39 | h39
        · have h3 : (c.kind != 3) = false := by simp [h39]
          clear h39
          go_wp2_with fail
          clear p0 p1 p2 p3 p4 p5 p6 p7 p8 p9 d0 d1 d2 d3 d4 d5 d6 d7 d8 d9 hX
          go_loopw [25] (fun iv wr => ∃ j : Nat, iv = .int .i64 (j : Int) ∧ j ≤ c.xs.length ∧ Hid (wr.rowIs W0.heap.size 98 32 (fun i => .bool (Od.asked (cs.take k) i || Od.anyB (c.xs.take j) i))) ∧ Hid (Below W0.heap.size W wr) ∧ Hid (Off (fun b => b = W0.heap.size) X wr)) (fun iv _ => c.xs.length - (intOf iv).toNat)
          case atStart => exact ⟨0, rfl, Nat.zero_le _, HR0, HBX, Off.refl _ _⟩
          case round =>
            obtain ⟨j, rfl, hj, hRj, hBj, hOj⟩ := hrel
            clear HR0
            rename World => wq
            by_cases hjl : j < c.xs.length
            · have hjI : (j : Int) < (c.xs.length : Int) := by omega
              obtain ⟨xb, xo, rfl, _, hxc⟩ := ints_all (HAl.out wq hBj.out) (by omega)
              have x0 := hxc j hjl
              have hy := HXk.out _ (List.getElem_mem hjl)
              obtain ⟨y, hyy⟩ : ∃ y : Nat, c.xs[j] = (y : Int) := ⟨c.xs[j].toNat, by omega⟩
              have HAn : Hid (∀ x, Od.anyB (c.xs.take (j + 1)) x = (Od.anyB (c.xs.take j) x || decide (x = y))) := Od.anyB_next hjl hyy
              rw [hyy] at x0 hy
              have hyI : (y : Int) < 32 := hy.2
              have rc := hRj.out.cell (i := y) (by omega)
              have rz := hRj.out.frozen y
              have HRn : Hid ((wq.setCell ⟨W0.heap.size, y, none⟩ (.bool true)).rowIs W0.heap.size 98 32 (fun i => .bool (Od.asked (cs.take k) i || Od.anyB (c.xs.take (j + 1)) i))) := (hRj.out.set y (.bool true)).congr fun i _ => by
                rw [HAn.out]
                by_cases e : i = y
                · simp [e]
                · simp [e]
              have HBn : Hid (Below W0.heap.size W (wq.setCell ⟨W0.heap.size, y, none⟩ (.bool true))) := hBj.out.setCell (Nat.le_refl _) _
              have HOn : Hid (Off (fun b => b = W0.heap.size) X (wq.setCell ⟨W0.heap.size, y, none⟩ (.bool true))) := hOj.out.trans (Off.set (S := fun b => b = W0.heap.size) _ rfl)
              clear hxc hy hyy
              go_wp2_with fail
              go_roundw
              case rel => exact ⟨j + 1, by go_num, by omega, HRn, HBn, HOn⟩
              case measure => simp [intOf]; omega
            · have hjI : ¬ (j : Int) < (c.xs.length : Int) := by omega
              have hte : c.xs.take j = c.xs := List.take_of_length_le (by omega)
              rw [hte] at hRj
              have HRn : Hid (wq.rowIs W0.heap.size 98 32 (fun i => .bool (Od.asked (cs.take (k + 1)) i))) := hRj.out.congr fun i _ => by rw [HNx.out, HY.out]
              clear hte
              go_wp2_with fail
              go_roundw
              case rel => exact ⟨k + 1, by go_num, by omega, HRn, hBj⟩
              case measure => simp [intOf]; omega
        · have h3 : (c.kind != 3) = true := by simp [h39]
          have h9 : (c.kind != 9) = false := by simp [h39]
          clear h39
          go_wp2_with fail
          clear p0 p1 p2 p3 p4 p5 p6 p7 p8 p9 d0 d1 d2 d3 d4 d5 d6 d7 d8 d9 hX
          go_loopw [25] (fun iv wr => ∃ j : Nat, iv = .int .i64 (j : Int) ∧ j ≤ c.xs.length ∧ Hid (wr.rowIs W0.heap.size 98 32 (fun i => .bool (Od.asked (cs.take k) i || Od.anyB (c.xs.take j) i))) ∧ Hid (Below W0.heap.size W wr) ∧ Hid (Off (fun b => b = W0.heap.size) X wr)) (fun iv _ => c.xs.length - (intOf iv).toNat)
          case atStart => exact ⟨0, rfl, Nat.zero_le _, HR0, HBX, Off.refl _ _⟩
          case round =>
            obtain ⟨j, rfl, hj, hRj, hBj, hOj⟩ := hrel
            clear HR0
            rename World => wq
            by_cases hjl : j < c.xs.length
            · have hjI : (j : Int) < (c.xs.length : Int) := by omega
              obtain ⟨xb, xo, rfl, _, hxc⟩ := ints_all (HAl.out wq hBj.out) (by omega)
              have x0 := hxc j hjl
              have hy := HXk.out _ (List.getElem_mem hjl)
              obtain ⟨y, hyy⟩ : ∃ y : Nat, c.xs[j] = (y : Int) := ⟨c.xs[j].toNat, by omega⟩
              have HAn : Hid (∀ x, Od.anyB (c.xs.take (j + 1)) x = (Od.anyB (c.xs.take j) x || decide (x = y))) := Od.anyB_next hjl hyy
              rw [hyy] at x0 hy
              have hyI : (y : Int) < 32 := hy.2
              have rc := hRj.out.cell (i := y) (by omega)
              have rz := hRj.out.frozen y
              have HRn : Hid ((wq.setCell ⟨W0.heap.size, y, none⟩ (.bool true)).rowIs W0.heap.size 98 32 (fun i => .bool (Od.asked (cs.take k) i || Od.anyB (c.xs.take (j + 1)) i))) := (hRj.out.set y (.bool true)).congr fun i _ => by
                rw [HAn.out]
                by_cases e : i = y
                · simp [e]
                · simp [e]
              have HBn : Hid (Below W0.heap.size W (wq.setCell ⟨W0.heap.size, y, none⟩ (.bool true))) := hBj.out.setCell (Nat.le_refl _) _
              have HOn : Hid (Off (fun b => b = W0.heap.size) X (wq.setCell ⟨W0.heap.size, y, none⟩ (.bool true))) := hOj.out.trans (Off.set (S := fun b => b = W0.heap.size) _ rfl)
              clear hxc hy hyy
              go_wp2_with fail
              go_roundw
              case rel => exact ⟨j + 1, by go_num, by omega, HRn, HBn, HOn⟩
              case measure => simp [intOf]; omega
            · have hjI : ¬ (j : Int) < (c.xs.length : Int) := by omega
              have hte : c.xs.take j = c.xs := List.take_of_length_le (by omega)
              rw [hte] at hRj
              have HRn : Hid (wq.rowIs W0.heap.size 98 32 (fun i => .bool (Od.asked (cs.take (k + 1)) i))) := hRj.out.congr fun i _ => by rw [HNx.out, HY.out]
              clear hte
              go_wp2_with fail
              go_roundw
              case rel => exact ⟨k + 1, by go_num, by omega, HRn, hBj⟩
              case measure => simp [intOf]; omega
      · have h3 : (c.kind != 3) = true := by simp; omega
        have h9 : (c.kind != 9) = true := by simp; omega
        have HRn : Hid (X.rowIs W0.heap.size 98 32 (fun i => .bool (Od.asked (cs.take (k + 1)) i))) := HRX.out.congr fun i _ => by rw [HNx.out, Od.askC_no (by omega) (by omega), Bool.or_false]
        clear h39
        go_wp2_with fail
        go_roundw
        case rel => exact ⟨k + 1, by go_num, by omega, HRn, HBX⟩
        case measure => simp [intOf]; omega
    · have hkI : ¬ (k : Int) < (cs.length : Int) := by omega
      have hte : cs.take k = cs := List.take_of_length_le (by omega)
      rw [hte] at hR
      clear hte
      obtain ⟨cur, hcu, hcs, hcc⟩ := hR.out
      obtain ⟨old, hol, hos⟩ := HN0.out wk hB.out
      have HOne : Hid (cur.all (·.oneCell') = true) := row_one hcs hcc
      have HI : Hid ((Try.prog.info? 98).map (·.size) = some cur.size) := by show _ = _; rw [hcs]; exact i98
      have HO : Hid (old.size = cur.size) := by show _ = _; rw [hos, hcs]
      have HCu : Hid (wk.heap[W0.heap.size]? = some (.cells cur 98 (0, 0))) := hcu
      have HOl : Hid (wk.heap[w.heap.size]? = some (.cells old 98 (0, 0))) := hol
      have HCC : Hid (∀ i, i < 32 → cur[i]? = some (.bool (Od.asked cs i))) := hcc
      have HCS : Hid (cur.size = 32) := hcs
      clear hcu hol hcs hos hcc
      go_wp2_with (first
        | (refine wpList_load_row rfl 98 _ rfl W0.heap.size rfl 98 cur (0, 0) (.array 32 4) HCu.out u98 rfl HI.out ?_)
        | (refine wpList_store_row rfl 98 _ _ rfl w.heap.size cur rfl rfl 98 old HOl.out HI.out HO.out HOne.out ?_))
      have HF : Hid ((wk.setRow w.heap.size cur).heap[w.heap.size]? = some (.cells cur 98 (0, 0))) := setRow_heap _ _ _ _ _ _ HOl.out
      refine bodyPost_ret (v := .agg cur) (results_cell_row (p := 2) (ty := 98) rfl _ _ w.heap.size 98 cur (0, 0) (.array 32 4) rfl HF.out u98 rfl HI.out) rfl ?_
      exact ⟨⟨cur, rfl, HCS.out, HCC.out⟩, below_setRow (HB0.out.trans (hB.out.mono (by have := Hs0.out; omega))) (Nat.le_refl _) _⟩
end Go.Proofs.Ytkgeknlmkkoobaa
