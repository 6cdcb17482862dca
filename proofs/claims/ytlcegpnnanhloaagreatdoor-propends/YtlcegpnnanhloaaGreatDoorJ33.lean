/-
  Put together: PpCoef, PpAll, PpLeast.
-/
import Derived.Test.YtlcegpnnanhloaaGreatDoorJ32
import Derived.Test.YtlcegpnnanhloaaGreatDoorMdRowI
import Derived.Test.YtlcegpnnanhloaaGreatDoorMdSum
namespace Go.Proofs.YtlcegpnnanhloaaGreatDoor
open Go.RowKit

/-- What stays of a variable. -/
structure Sq where
  lo : Int
  hi : Int
  ts : List (Int → Bool)
def Sv.q (s : Sv) : Sq := ⟨s.lo, s.hi, s.ts⟩
def Sq.has (s : Sq) (v : Int) : Bool := s.ts.all (fun t => t v) && inB s.lo s.hi v
def keepQ (Q : List Sq) (x : Nat) (a b : Int) : List Sq := match Q[x]? with
  | some s => Q.set x ⟨max s.lo a, min s.hi b, s.ts⟩
  | none => Q
def sKeepQ (t : Bool) (Q : List Sq) (x : Nat) (a b : Int) : List Sq := if t then keepQ Q x (-b) (-a) else keepQ Q x a b
def someQ (Q : List Sq) (x : Nat) (t : Int → Bool) : List Sq := match Q[x]? with
  | some s => Q.set x ⟨s.lo, s.hi, s.ts ++ [t]⟩
  | none => Q
theorem keepQ_len (Q : List Sq) (x : Nat) (a b : Int) : (keepQ Q x a b).length = Q.length := by
  unfold keepQ
  split
  · rw [List.length_set]
  · rfl
theorem sKeepQ_len (t : Bool) (Q : List Sq) (x : Nat) (a b : Int) : (sKeepQ t Q x a b).length = Q.length := by
  unfold sKeepQ
  split <;> exact keepQ_len _ _ _ _
theorem someQ_len (Q : List Sq) (x : Nat) (t : Int → Bool) : (someQ Q x t).length = Q.length := by
  unfold someQ
  split
  · rw [List.length_set]
  · rfl
theorem keepL_q (S : List Sv) (x : Nat) (a b : Int) : (keepL S x a b).map Sv.q = keepQ (S.map Sv.q) x a b := by
  unfold keepL keepQ
  rw [List.getElem?_map]
  cases h : S[x]? with
  | none => rfl
  | some s => simp only [Option.map_some, List.map_set]; rfl
theorem sKeep_q (t : Bool) (S : List Sv) (x : Nat) (a b : Int) : (sKeep t S x a b).map Sv.q = sKeepQ t (S.map Sv.q) x a b := by
  unfold sKeep sKeepQ
  split <;> exact keepL_q _ _ _ _
theorem someL_q (S : List Sv) (x : Nat) (tv : Value) (t : Int → Bool) : (someL S x tv t).map Sv.q = someQ (S.map Sv.q) x t := by
  unfold someL someQ
  rw [List.getElem?_map]
  cases h : S[x]? with
  | none => rfl
  | some s => simp only [Option.map_some, List.map_set]; rfl

/-- What is left, in memory. -/
def LfQ (B lp g p : Nat) (nv mv : Value) (s : St) (Q : List Sq) (w : World) : Prop := ∃ S, LfAt B lp g p nv mv s S w ∧ S.map Sv.q = Q
section
variable {B lp g p : Nat} {nv mv : Value} {s : St} {Q : List Sq} {w w' : World}
theorem LfQ.len (h : LfQ B lp g p nv mv s Q w) : Q.length = s.now.length := by
  obtain ⟨S, h1, rfl⟩ := h
  rw [List.length_map]; exact h1.len
theorem LfQ.size (h : LfQ B lp g p nv mv s Q w) : B ≤ w.heap.size := by
  obtain ⟨S, h1, rfl⟩ := h
  exact h1.size
theorem LfQ.n32 (h : LfQ B lp g p nv mv s Q w) : s.now.length ≤ 32 := by
  obtain ⟨S, h1, rfl⟩ := h
  obtain ⟨_, h2⟩ := h1.st
  exact h2.n32
theorem LfQ.below (h : LfQ B lp g p nv mv s Q w) (hb : Below w.heap.size w w') : LfQ B lp g p nv mv s Q w' := by
  obtain ⟨S, h1, h2⟩ := h
  exact ⟨S, h1.below hb, h2⟩
theorem LfQ.cell0 (h : LfQ B lp g p nv mv s Q w) : w.cell? ⟨lp, 0, none⟩ = some (.pointer (some ⟨p, 0, none⟩)) := by
  obtain ⟨S, h1, h2⟩ := h
  exact cell_of h1.box 0
theorem LfQ.good (h : LfQ B lp g p nv mv s Q w) : ∀ d ∈ s.now, d.Ok := by
  obtain ⟨S, h1, h2⟩ := h
  exact h1.good
theorem LfQ.vars (h : LfQ B lp g p nv mv s Q w) (hb : Below B w w') : Calls Tryz.prog 17 #[.pointer (some ⟨p, 0, none⟩)] w' fun e w2 => e = .returned (.int .i64 (s.now.length : Int)) ∧ w2 = w' := by
  obtain ⟨S, h1, h2⟩ := h
  obtain ⟨Bs, h3⟩ := h1.store hb
  exact vars_any Bs p nv mv s w' h3
theorem LfQ.los (h : LfQ B lp g p nv mv s Q w) (x : Nat) (hx : x < s.now.length) (hb : Below B w w') : Calls Tryz.prog 55 #[.pointer (some ⟨p, 0, none⟩), .int .i64 (x : Int)] w' fun e w2 => e = .returned (.int .i64 s.now[x].lo) ∧ Below w'.heap.size w' w2 := by
  obtain ⟨S, h1, h2⟩ := h
  exact h1.los x hx hb
theorem LfQ.his (h : LfQ B lp g p nv mv s Q w) (x : Nat) (hx : x < s.now.length) (hb : Below B w w') : Calls Tryz.prog 56 #[.pointer (some ⟨p, 0, none⟩), .int .i64 (x : Int)] w' fun e w2 => e = .returned (.int .i64 s.now[x].hi) ∧ Below w'.heap.size w' w2 := by
  obtain ⟨S, h1, h2⟩ := h
  exact h1.his x hx hb
theorem LfQ.sizes (h : LfQ B lp g p nv mv s Q w) (x : Nat) (hx : x < s.now.length) (hb : Below B w w') : Calls Tryz.prog 97 #[.pointer (some ⟨p, 0, none⟩), .int .i64 (x : Int)] w' fun e w2 => e = .returned (.int .i64 s.now[x].size) ∧ Below w'.heap.size w' w2 := by
  obtain ⟨S, h1, h2⟩ := h
  exact h1.sizes x hx hb
theorem LfQ.hass (h : LfQ B lp g p nv mv s Q w) (x : Nat) (hx : x < s.now.length) (v : Int) (hb : Below B w w') : Calls Tryz.prog 87 #[.pointer (some ⟨p, 0, none⟩), .int .i64 (x : Int), .int .i64 v] w' fun e w2 => e = .returned (.bool (s.now[x].has v)) ∧ Below w'.heap.size w' w2 := by
  obtain ⟨S, h1, h2⟩ := h
  exact h1.hass x hx v hb
theorem LfQ.one (h : LfQ B lp g p nv mv s Q w) (x : Nat) (hx : x < s.now.length) : Calls Tryz.prog 82 #[.pointer (some ⟨lp, 0, none⟩), .int .i64 (x : Int)] w fun e w' => e = .returned (.tuple #[.int .i64 (oneV s.now[x]), .bool s.now[x].one]) ∧ Below w.heap.size w w' := by
  obtain ⟨S, h1, h2⟩ := h
  exact one_any B lp g p nv mv s S w h1 x hx
theorem LfQ.span (h : LfQ B lp g p nv mv s Q w) (t : Bool) (x : Nat) (hx : x < s.now.length) : Calls Tryz.prog 117 #[sdVal lp t, .int .i64 (x : Int)] w fun e w' => e = .returned (bnVal (spLo t s.now[x]) (spHi t s.now[x])) ∧ Below w.heap.size w w' := by
  obtain ⟨S, h1, h2⟩ := h
  exact span_any B lp g p nv mv s S t w h1 x hx
/-- What a keep leaves. -/
def KqOut (B lp g p : Nat) (nv mv : Value) (s : St) (Q : List Sq) (w : World) (e : Ending) (w' : World) : Prop := e = .returned (.tuple #[]) ∧ LfQ B lp g p nv mv s Q w' ∧ Kq B w w'
theorem LfQ.keep (h : LfQ B lp g p nv mv s Q w) (x : Nat) (hx : x < s.now.length) (a b : Int) : Calls Tryz.prog 90 #[.pointer (some ⟨lp, 0, none⟩), .int .i64 (x : Int), bnVal a b] w (KqOut B lp g p nv mv s (keepQ Q x a b) w) := by
  obtain ⟨S, h1, rfl⟩ := h
  refine (keep_any B lp g p nv mv s S w h1 x (by rw [h1.len]; exact hx) a b).mono ?_
  rintro e w' ⟨rfl, h2, h3⟩
  exact ⟨rfl, ⟨_, h2, keepL_q S x a b⟩, h3⟩
theorem LfQ.sKeep (h : LfQ B lp g p nv mv s Q w) (t : Bool) (x : Nat) (hx : x < s.now.length) (a b : Int) (h1 : -9223372036854775807 ≤ a) (h2 : a ≤ 9223372036854775807) (h3 : -9223372036854775807 ≤ b) (h4 : b ≤ 9223372036854775807) : Calls Tryz.prog 118 #[sdVal lp t, .int .i64 (x : Int), bnVal a b] w (KqOut B lp g p nv mv s (sKeepQ t Q x a b) w) := by
  obtain ⟨S, h5, rfl⟩ := h
  refine (sKeep_any B lp g p nv mv s S t w h5 x (by rw [h5.len]; exact hx) a b h1 h2 h3 h4).mono ?_
  rintro e w' ⟨rfl, h6, h7⟩
  exact ⟨rfl, ⟨_, h6, sKeep_q t S x a b⟩, h7⟩
theorem LfQ.some (h : LfQ B lp g p nv mv s Q w) (x : Nat) (hx : x < s.now.length) (fn : Nat) (caps : Array Value) (t : Int → Bool) (hf : TestIs B w (.func (.func fn) #[] caps) t) (hl : ∀ q ∈ Q, q.ts.length ≤ 100000) : Calls Tryz.prog 83 #[.pointer (some ⟨lp, 0, none⟩), .int .i64 (x : Int), .func (.func fn) #[] caps] w (KqOut B lp g p nv mv s (someQ Q x t) w) := by
  obtain ⟨S, h1, rfl⟩ := h
  have hx2 : x < S.length := by rw [h1.len]; exact hx
  refine (keepSome_any B lp g p nv mv s S w h1 x hx2 fn caps t hf (hl _ (List.mem_map_of_mem (List.getElem_mem hx2)))).mono ?_
  rintro e w' ⟨tv, rfl, h2, h3⟩
  exact ⟨rfl, ⟨_, h2, someL_q S x tv t⟩, h3⟩
end
/-- Lists that stay, whatever rules do. -/
def IntsK (B : Nat) (w : World) (v : Value) (l : List Int) : Prop := ∀ w', Kq B w w' → IntsAt w' v l
theorem IntsK.kq {B : Nat} {w w' : World} {v : Value} {l : List Int} (h : IntsK B w v l) (hk : Kq B w w') : IntsK B w' v l := fun w2 h2 => h w2 (hk.trans h2)
theorem IntsK.at {B : Nat} {w : World} {v : Value} {l : List Int} (h : IntsK B w v l) : IntsAt w v l := h w (Kq.refl _ _)
def CnK (B : Nat) (w : World) (c : Md.Cn) (vt vx vb vr : Value) : Prop := ∀ w', Below B w w' → CnAt w' c vt vx vb vr
theorem CnK.below {B : Nat} {w w' : World} {c : Md.Cn} {vt vx vb vr : Value} (h : CnK B w c vt vx vb vr) (hb : Below B w w') : CnK B w' c vt vx vb vr := fun w2 h2 => h w2 (hb.trans h2)
theorem CnK.at {B : Nat} {w : World} {c : Md.Cn} {vt vx vb vr : Value} (h : CnK B w c vt vx vb vr) : CnAt w c vt vx vb vr := h w (Below.refl _ _)
theorem CnK.xs {B : Nat} {w : World} {c : Md.Cn} {vt vx vb vr : Value} (h : CnK B w c vt vx vb vr) : IntsK B w vx c.xs := fun w2 h2 => (h w2 h2.below).x

/-- Each variable's coefficient. -/
def coefL (t : List (Int × Int)) (n : Nat) : List Int := (List.range n).map fun (x : Nat) => t.foldl (fun (c : Int) (q : Int × Int) => if q.2 = (x : Int) then c + q.1 else c) 0
theorem coefL_len (t : List (Int × Int)) (n : Nat) : (coefL t n).length = n := by unfold coefL; rw [List.length_map, List.length_range]
theorem coefL_get (t : List (Int × Int)) (n x : Nat) (hx : x < (coefL t n).length) : (coefL t n)[x] = t.foldl (fun (c : Int) (q : Int × Int) => if q.2 = (x : Int) then c + q.1 else c) 0 := by
  simp only [coefL, List.getElem_map, List.getElem_range]
theorem coefL_nil (n : Nat) : coefL [] n = List.replicate n 0 := by
  apply List.ext_getElem
  · rw [coefL_len, List.length_replicate]
  · intro i h1 h2
    rw [coefL_get, List.getElem_replicate]
    rfl
theorem coefL_next {t : List (Int × Int)} {n k m : Nat} (hk : k < t.length) (hm : t[k].2 = (m : Int)) (hm2 : m < (coefL (t.take k) n).length) : coefL (t.take (k + 1)) n = (coefL (t.take k) n).set m ((coefL (t.take k) n)[m] + t[k].1) := by
  apply List.ext_getElem
  · rw [List.length_set, coefL_len, coefL_len]
  · intro i h1 h2
    rw [coefL_get, List.getElem_set, List.take_succ_eq_append_getElem hk, List.foldl_append]
    simp only [List.foldl_cons, List.foldl_nil]
    by_cases e : m = i
    · subst e
      rw [if_pos rfl, if_pos hm, coefL_get]
    · rw [if_neg e, coefL_get, if_neg (fun h => e (by omega))]
theorem coefL_bd {t : List (Int × Int)} (ht : ∀ q ∈ t, -1000000 ≤ q.1 ∧ q.1 ≤ 1000000) (n x : Nat) (hx : x < (coefL t n).length) : -(1000000 * (t.length : Int)) ≤ (coefL t n)[x] ∧ (coefL t n)[x] ≤ 1000000 * (t.length : Int) := by
  rw [coefL_get]
  have key : ∀ (l : List (Int × Int)) (c : Int), (∀ q ∈ l, -1000000 ≤ q.1 ∧ q.1 ≤ 1000000) → c - 1000000 * (l.length : Int) ≤ l.foldl (fun (c : Int) (q : Int × Int) => if q.2 = (x : Int) then c + q.1 else c) c ∧ l.foldl (fun (c : Int) (q : Int × Int) => if q.2 = (x : Int) then c + q.1 else c) c ≤ c + 1000000 * (l.length : Int) := by
    intro l
    induction l with
    | nil => intro c _; simp
    | cons q l ih =>
      intro c h
      have h1 := h q List.mem_cons_self
      have h2 := ih (if q.2 = (x : Int) then c + q.1 else c) (fun q hq => h q (List.mem_cons_of_mem _ hq))
      simp only [List.foldl_cons, List.length_cons, Int.natCast_add, Int.natCast_one]
      split at h2 <;> rename_i h3
      · rw [if_pos h3]; omega
      · rw [if_neg h3]; omega
  have := key t 0 ht
  omega
theorem coefL_bdk {t : List (Int × Int)} (ht : ∀ q ∈ t, -1000000 ≤ q.1 ∧ q.1 ≤ 1000000) (k n x : Nat) (hl : t.length ≤ 64) (hx : x < (coefL (t.take k) n).length) : -64000000 ≤ (coefL (t.take k) n)[x] ∧ (coefL (t.take k) n)[x] ≤ 64000000 := by
  have h1 := coefL_bd (t := t.take k) (fun q hq => ht q (List.mem_of_mem_take hq)) n x hx
  have h2 : (t.take k).length ≤ 64 := Nat.le_trans (by rw [List.length_take]; exact Nat.min_le_right _ _) hl
  omega

theorem und28 : Tryz.prog.underlying 28 = some (.slice 3) := by kernel_rfl
theorem makeN (n : Nat) (hn : n ≤ 1000) (w : World) : (Instr.makeSlice 28 (.int .i64 (n : Int)) (.int .i64 (n : Int))).run Tryz.prog w = .ok (.slice (some ⟨w.heap.size, 0, none⟩) n n) (w.alloc (.cells (madeCells #[.int .i64 0] n) 3)) := by
  obtain ⟨i, hi, hz, hs, hbb⟩ := info_of info3
  have hr := run_make (P := Tryz.prog) w 28 3 i (.int .i64 0) und28 hi hz .i64 .i64 (n : Int) (n : Int) (by omega) (by omega) (by rw [hbb]; omega) (by omega)
  rw [hs, Nat.mul_one, Int.toNat_natCast] at hr
  exact hr
theorem rowI_made (w : World) (n : Nat) {V : World} (hV : w.alloc (.cells (madeCells #[.int .i64 0] n) 3) = V) : RowI V w.heap.size (List.replicate n 0) := by
  subst hV
  refine ⟨_, heap_alloc_new w _, fun j hj => ?_⟩
  rw [List.length_replicate] at hj
  rw [List.getElem_replicate]
  simp [madeCells, hj, Nat.mod_one]
theorem RowI.kq {B : Nat} {w w' : World} {g : Nat} {L : List Int} (h : RowI w g L) (hk : Kq B w w') : RowI w' g L := by
  obtain ⟨cur, h1, h2⟩ := h
  exact ⟨cur, hk.block h1 (by decide) (by decide), h2⟩
/-- What coefs leaves. -/
def CfOut (B : Nat) (t : List (Int × Int)) (n : Nat) (w : World) (e : Ending) (w' : World) : Prop := ∃ v, e = .returned v ∧ IntsK B w' v (coefL t n) ∧ Below w.heap.size w w'

set_option maxRecDepth 10000 in
set_option maxHeartbeats 1000000 in
theorem coefs_any (B lp g p : Nat) (nv mv : Value) (s : St) (Q : List Sq) (w : World) (h : LfQ B lp g p nv mv s Q w) (vt : Value) (t : List (Int × Int)) (ht : TermsAt w vt t) (hl : t.length ≤ 64) (hc : ∀ q ∈ t, -1000000 ≤ q.1 ∧ q.1 ≤ 1000000) (hx : ∀ q ∈ t, 0 ≤ q.2 ∧ q.2 < (s.now.length : Int)) : Calls Tryz.prog 78 #[.pointer (some ⟨lp, 0, none⟩), vt] w (CfOut B t s.now.length w) := by
  have hn := h.n32
  have c0 := h.cell0
  have HV : Hid (Calls Tryz.prog 17 #[.pointer (some ⟨p, 0, none⟩)] w fun e w2 => e = .returned (.int .i64 (s.now.length : Int)) ∧ w2 = w) := h.vars (Below.refl _ _)
  obtain ⟨n, hnn⟩ : ∃ n, s.now.length = n := ⟨_, rfl⟩
  rw [hnn] at hn hx HV ⊢
  have hmk := makeN n (by omega)
  obtain ⟨a, cap, rfl, _, hcell⟩ := ht
  obtain ⟨W, hW⟩ : ∃ W, w.alloc (.cells (madeCells #[.int .i64 0] n) 3) = W := ⟨_, rfl⟩
  have hb0 : Below w.heap.size w W := by rw [← hW]; exact (Below.refl _ _).alloc (Nat.le_refl _) _
  have HR0 : Hid (RowI W w.heap.size (coefL (t.take 0) n)) := by
    show RowI _ _ _
    rw [List.take_zero, coefL_nil]
    exact rowI_made w n hW
  have HB0 : Hid (Below w.heap.size w W) := hb0
  have HT : Hid (∀ (k : Nat) (hk : k < t.length) (w' : World), Below w.heap.size w w' → ∃ b off, a = some ⟨b, off, none⟩ ∧ w'.cell? ⟨b, off + k * 2, none⟩ = some (.int .i64 t[k].1) ∧ w'.cell? ⟨b, off + k * 2 + 1, none⟩ = some (.int .i64 t[k].2)) := fun k hk w' hb => by
    obtain ⟨b, off, rfl, hlt, hc⟩ := hcell (by omega)
    exact ⟨b, off, rfl, (hb.cell (p := ⟨b, _, none⟩) hlt).trans (hc k hk).1, (hb.cell (p := ⟨b, _, none⟩) hlt).trans (hc k hk).2⟩
  have HC : Hid (∀ q ∈ t, -1000000 ≤ q.1 ∧ q.1 ≤ 1000000) := hc
  have HX : Hid (∀ q ∈ t, 0 ≤ q.2 ∧ q.2 < (n : Int)) := hx
  have HBs : Hid (B ≤ w.heap.size) := h.size
  clear h hcell hc hx hb0 hnn
  go_enter Tryz.func78, Tryz.ntmps78
  go_wp2_with fail
  refine calls_at HV.out (by with_reducible rfl) (by with_reducible rfl) ?_
  rintro e w1 ⟨rfl, hw1⟩
  rw [hw1]
  clear hw1
  go_wp2_with fail
  try rw [hW]
  go_loopw [16] (fun iv wr => ∃ (k : Nat), iv = .int .i64 (k : Int) ∧ k ≤ t.length ∧ Hid (RowI wr w.heap.size (coefL (t.take k) n)) ∧ Hid (Below w.heap.size w wr)) (fun iv _ => t.length - (intOf iv).toNat)
  case atStart => exact ⟨0, rfl, Nat.zero_le _, HR0, HB0⟩
  case round =>
  obtain ⟨k, rfl, hk, HR, HBr⟩ := hrel
  clear hmk hW
  by_cases hkn : k < t.length
  · have hkI : (k : Int) < (t.length : Int) := by omega
    obtain ⟨b, off, rfl, f0, f1⟩ := HT.out k hkn wr HBr.out
    obtain ⟨hx0, hx1⟩ := HX.out t[k] (List.getElem_mem hkn)
    obtain ⟨hc0, hc1⟩ := HC.out t[k] (List.getElem_mem hkn)
    obtain ⟨m, hm⟩ : ∃ m : Nat, t[k].2 = (m : Int) := ⟨t[k].2.toNat, by omega⟩
    have hmn : m < n := by omega
    have hmL : m < (coefL (t.take k) n).length := by rw [coefL_len]; exact hmn
    have hnx := coefL_next hkn hm hmL
    obtain ⟨hd0, hd1⟩ := coefL_bdk HC.out k n m hl hmL
    obtain ⟨z, hz⟩ : ∃ z, (coefL (t.take k) n)[m] = z := ⟨_, rfl⟩
    rw [hm] at f1
    rw [hz] at hnx hd0 hd1
    obtain ⟨c, hcc⟩ : ∃ c, t[k].1 = c := ⟨_, rfl⟩
    rw [hcc] at f0 hc0 hc1 hnx
    have HN : Hid (coefL (t.take (k + 1)) n = (coefL (t.take k) n).set m (z + c)) := hnx
    have hmI : (m : Int) < (n : Int) := by omega
    obtain ⟨V, hV⟩ : ∃ V, wr.alloc (.cells #[.int .i64 c, .int .i64 (m : Int)] 62) = V := ⟨_, rfl⟩
    have hbV : Below wr.heap.size wr V := by rw [← hV]; exact (Below.refl _ _).alloc (Nat.le_refl _) _
    have gV : V.heap[wr.heap.size]? = some (.cells #[.int .i64 c, .int .i64 (m : Int)] 62 (0, 0)) := by rw [← hV]; exact heap_alloc_new wr _
    have HRV : Hid (RowI V.drew w.heap.size (coefL (t.take k) n)) := (HR.out.below hbV).below (Below.refl _ _).drew
    have HBV : Hid (Below w.heap.size w V.drew) := (HBr.out.trans (hbV.mono HBr.out.size)).drew
    have HGV : Hid (V.drew.heap[wr.heap.size]? = some (.cells #[.int .i64 c, .int .i64 (m : Int)] 62 (0, 0))) := gV
    have d0 : V.drew.cell? ⟨wr.heap.size, 0, none⟩ = some (.int .i64 c) := cell_of gV 0
    have d1 : V.drew.cell? ⟨wr.heap.size, 1, none⟩ = some (.int .i64 (m : Int)) := cell_of gV 1
    have d2 : V.drew.cell? ⟨w.heap.size, m, none⟩ = some (.int .i64 z) := by rw [← hz]; exact (HRV.out.cell m hmL).1
    have dz : V.drew.frozen? ⟨w.heap.size, m, none⟩ = false := (HRV.out.cell m hmL).2
    have hw0 : IntKind.i64.wrap (z + c) = z + c := wrap_ok (by omega) (by omega)
    have hne : w.heap.size < wr.heap.size := Nat.lt_of_lt_of_le HR.out.lt (Nat.le_refl _)
    have HSt : Hid ((V.drew.setCell ⟨w.heap.size, m, none⟩ (.int .i64 (z + c))).cell? ⟨wr.heap.size, 0, none⟩ = some (.int .i64 c) ∧ (V.drew.setCell ⟨w.heap.size, m, none⟩ (.int .i64 (z + c))).cell? ⟨wr.heap.size, 1, none⟩ = some (.int .i64 (m : Int))) := by
      have g2 := (heap_setCell_other V.drew ⟨w.heap.size, m, none⟩ wr.heap.size (.int .i64 (z + c)) (by show wr.heap.size ≠ w.heap.size; omega)).trans gV
      exact ⟨cell_of g2 0, cell_of g2 1⟩
    clear hnx hz hcc hm hbV gV hx0 hx1
    go_wp2_with fail
    try rw [hV]
    clear hV f0 f1
    refine wp_region_T (fun w' => w'.cell? ⟨wr.heap.size, 0, none⟩ = some (.int .i64 c) ∧ w'.cell? ⟨wr.heap.size, 1, none⟩ = some (.int .i64 (m : Int))) (fun w' => w'.cell? ⟨w.heap.size, m, none⟩ = some (.int .i64 z)) [9] (by kernel_rfl) ⟨⟨d0, d1⟩, d2⟩ (fun hHeld => ?_)
    generalize V.drew = U at HRV HBV HGV d0 d1 d2 dz HSt hHeld ⊢
    refine wpAnyT_takeB (i := 0) (oi := ⟨some 20, .move (.tmp 5), _, _, _, _⟩) (v := ?vR5c1x0) rfl (by kernel_rfl) (by kernel_rfl) (by kernel_rfl) (by kernel_rfl) (fun _ _ _ h => h) (Or.inl ⟨by rfl, ?hyR5c1x0⟩) (by assumption) ?restR5c1x0
    case hyR5c1x0 => (intro w hSw; (try dsimp only at hSw); go_simp; try (with_reducible rfl))
    try simp only [Act.put, List.setIfInBounds_toArray, List.set_cons_zero, List.set_cons_succ]
    refine wpAnyT_takeB (i := 1) (oi := ⟨some 21, .fieldAddr 62 (.tmp 7) 1, _, _, _, _⟩) (v := ?vR5c1x1) rfl (by kernel_rfl) (by kernel_rfl) (by kernel_rfl) (by kernel_rfl) (fun _ _ _ h => h) (Or.inl ⟨by rfl, ?hyR5c1x1⟩) (by assumption) ?restR5c1x1
    case hyR5c1x1 => (intro w hSw; (try dsimp only at hSw); go_simp; try (with_reducible rfl))
    try simp only [Act.put, List.setIfInBounds_toArray, List.set_cons_zero, List.set_cons_succ]
    refine wpAnyT_takeB (i := 2) (oi := ⟨some 22, .load 3 (.tmp 21), _, _, _, _⟩) (v := ?vR5c1x2) rfl (by kernel_rfl) (by kernel_rfl) (by kernel_rfl) (by kernel_rfl) (fun _ _ _ h => h) (Or.inl ⟨by rfl, ?hyR5c1x2⟩) (by assumption) ?restR5c1x2
    case hyR5c1x2 => (intro w hSw; (try dsimp only at hSw); go_simp; try (with_reducible rfl))
    try simp only [Act.put, List.setIfInBounds_toArray, List.set_cons_zero, List.set_cons_succ]
    refine wpAnyT_takeB (i := 3) (oi := ⟨some 23, .indexAddr 28 (.tmp 20) (.tmp 22), _, _, _, _⟩) (v := ?vR5c1x3) rfl (by kernel_rfl) (by kernel_rfl) (by kernel_rfl) (by kernel_rfl) (fun _ _ _ h => h) (Or.inl ⟨by rfl, ?hyR5c1x3⟩) (by assumption) ?restR5c1x3
    case hyR5c1x3 => (intro w hSw; (try dsimp only at hSw); go_simp; try (with_reducible rfl))
    try simp only [Act.put, List.setIfInBounds_toArray, List.set_cons_zero, List.set_cons_succ]
    refine wpAnyT_take (i := 4) (oi := ⟨some 24, .load 3 (.tmp 23), _, _, _, _⟩) (v := ?vR5c1x4) rfl (by kernel_rfl) (by kernel_rfl) (by kernel_rfl) (by kernel_rfl) (by kernel_rfl) (fun _ _ _ h => h) (Or.inl ⟨by rfl, ?hyR5c1x4⟩) (by assumption) ?restR5c1x4
    case hyR5c1x4 => (intro w hSw; (try dsimp only at hSw); go_simp; try (with_reducible rfl))
    try simp only [Act.put, List.setIfInBounds_toArray, List.set_cons_zero, List.set_cons_succ]
    refine wpAnyT_takeB (i := 5) (oi := ⟨some 25, .fieldAddr 62 (.tmp 7) 0, _, _, _, _⟩) (v := ?vR5c1x5) rfl (by kernel_rfl) (by kernel_rfl) (by kernel_rfl) (by kernel_rfl) (fun _ _ _ h => h) (Or.inl ⟨by rfl, ?hyR5c1x5⟩) (by assumption) ?restR5c1x5
    case hyR5c1x5 => (intro w hSw; (try dsimp only at hSw); go_simp; try (with_reducible rfl))
    try simp only [Act.put, List.setIfInBounds_toArray, List.set_cons_zero, List.set_cons_succ]
    refine wpAnyT_takeB (i := 6) (oi := ⟨some 26, .load 3 (.tmp 25), _, _, _, _⟩) (v := ?vR5c1x6) rfl (by kernel_rfl) (by kernel_rfl) (by kernel_rfl) (by kernel_rfl) (fun _ _ _ h => h) (Or.inl ⟨by rfl, ?hyR5c1x6⟩) (by assumption) ?restR5c1x6
    case hyR5c1x6 => (intro w hSw; (try dsimp only at hSw); go_simp; try (with_reducible rfl))
    try simp only [Act.put, List.setIfInBounds_toArray, List.set_cons_zero, List.set_cons_succ]
    refine wpAnyT_takeB (i := 7) (oi := ⟨some 27, .binOp .add 3 (.tmp 24) (.tmp 26) 3, _, _, _, _⟩) (v := ?vR5c1x7) rfl (by kernel_rfl) (by kernel_rfl) (by kernel_rfl) (by kernel_rfl) (fun _ _ _ h => h) (Or.inl ⟨by rfl, ?hyR5c1x7⟩) (by assumption) ?restR5c1x7
    case hyR5c1x7 => (intro w hSw; (try dsimp only at hSw); go_simp; try (with_reducible rfl))
    try simp only [Act.put, List.setIfInBounds_toArray, List.set_cons_zero, List.set_cons_succ]
    refine wpAnyT_takeB (i := 8) (oi := ⟨some 28, .indexAddr 28 (.tmp 20) (.tmp 22), _, _, _, _⟩) (v := ?vR5c1x8) rfl (by kernel_rfl) (by kernel_rfl) (by kernel_rfl) (by kernel_rfl) (fun _ _ _ h => h) (Or.inl ⟨by rfl, ?hyR5c1x8⟩) (by assumption) ?restR5c1x8
    case hyR5c1x8 => (intro w hSw; (try dsimp only at hSw); go_simp; try (with_reducible rfl))
    try simp only [Act.put, List.setIfInBounds_toArray, List.set_cons_zero, List.set_cons_succ]
    refine wpAnyT_late (i := 9) (o := ⟨none, .store 3 (.tmp 28) (.tmp 27), _, _, _, _⟩) (by kernel_rfl) rfl (by kernel_rfl) (fun K hK => ?_)
    go_simp
    refine hK.out _ _ ?shR5c1x9 ?restR5c1x9
    case shR5c1x9 => ((try dsimp only); exact HSt.out)
    clear hK K
    try simp only [Act.put, List.setIfInBounds_toArray, List.set_cons_zero, List.set_cons_succ]
    refine wpAnyT_done (by kernel_rfl) ?_ _
    have HR2 : Hid (RowI (U.setCell ⟨w.heap.size, m, none⟩ (.int .i64 (z + c))) w.heap.size (coefL (t.take (k + 1)) n)) := by
      show RowI _ _ _
      rw [HN.out]
      exact HRV.out.set m _
    have HB2 : Hid (Below w.heap.size w (U.setCell ⟨w.heap.size, m, none⟩ (.int .i64 (z + c)))) := HBV.out.setCell (Nat.le_refl _) _
    go_wp2_with fail
    go_roundw
    case rel => exact ⟨k + 1, by go_num, hkn, HR2, HB2⟩
    case measure => simp [intOf]; omega
  · have hke : k = t.length := by omega
    subst hke
    rw [List.take_length] at HR
    have hkI : ¬ (t.length : Int) < (t.length : Int) := by omega
    go_wp2_with fail
    go_ret
    refine ⟨_, rfl, fun w2 h2 => ?_, HBr.out⟩
    have h3 := (HR.out.kq h2).ints (c := n) (by rw [coefL_len]; unfold maxLen; omega)
    rw [coefL_len] at h3
    exact h3
end Go.Proofs.YtlcegpnnanhloaaGreatDoor

namespace Go.Proofs.YtlcegpnnanhloaaGreatDoor
open Go.RowKit

def svZ : Sv := ⟨0, 0, .slice none 0 0, []⟩
def svA : Sv := ⟨-9223372036854775807, 9223372036854775807, .slice none 0 0, []⟩
def sqA : Sq := ⟨-9223372036854775807, 9223372036854775807, []⟩
def sS (n k : Nat) : List Sv := (List.range n).map fun j => if j < k then svA else svZ
theorem sS_len (n k : Nat) : (sS n k).length = n := by unfold sS; rw [List.length_map, List.length_range]
theorem sS_get {n k j : Nat} (h : j < (sS n k).length) : (sS n k)[j] = if j < k then svA else svZ := by
  simp only [sS, List.getElem_map, List.getElem_range]
theorem sS_tv {n k j : Nat} (h : j < (sS n k).length) : (sS n k)[j].tv = .slice none 0 0 ∧ (sS n k)[j].ts = [] := by
  rw [sS_get]
  split <;> exact ⟨rfl, rfl⟩
theorem sS_next {n k : Nat} (h : k < (sS n k).length) : (sS n k).set k ⟨-9223372036854775807, 9223372036854775807, (sS n k)[k].tv, (sS n k)[k].ts⟩ = sS n (k + 1) := by
  have e := sS_tv h
  rw [e.1, e.2]
  apply List.ext_getElem
  · rw [List.length_set, sS_len, sS_len]
  · intro j h1 h2
    rw [List.getElem_set]
    split
    · rename_i e; subst e; rw [sS_get h2, if_pos (by omega)]; rfl
    · rename_i e
      rw [List.length_set] at h1
      rw [sS_get h1, sS_get h2]
      by_cases hj : j < k
      · rw [if_pos hj, if_pos (by omega)]
      · rw [if_neg hj, if_neg (by omega)]
theorem sS_done (n : Nat) : (sS n n).map Sv.q = List.replicate n sqA := by
  apply List.ext_getElem
  · rw [List.length_map, sS_len, List.length_replicate]
  · intro j h1 h2
    rw [List.length_map] at h1
    have hj := h1
    rw [sS_len] at hj
    rw [List.getElem_map, sS_get h1, List.getElem_replicate, if_pos hj]
    rfl
theorem made_svs (n : Nat) : madeCells #[.int .i64 0, .int .i64 0, .slice none 0 0] (n * 3) = (svs (sS n 0)).toArray := by
  apply Array.ext_getElem?
  intro i
  by_cases hi : i < n * 3
  · obtain ⟨j, r, rfl, hr⟩ : ∃ j r, i = j * 3 + r ∧ r < 3 := ⟨i / 3, i % 3, by omega, by omega⟩
    have hj : j < (sS n 0).length := by rw [sS_len]; omega
    obtain ⟨h0, h1, h2⟩ := svs_get (sS n 0) j hj
    have hz : (sS n 0)[j] = svZ := by rw [sS_get, if_neg (Nat.not_lt_zero _)]
    rw [hz] at h0 h1 h2
    have hl : (madeCells #[.int .i64 0, .int .i64 0, .slice none 0 0] (n * 3))[j * 3 + r]? = some ((#[.int .i64 0, .int .i64 0, .slice none 0 0] : Array Value)[(j * 3 + r) % 3]!) := by
      unfold madeCells
      rw [Array.getElem?_map, Array.getElem?_range, if_pos hi]
      rfl
    rw [hl, List.getElem?_toArray]
    match r, hr with
    | 0, _ => rw [Nat.add_zero, h0, show j * 3 % 3 = 0 by omega]; rfl
    | 1, _ => rw [h1, show (j * 3 + 1) % 3 = 1 by omega]; rfl
    | 2, _ => rw [h2, show (j * 3 + 2) % 3 = 2 by omega]; rfl
  · rw [Array.getElem?_eq_none (by rw [size_madeCells]; omega), Array.getElem?_eq_none (by rw [List.size_toArray, svs_len, sS_len]; omega)]
theorem und97 : Tryz.prog.underlying 97 = some (.slice 105) := by kernel_rfl
theorem info105 : (Tryz.prog.info? 105).map (fun i => (i.zero, i.size, i.bytes)) = some (some (.agg #[.int .i64 0, .int .i64 0, .slice none 0 0]), 3, 40) := by kernel_rfl
theorem makeV (n : Nat) (hn : n ≤ 1000) (w : World) : (Instr.makeSlice 97 (.int .i64 (n : Int)) (.int .i64 (n : Int))).run Tryz.prog w = .ok (.slice (some ⟨w.heap.size, 0, none⟩) n n) (w.alloc (.cells (svs (sS n 0)).toArray 105)) := by
  obtain ⟨i, hi, hz, hs, hbb⟩ := info_of info105
  have hr := run_make (P := Tryz.prog) w 97 105 i _ und97 hi hz .i64 .i64 (n : Int) (n : Int) (by omega) (by omega) (by rw [hbb]; omega) (by omega)
  rw [hs, Int.toNat_natCast] at hr
  rw [← made_svs]
  exact hr

/-- What all leaves. -/
def AlOut (p : Nat) (nv mv : Value) (s : St) (w : World) (e : Ending) (w' : World) : Prop := e = .returned (.pointer (some ⟨w.heap.size + 1, 0, none⟩)) ∧ LfQ w.heap.size (w.heap.size + 1) w.heap.size p nv mv s (List.replicate s.now.length sqA) w' ∧ Below w.heap.size w w'

set_option maxRecDepth 10000 in
set_option maxHeartbeats 1000000 in
theorem all_any (p : Nat) (nv mv : Value) (s : St) (w : World) (hst : ∃ Bs, StAt Bs w p nv mv s) (hown : ∀ k, Own p nv mv k → k < w.heap.size) (htz : Tz w) : Calls Tryz.prog 28 #[.pointer (some ⟨p, 0, none⟩)] w (AlOut p nv mv s w) := by
  obtain ⟨Bs, hS⟩ := hst
  have hn := hS.n32
  have hp : 0 < w.heap.size := Nat.lt_of_le_of_lt (Nat.zero_le p) (hown p (.inl rfl))
  have HV : Hid (Calls Tryz.prog 17 #[.pointer (some ⟨p, 0, none⟩)] w fun e w2 => e = .returned (.int .i64 (s.now.length : Int)) ∧ w2 = w) := vars_any Bs p nv mv s w hS
  have hmk := makeV s.now.length (by omega)
  obtain ⟨W, hW⟩ : ∃ W, (w.alloc (.cells (svs (sS s.now.length 0)).toArray 105)).alloc (.cells #[.pointer (some ⟨p, 0, none⟩), .slice (some ⟨w.heap.size, 0, none⟩) s.now.length s.now.length] 99) = W := ⟨_, rfl⟩
  have hb0 : Below w.heap.size w W := by rw [← hW]; exact ((Below.refl _ _).alloc (Nat.le_refl _) _).alloc (by simp) _
  have HL0 : Hid (LfAt w.heap.size (w.heap.size + 1) w.heap.size p nv mv s (sS s.now.length 0) W) :=
    { box := by rw [sS_len, ← hW]; exact heap_alloc2_new w _ _
      row := by rw [← hW]; exact heap_alloc2_old w _ _
      tests := fun x hx => ⟨[], by rw [(sS_tv hx).1, (sS_tv hx).2]; exact World.ownsRow_nil _ _ _ _, by rw [(sS_tv hx).2]; exact ⟨rfl, fun i h => absurd h (Nat.not_lt_zero _)⟩⟩
      apart := fun x y hx hy _ k hk => by rw [(sS_tv hx).1] at hk; cases hk
      b0 := hp
      lp1 := Nat.le_succ _
      g1 := Nat.le_refl _
      st := ⟨Bs, hS.keep fun k _ ho => hb0.block k (hown k ho)⟩
      own := hown
      len := sS_len _ _
      tz := htz.below hb0 hp }
  have HB0 : Hid (Below w.heap.size w W) := hb0
  have HAn : Hid (∀ w', Calls Tryz.prog 43 #[] w' fun e w2 => e = .returned (.agg #[.int .i64 (-9223372036854775807), .int .i64 9223372036854775807]) ∧ Below w'.heap.size w' w2) := fun w' => anything_any w'
  obtain ⟨n, hnn⟩ : ∃ n, s.now.length = n := ⟨_, rfl⟩
  have HD : Hid ((sS n n).map Sv.q = List.replicate s.now.length sqA) := by show _ = _; rw [hnn]; exact sS_done n
  have HOu : Hid (∀ w' S, LfAt w.heap.size (w.heap.size + 1) w.heap.size p nv mv s S w' → S.map Sv.q = List.replicate s.now.length sqA → Below w.heap.size w w' → AlOut p nv mv s w (.returned (.pointer (some ⟨w.heap.size + 1, 0, none⟩))) w') := fun w' S h1 h2 h3 => ⟨rfl, ⟨S, h1, h2⟩, h3⟩
  rw [hnn] at hn HV hmk hW HL0
  clear hS hown htz hp hb0 hnn
  go_enter Tryz.func28, Tryz.ntmps28
  go_wp2_with fail
  refine calls_at HV.out (by with_reducible rfl) (by with_reducible rfl) ?_
  rintro e w1 ⟨rfl, hw1⟩
  rw [hw1]
  clear hw1
  have c1 : W.cell? ⟨w.heap.size + 1, 1, none⟩ = some (.slice (some ⟨w.heap.size, 0, none⟩) n n) := by
    have := cell_of HL0.out.box 1
    rw [sS_len] at this
    exact this
  go_wp2_with fail
  try rw [hW]
  clear hmk hW
  go_wp2_with fail
  clear c1
  go_loopw [16] (fun iv wr => ∃ (k : Nat), iv = .int .i64 (k : Int) ∧ k ≤ n ∧ Hid (LfAt w.heap.size (w.heap.size + 1) w.heap.size p nv mv s (sS n k) wr) ∧ Hid (Below w.heap.size w wr)) (fun iv _ => n - (intOf iv).toNat)
  case atStart => exact ⟨0, rfl, Nat.zero_le _, HL0, HB0⟩
  case round =>
  obtain ⟨k, rfl, hk, HL, HBr⟩ := hrel
  by_cases hkn : k < n
  · have hkI : (k : Int) < (n : Int) := by omega
    have hkL : k < (sS n k).length := by rw [sS_len]; exact hkn
    have HC : Hid (∀ w', Below wr.heap.size wr w' → w'.cell? ⟨w.heap.size + 1, 1, none⟩ = some (.slice (some ⟨w.heap.size, 0, none⟩) n n)) := fun w' hb => by
      have := cell_of (HL.out.below hb).box 1
      rw [sS_len] at this
      exact this
    have HZ : Hid (∀ w', Below wr.heap.size wr w' → (∀ i, w'.frozen? ⟨w.heap.size, i, none⟩ = false) ∧ w'.cell? ⟨w.heap.size, k * 3, none⟩ = some (.int .i64 (sS n k)[k].lo) ∧ w'.cell? ⟨w.heap.size, k * 3 + 1, none⟩ = some (.int .i64 (sS n k)[k].hi)) := fun w' hb => ⟨frozen_of (HL.out.below hb).row, ((HL.out.below hb).cell k hkL).1, ((HL.out.below hb).cell k hkL).2.1⟩
    have HF : Hid (∀ w', Below wr.heap.size wr w' → LfAt w.heap.size (w.heap.size + 1) w.heap.size p nv mv s (sS n (k + 1)) ((w'.setCell ⟨w.heap.size, k * 3, none⟩ (.int .i64 (-9223372036854775807))).setCell ⟨w.heap.size, k * 3 + 1, none⟩ (.int .i64 9223372036854775807)) ∧ Kq w.heap.size w' ((w'.setCell ⟨w.heap.size, k * 3, none⟩ (.int .i64 (-9223372036854775807))).setCell ⟨w.heap.size, k * 3 + 1, none⟩ (.int .i64 9223372036854775807))) := fun w' hb => by
      rw [← sS_next hkL]
      exact (HL.out.below hb).put k hkL _ _
    obtain ⟨z0, hz0⟩ : ∃ z, (sS n k)[k].lo = z := ⟨_, rfl⟩
    obtain ⟨z1, hz1⟩ : ∃ z, (sS n k)[k].hi = z := ⟨_, rfl⟩
    rw [hz0, hz1] at HZ
    clear hz0 hz1
    go_wp2_with fail
    refine wp_region_T (fun _ => True) (fun w' => w'.cell? ⟨w.heap.size + 1, 1, none⟩ = some (.slice (some ⟨w.heap.size, 0, none⟩) n n)) [8] (by kernel_rfl) ⟨trivial, HC.out _ (Below.refl _ _).drew⟩ (fun hHeld => ?_)
    refine wpAnyT_takeB (i := 0) (oi := ⟨some 19, .move (.tmp 3), _, _, _, _⟩) (v := ?vR5c1x0) rfl (by kernel_rfl) (by kernel_rfl) (by kernel_rfl) (by kernel_rfl) (fun _ _ _ h => h) (Or.inl ⟨by rfl, ?hyR5c1x0⟩) (by assumption) ?restR5c1x0
    case hyR5c1x0 => (intro w hSw; (try dsimp only at hSw); go_simp; try (with_reducible rfl))
    try simp only [Act.put, List.setIfInBounds_toArray, List.set_cons_zero, List.set_cons_succ]
    refine wpAnyT_takeB (i := 1) (oi := ⟨some 20, .nilCheck (.tmp 19), _, _, _, _⟩) (v := ?vR5c1x1) rfl (by kernel_rfl) (by kernel_rfl) (by kernel_rfl) (by kernel_rfl) (fun _ _ _ h => h) (Or.inl ⟨by rfl, ?hyR5c1x1⟩) (by assumption) ?restR5c1x1
    case hyR5c1x1 => (intro w hSw; (try dsimp only at hSw); go_simp; try (with_reducible rfl))
    try simp only [Act.put, List.setIfInBounds_toArray, List.set_cons_zero, List.set_cons_succ]
    refine wpAnyT_takeB (i := 2) (oi := ⟨some 21, .fieldAddr 99 (.tmp 20) 1, _, _, _, _⟩) (v := ?vR5c1x2) rfl (by kernel_rfl) (by kernel_rfl) (by kernel_rfl) (by kernel_rfl) (fun _ _ _ h => h) (Or.inl ⟨by rfl, ?hyR5c1x2⟩) (by assumption) ?restR5c1x2
    case hyR5c1x2 => (intro w hSw; (try dsimp only at hSw); go_simp; try (with_reducible rfl))
    try simp only [Act.put, List.setIfInBounds_toArray, List.set_cons_zero, List.set_cons_succ]
    refine wpAnyT_take (i := 3) (oi := ⟨some 22, .load 97 (.tmp 21), _, _, _, _⟩) (v := ?vR5c1x3) rfl (by kernel_rfl) (by kernel_rfl) (by kernel_rfl) (by kernel_rfl) (by kernel_rfl) (fun _ _ _ h => h) (Or.inl ⟨by rfl, ?hyR5c1x3⟩) (by assumption) ?restR5c1x3
    case hyR5c1x3 => (intro w hSw; (try dsimp only at hSw); go_simp; try (with_reducible rfl))
    try simp only [Act.put, List.setIfInBounds_toArray, List.set_cons_zero, List.set_cons_succ]
    refine wpAnyT_takeB (i := 4) (oi := ⟨some 23, .move (.tmp 4), _, _, _, _⟩) (v := ?vR5c1x4) rfl (by kernel_rfl) (by kernel_rfl) (by kernel_rfl) (by kernel_rfl) (fun _ _ _ h => h) (Or.inl ⟨by rfl, ?hyR5c1x4⟩) (by assumption) ?restR5c1x4
    case hyR5c1x4 => (intro w hSw; (try dsimp only at hSw); go_simp; try (with_reducible rfl))
    try simp only [Act.put, List.setIfInBounds_toArray, List.set_cons_zero, List.set_cons_succ]
    refine wpAnyT_one (i := 5) (o := ⟨some 24, .call { callee := .value (.func 43), args := #[], argTypes := #[] }, _, _, _, _⟩) (by kernel_rfl) rfl (fun K hK => ?_)
    go_simp
    refine calls_at (HAn.out _) (by with_reducible rfl) (by with_reducible rfl) ?_
    rintro e w2 ⟨rfl, hb2⟩
    go_wp2_with fail
    have hb3 : Below wr.heap.size wr w2 := (Below.refl _ _).drew.trans hb2
    have HB3 : Hid (Below wr.heap.size wr w2) := hb3
    obtain ⟨dz, d0, d1⟩ := HZ.out _ hb3
    clear hHeld
    have hHeld : True ∧ _ := ⟨trivial, HC.out _ hb3⟩
    clear hb2 hb3
    refine hK.out _ _ ⟨trivial, fun _ => hHeld.2⟩ ?_
    clear hK K
    refine wpAnyT_takeB (i := 6) (oi := ⟨some 25, .indexAddr 97 (.tmp 22) (.tmp 23), _, _, _, _⟩) (v := ?vR5c1x6) rfl (by kernel_rfl) (by kernel_rfl) (by kernel_rfl) (by kernel_rfl) (fun _ _ _ h => h) (Or.inl ⟨by rfl, ?hyR5c1x6⟩) (by assumption) ?restR5c1x6
    case hyR5c1x6 => (intro w hSw; (try dsimp only at hSw); go_simp; try (with_reducible rfl))
    try simp only [Act.put, List.setIfInBounds_toArray, List.set_cons_zero, List.set_cons_succ]
    refine wpAnyT_takeB (i := 7) (oi := ⟨some 26, .fieldAddr 105 (.tmp 25) 0, _, _, _, _⟩) (v := ?vR5c1x7) rfl (by kernel_rfl) (by kernel_rfl) (by kernel_rfl) (by kernel_rfl) (fun _ _ _ h => h) (Or.inl ⟨by rfl, ?hyR5c1x7⟩) (by assumption) ?restR5c1x7
    case hyR5c1x7 => (intro w hSw; (try dsimp only at hSw); go_simp; try (with_reducible rfl))
    try simp only [Act.put, List.setIfInBounds_toArray, List.set_cons_zero, List.set_cons_succ]
    refine wpAnyT_late (i := 8) (o := ⟨none, .store 101 (.tmp 26) (.tmp 24), _, _, _, _⟩) (by kernel_rfl) rfl (by kernel_rfl) (fun K hK => ?_)
    go_simp
    refine hK.out _ _ ?shR5c1x8 ?restR5c1x8
    case shR5c1x8 => ((try dsimp only); all_goals trivial)
    clear hK K
    try simp only [Act.put, List.setIfInBounds_toArray, List.set_cons_zero, List.set_cons_succ]
    refine wpAnyT_done (by kernel_rfl) ?_ _
    go_wp2_with fail
    go_roundw
    case rel =>
      have hf := HF.out _ HB3.out
      exact ⟨k + 1, by go_num, hkn, hf.1, (HBr.out.trans (HB3.out.mono HBr.out.size)).trans hf.2.below⟩
    case measure => simp [intOf]; omega
  · have hke : k = n := by omega
    subst hke
    have hkI : ¬ (k : Int) < (k : Int) := by omega
    go_wp2_with fail
    go_ret
    exact HOu.out _ _ HL.out HD.out HBr.out
end Go.Proofs.YtlcegpnnanhloaaGreatDoor

namespace Go.Proofs.YtlcegpnnanhloaaGreatDoor
open Go.RowKit

/-- The least that a variable gives to a sum. -/
def lst (t : Bool) (z : Int × Dm) : Int := min (z.1 * spLo t z.2) (z.1 * spHi t z.2)
def leastZ (t : Bool) (l : List (Int × Dm)) : Int := (l.map (lst t)).sum
theorem leastZ_next (t : Bool) (l : List (Int × Dm)) (k : Nat) (hk : k < l.length) : leastZ t (l.take (k + 1)) = leastZ t (l.take k) + lst t l[k] := by
  unfold leastZ
  rw [List.take_succ_eq_append_getElem hk, List.map_append, List.sum_append]
  simp
theorem mul_bd2 {c v : Int} (h1 : -64000000 ≤ c) (h2 : c ≤ 64000000) (h3 : -2000000000 ≤ v) (h4 : v ≤ 2000000000) : -128000000000000000 ≤ c * v ∧ c * v ≤ 128000000000000000 := by
  have e : (c * v).natAbs ≤ 64000000 * 2000000000 := by
    rw [Int.natAbs_mul]; exact Nat.mul_le_mul (by omega) (by omega)
  omega
theorem lst_bd (t : Bool) {z : Int × Dm} (h1 : -64000000 ≤ z.1) (h2 : z.1 ≤ 64000000) (hd : z.2.Ok) : -128000000000000000 ≤ lst t z ∧ lst t z ≤ 128000000000000000 := by
  obtain ⟨s1, s2, s3, s4⟩ := sp_in t hd
  have a := mul_bd2 h1 h2 s1 s2
  have b := mul_bd2 h1 h2 s3 s4
  unfold lst
  omega
theorem leastZ_bd (t : Bool) (l : List (Int × Dm)) (h : ∀ z ∈ l, -64000000 ≤ z.1 ∧ z.1 ≤ 64000000 ∧ z.2.Ok) : -(128000000000000000 * (l.length : Int)) ≤ leastZ t l ∧ leastZ t l ≤ 128000000000000000 * (l.length : Int) := by
  induction l with
  | nil => simp [leastZ]
  | cons z l ih =>
    obtain ⟨h1, h2, h3⟩ := h z List.mem_cons_self
    have := lst_bd t h1 h2 h3
    have := ih (fun z hz => h z (List.mem_cons_of_mem _ hz))
    have e : leastZ t (z :: l) = lst t z + leastZ t l := by simp [leastZ]
    rw [e, List.length_cons]
    omega
theorem leastZ_bdk (t : Bool) (l : List (Int × Dm)) (k : Nat) (h : ∀ z ∈ l, -64000000 ≤ z.1 ∧ z.1 ≤ 64000000 ∧ z.2.Ok) (hl : l.length ≤ 32) : -4096000000000000000 ≤ leastZ t (l.take k) ∧ leastZ t (l.take k) ≤ 4096000000000000000 := by
  have h1 := leastZ_bd t (l.take k) (fun z hz => h z (List.mem_of_mem_take hz))
  have h2 : (l.take k).length ≤ 32 := Nat.le_trans (by rw [List.length_take]; exact Nat.min_le_right _ _) hl
  omega
theorem wrap_64 {a : Int} (h1 : -9000000000000000000 ≤ a) (h2 : a ≤ 9000000000000000000) : wrap64 a = a := by unfold wrap64; omega

set_option maxRecDepth 10000 in
set_option maxHeartbeats 1000000 in
theorem least_any (B lp g p : Nat) (nv mv : Value) (s : St) (Q : List Sq) (t : Bool) (w : World) (h : LfQ B lp g p nv mv s Q w) (v : Value) (cs : List Int) (hv : IntsAt w v cs) (hcs : cs.length = s.now.length) (hc : ∀ c ∈ cs, -64000000 ≤ c ∧ c ≤ 64000000) : Calls Tryz.prog 91 #[sdVal lp t, v] w fun e w' => e = .returned (.int .i64 (leastZ t (cs.zip s.now))) ∧ Below w.heap.size w w' := by
  obtain ⟨a, cap, rfl, _, hcell⟩ := hv
  have hn := h.n32
  have hgood := h.good
  obtain ⟨W, hW⟩ : ∃ W, w.alloc (.cells #[.pointer (some ⟨lp, 0, none⟩), .bool t] 127) = W := ⟨_, rfl⟩
  have hb0 : Below w.heap.size w W := by rw [← hW]; exact (Below.refl _ _).alloc (Nat.le_refl _) _
  have g0 : W.heap[w.heap.size]? = some (.cells #[.pointer (some ⟨lp, 0, none⟩), .bool t] 127 (0, 0)) := by rw [← hW]; exact heap_alloc_new w _
  have hlt0 := (Array.getElem?_eq_some_iff.1 g0).1
  obtain ⟨zs, hzs⟩ : ∃ zs, cs.zip s.now = zs := ⟨_, rfl⟩
  have hzl : zs.length = cs.length := by rw [← hzs, List.length_zip]; omega
  have hz1 : ∀ k (hk : k < zs.length), ∃ (h1 : k < cs.length) (h2 : k < s.now.length), zs[k] = (cs[k], s.now[k]) := fun k hk => by
    subst hzs
    rw [List.length_zip] at hk
    exact ⟨by omega, by omega, by rw [List.getElem_zip]⟩
  have HZ : Hid (∀ z ∈ zs, -64000000 ≤ z.1 ∧ z.1 ≤ 64000000 ∧ z.2.Ok) := fun z hz => by
    obtain ⟨k, hk, rfl⟩ := List.getElem_of_mem hz
    obtain ⟨h1, h2, e⟩ := hz1 k hk
    rw [e]
    exact ⟨(hc _ (List.getElem_mem h1)).1, (hc _ (List.getElem_mem h1)).2, hgood _ (List.getElem_mem h2)⟩
  have HS : Hid (∀ k (hk : k < zs.length) w', Below W.heap.size W w' → Calls Tryz.prog 117 #[.agg #[.pointer (some ⟨lp, 0, none⟩), .bool t], .int .i64 (k : Int)] w' fun e w2 => e = .returned (.agg #[.int .i64 (spLo t zs[k].2), .int .i64 (spHi t zs[k].2)]) ∧ Below w'.heap.size w' w2) := fun k hk w' hb => by
    obtain ⟨h1, h2, e⟩ := hz1 k hk
    have := ((h.below hb0).below hb).span t k h2
    rw [e]
    exact this
  have HV : Hid (∀ k (hk : k < zs.length) w', Below W.heap.size W w' → ∃ b off, a = some ⟨b, off, none⟩ ∧ w'.cell? ⟨b, off + k, none⟩ = some (.int .i64 zs[k].1)) := fun k hk w' hb => by
    obtain ⟨h1, h2, e⟩ := hz1 k hk
    obtain ⟨b, off, rfl, hlt, hcl⟩ := hcell (by omega)
    refine ⟨b, off, rfl, ?_⟩
    rw [e]
    exact ((hb0.trans (hb.mono hb0.size)).cell (p := ⟨b, _, none⟩) hlt).trans (hcl k h1)
  have HC : Hid (∀ w', Below W.heap.size W w' → w'.cell? ⟨w.heap.size, 0, none⟩ = some (.pointer (some ⟨lp, 0, none⟩)) ∧ w'.cell? ⟨w.heap.size, 1, none⟩ = some (.bool t)) := fun w' hb => ⟨cell_of ((hb.block _ hlt0).trans g0) 0, cell_of ((hb.block _ hlt0).trans g0) 1⟩
  have HB : Hid (Below w.heap.size w W) := hb0
  have hz32 : zs.length ≤ 32 := by omega
  rw [hzs]
  have hcl : cs.length = zs.length := hzl.symm
  rw [hcl]
  clear h hcell hgood hb0 g0 hlt0 hz1 hzs hzl hcs hc hn hcl
  unfold sdVal
  go_enter Tryz.func91, Tryz.ntmps91
  go_wp2_with fail
  go_loopw [5, 11] (fun sv iv wr => ∃ (k : Nat), iv = .int .i64 (k : Int) ∧ sv = .int .i64 (leastZ t (zs.take k)) ∧ k ≤ zs.length ∧ Hid (Below W.heap.size W wr)) (fun _ iv _ => zs.length - (intOf iv).toNat)
  case atStart => exact ⟨0, rfl, rfl, Nat.zero_le _, Below.refl _ _⟩
  case round =>
  obtain ⟨k, rfl, rfl, hk, HBr⟩ := hrel
  clear hW
  by_cases hkn : k < zs.length
  · have hkI : (k : Int) < (zs.length : Int) := by omega
    obtain ⟨b, off, rfl, f0⟩ := HV.out k hkn wr HBr.out
    obtain ⟨x0, x1⟩ := HC.out wr HBr.out
    have HSk := HS.out k hkn wr HBr.out
    have hnx := leastZ_next t zs k hkn
    obtain ⟨z1, z2, z3⟩ := HZ.out zs[k] (List.getElem_mem hkn)
    obtain ⟨s1, s2, s3, s4⟩ := sp_in t z3
    have m1 := mul_bd2 z1 z2 s1 s2
    have m2 := mul_bd2 z1 z2 s3 s4
    have hacc := leastZ_bdk t zs k HZ.out hz32
    unfold lst at hnx
    obtain ⟨c, hcc⟩ : ∃ c, zs[k].1 = c := ⟨_, rfl⟩
    obtain ⟨u, hu⟩ : ∃ c, spLo t zs[k].2 = c := ⟨_, rfl⟩
    obtain ⟨q, hq⟩ : ∃ c, spHi t zs[k].2 = c := ⟨_, rfl⟩
    obtain ⟨acc, ha⟩ : ∃ c, leastZ t (zs.take k) = c := ⟨_, rfl⟩
    rw [hcc] at f0 m1 m2 hnx
    rw [hu] at HSk m1 hnx
    rw [hq] at HSk m2 hnx
    rw [ha] at hnx hacc
    rw [ha]
    have HN : Hid (leastZ t (zs.take (k + 1)) = acc + min (c * u) (c * q)) := hnx
    have HSk' : Hid (Calls Tryz.prog 117 #[.agg #[.pointer (some ⟨lp, 0, none⟩), .bool t], .int .i64 (k : Int)] wr fun e w2 => e = .returned (.agg #[.int .i64 u, .int .i64 q]) ∧ Below wr.heap.size wr w2) := HSk
    have e1 : wrap64 (c * u) = c * u := wrap_64 (by omega) (by omega)
    have e2 : wrap64 (c * q) = c * q := wrap_64 (by omega) (by omega)
    have e3 : wrap64 (acc + min (c * u) (c * q)) = acc + min (c * u) (c * q) := wrap_64 (by omega) (by omega)
    clear hnx HSk hcc hu hq ha z1 z2 z3 s1 s2 s3 s4 m1 m2 hacc
    go_wp2_with fail
    refine calls_at HSk'.out (by with_reducible rfl) (by with_reducible rfl) ?_
    rintro e w2 ⟨rfl, hb2⟩
    have HB2 : Hid (Below W.heap.size W (w2.alloc (.cells #[.int .i64 u, .int .i64 q] 101))) := bl_alloc (bl_next HBr.out hb2) _
    clear hb2
    go_wp2_with fail
    go_roundw
    case rel => exact ⟨k + 1, by go_num, by rw [HN.out, e3], hkn, HB2⟩
    case measure => simp [intOf]; omega
  · have hke : k = zs.length := by omega
    subst hke
    rw [List.take_length]
    have hkI : ¬ (zs.length : Int) < (zs.length : Int) := by omega
    go_wp2_with fail
    go_ret
    exact ⟨rfl, HB.out.trans (HBr.out.mono HB.out.size)⟩
end Go.Proofs.YtlcegpnnanhloaaGreatDoor
