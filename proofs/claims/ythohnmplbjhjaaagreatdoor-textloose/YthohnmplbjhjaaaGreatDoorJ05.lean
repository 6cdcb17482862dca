/-
  Put together: TpMath, TrMath, TwMath, TwLoose.
-/
import Derived.Test.YthohnmplbjhjaaaGreatDoorJ04
import Derived.Lib.ItoaLen
namespace Md
open Go.Lib (itoa)

/-- A variable's name. -/
def nm (l : List Vr) (x : Int) : List UInt8 := (varAt l x).name.data.toList
def namesT (l : List Vr) (xs : List Int) : List UInt8 := xs.flatMap fun x => 32 :: nm l x
def numsT (xs : List Int) : List UInt8 := xs.flatMap fun n => 32 :: itoa n
def sumT (l : List Vr) (t : List (Int × Int)) : List UInt8 := t.flatMap fun t => 32 :: (itoa t.1 ++ 32 :: nm l t.2)
def rowsT (r : List (List Int)) : List UInt8 := r.flatMap fun r => 32 :: 58 :: numsT r
def opT (op : Int) : List UInt8 := if op = 1 then [60, 61] else if op = 2 then [61] else if op = 3 then [62, 61] else []
/-- What stands behind a constraint's word. -/
def restT (l : List Vr) (c : Cn) : List UInt8 :=
  if c.kind = 1 then 32 :: opT c.op ++ (32 :: itoa c.k ++ sumT l c.terms)
  else if c.kind = 2 then 32 :: nm l c.x ++ (32 :: nm l c.y ++ 32 :: itoa c.k)
  else if c.kind = 3 then namesT l c.xs
  else if c.kind = 4 then 32 :: nm l c.x ++ (32 :: nm l c.y ++ numsT c.table)
  else if c.kind = 5 ∨ c.kind = 6 then 32 :: nm l c.y ++ namesT l c.xs
  else if c.kind = 7 then 32 :: nm l c.x ++ (32 :: 60 :: 61 :: (32 :: itoa c.k ++ sumT l c.terms))
  else if c.kind = 8 then namesT l c.xs ++ rowsT c.rows
  else 32 :: opT c.op ++ (32 :: itoa c.k ++ (32 :: itoa c.v ++ namesT l c.xs))
def wordT (k : Int) : List UInt8 :=
  if k = 1 then [108, 105, 110] else if k = 2 then [110, 101] else if k = 3 then [97, 108, 108, 100, 105, 102, 102] else if k = 4 then [101, 108, 101, 109, 101, 110, 116]
  else if k = 5 then [109, 97, 120] else if k = 6 then [109, 105, 110] else if k = 7 then [114, 101, 105, 102] else if k = 8 then [116, 97, 98, 108, 101] else [99, 111, 117, 110, 116]
def conT (l : List Vr) (c : Cn) : List UInt8 := wordT c.kind ++ restT l c
def varT (v : Vr) : List UInt8 := 118 :: 97 :: 114 :: 32 :: (v.name.data.toList ++ (32 :: itoa v.lo ++ 32 :: itoa v.hi))
def varsT (l : List Vr) : List UInt8 := l.flatMap fun v => varT v ++ [10]
def consT (l : List Vr) (c : List Cn) : List UInt8 := c.flatMap fun c => conT l c ++ [10]
def goalT (m : Mo) : List UInt8 := if m.has then 109 :: 105 :: 110 :: 105 :: 109 :: 105 :: 122 :: 101 :: (sumT m.vars m.goal ++ [10]) else []
/-- The text. -/
def textT (m : Mo) : List UInt8 := varsT m.vars ++ consT m.vars m.cons ++ goalT m
/-- What Print answers. -/
def print (m : Mo) : List UInt8 × Int := if (check m).2 = 0 then (if 65536 < (textT m).length then ([], 50) else (textT m, 0)) else ([], (check m).2)

theorem flatMap_take {α β : Type} (f : α → List β) (l : List α) (k : Nat) (h : k < l.length) : (l.take (k + 1)).flatMap f = (l.take k).flatMap f ++ f l[k] := by
  rw [List.take_succ_eq_append_getElem h, List.flatMap_append]
  simp
theorem flatMap_len {α β : Type} (f : α → List β) (n : Nat) : ∀ (l : List α), (∀ x ∈ l, (f x).length ≤ n) → (l.flatMap f).length ≤ n * l.length
  | [], _ => by simp
  | x :: l, h => by
    have h1 := h x (by simp)
    have h2 := flatMap_len f n l (fun y hy => h y (by simp [hy]))
    rw [List.flatMap_cons, List.length_append, List.length_cons, Nat.mul_succ]
    omega
theorem flatMap_take_len {α β : Type} (f : α → List β) (n : Nat) (l : List α) (k : Nat) (h : ∀ x ∈ l, (f x).length ≤ n) : ((l.take k).flatMap f).length ≤ n * l.length :=
  Nat.le_trans (flatMap_len f n (l.take k) (fun x hx => h x (List.mem_of_mem_take hx))) (Nat.mul_le_mul_left n (by rw [List.length_take]; omega))
theorem itoa_len {n : Int} (h : -1000000000 ≤ n ∧ n ≤ 1000000000) : (itoa n).length ≤ 21 := Go.Lib.itoa_length_le n (by omega) (by omega)
theorem name_len {s : List UInt8} (h : nameB s = true) : s.length ≤ 16 := by
  simp [nameB] at h
  omega
end Md

namespace Go.Proofs.YthohnmplbjhjaaaGreatDoor
open Md

def txtOf (l : List UInt8) : ByteArray := ⟨l.toArray⟩
/-- Blanks. -/
def blk (c : UInt8) : Bool := c == 32 || c == 9
/-- How long the first word is. -/
def wlen (l : List UInt8) : Nat := (l.takeWhile fun c => !blk c).length
theorem wlen_le (l : List UInt8) : wlen l ≤ l.length := (List.takeWhile_sublist _).length_le

/-- What is left of a line, and its fault (0: none). -/
abbrev St := List UInt8 × Int
def takeT (s : St) : Option (List UInt8 × St) :=
  if s.2 = 0 ∧ s.1.dropWhile blk ≠ [] then some ((s.1.dropWhile blk).take (wlen (s.1.dropWhile blk)), ((s.1.dropWhile blk).drop (wlen (s.1.dropWhile blk)), 0)) else none
def failT (e : Int) (s : St) : St := if s.2 = 0 then (s.1, e) else s
def nextT (s : St) : List UInt8 × St := match takeT s with
  | some p => p
  | none => ([], failT 52 s)
def endT (s : St) : St := match takeT s with
  | some p => failT 57 p.2
  | none => s
def mustT (w x : List UInt8) (s : St) : St := if w = x then s else failT 51 s
def placeT (V : List Vr) (w : List UInt8) : Int := match V.findIdx? (fun v => v.name.data.toList == w) with
  | some i => (i : Int)
  | none => -1
def knownT (V : List Vr) (w : List UInt8) (s : St) : Int × St :=
  (placeT V w, if placeT V w < 0 then failT 56 (if nameB w = true then s else failT 54 s) else (if nameB w = true then s else failT 54 s))
def nameT (V : List Vr) (s : St) : Int × St := knownT V (nextT s).1 (nextT s).2
def newT (V : List Vr) (s : St) : List UInt8 × St :=
  ((nextT s).1, if 0 ≤ placeT V (nextT s).1 then failT 55 (if nameB (nextT s).1 = true then (nextT s).2 else failT 54 (nextT s).2) else (if nameB (nextT s).1 = true then (nextT s).2 else failT 54 (nextT s).2))
def opS (w : List UInt8) : Int := if w = [60, 61] then 1 else if w = [61] then 2 else if w = [62, 61] then 3 else 0
def rdOp (s : St) : Int × St := (opS (nextT s).1, if opS (nextT s).1 = 0 then failT 51 (nextT s).2 else (nextT s).2)
def digT (c : UInt8) : Bool := decide (48 ≤ c.toNat ∧ c.toNat ≤ 57)
def numT (d : List UInt8) : Int := d.foldl (fun n c => min (10 * n + ((c.toNat : Int) - 48)) 1000000001) 0
def wholeT (w : List UInt8) : Int × Bool :=
  let d := if w.headD 0 = 45 then w.drop 1 else w
  if d = [] ∨ (d.headD 0 = 48 ∧ w ≠ [48]) then (0, false) else if d.all digT = true then (if w.headD 0 = 45 then -(numT d) else numT d, true) else (0, false)
def rdWhole (w : List UInt8) (s : St) : Int × St := ((wholeT w).1, if (wholeT w).2 = true then s else failT 53 s)
def rdValue (w : List UInt8) (s : St) : Int × St := ((rdWhole w s).1, if (rdWhole w s).1 < -1000000000 ∨ 1000000000 < (rdWhole w s).1 then failT 46 (rdWhole w s).2 else (rdWhole w s).2)
def rdNumber (s : St) : Int × St := rdValue (nextT s).1 (nextT s).2
def rdLo (s : St) : Int × St := let a := rdWhole (nextT s).1 (nextT s).2; (a.1, if boundsB a.1 a.1 = true then a.2 else failT 42 a.2)
def rdHi (lo : Int) (s : St) : Int × St := let a := rdWhole (nextT s).1 (nextT s).2; (a.1, if boundsB lo a.1 = true then a.2 else failT 42 a.2)
def rdBounds (s : St) : (Int × Int) × St := (((rdLo s).1, (rdHi (rdLo s).1 (rdLo s).2).1), (rdHi (rdLo s).1 (rdLo s).2).2)
def cfT (c : Int) (s : St) : St := if c = 0 ∨ c < -1000000 ∨ 1000000 < c then failT 45 s else s
def rdTerm (V : List Vr) (w : List UInt8) (s : St) : (Int × Int) × St :=
  (((rdWhole w s).1, (nameT V (cfT (rdWhole w s).1 (rdWhole w s).2)).1), (nameT V (cfT (rdWhole w s).1 (rdWhole w s).2)).2)
def listGo {α : Type} (rd : List UInt8 → St → α × St) : Nat → List α → St → List α × St
  | 0, all, s => (match takeT s with
    | none => (all, s)
    | some p => (all, failT 47 p.2))
  | k + 1, all, s => (match takeT s with
    | none => (all, s)
    | some p => listGo rd k (all ++ [(rd p.1 p.2).1]) (rd p.1 p.2).2)
def rdList {α : Type} (rd : List UInt8 → St → α × St) (s : St) : List α × St := listGo rd 63 [(rd (nextT s).1 (nextT s).2).1] (rd (nextT s).1 (nextT s).2).2
def colsGo (V : List Vr) : Nat → List Int → St → List Int × St
  | 0, xs, s => (match takeT s with
    | none => (xs, failT 52 s)
    | some p => if p.1 = [58] then (xs, p.2) else (xs, failT 47 p.2))
  | k + 1, xs, s => (match takeT s with
    | none => (xs, failT 52 s)
    | some p => if p.1 = [58] then (xs, p.2) else colsGo V k (xs ++ [(knownT V p.1 p.2).1]) (knownT V p.1 p.2).2)
def rdCols (V : List Vr) (s : St) : List Int × St := colsGo V 7 [(nameT V s).1] (nameT V s).2
def rowGo : Nat → List Int → St → List Int × St
  | 0, row, s => (row, s)
  | k + 1, row, s => rowGo k (row ++ [(rdNumber s).1]) (rdNumber s).2
def rdRow (n : Nat) (w : List UInt8) (s : St) : List Int × St := rowGo (n - 1) [(rdValue w s).1] (rdValue w s).2
def rowsGo (n : Nat) : Nat → List (List Int) → St → List (List Int) × St
  | 0, all, s => (match takeT s with
    | none => (all, s)
    | some p => let q := nextT (mustT p.1 [58] p.2); let r := rdRow n q.1 (failT 47 q.2); (all ++ [r.1], r.2))
  | k + 1, all, s => (match takeT s with
    | none => (all, s)
    | some p => let q := nextT (mustT p.1 [58] p.2); let r := rdRow n q.1 q.2; rowsGo n k (all ++ [r.1]) r.2)
def rdRows (n : Nat) (s : St) : List (List Int) × St := rowsGo n 63 [(rdRow n (nextT s).1 (nextT s).2).1] (rdRow n (nextT s).1 (nextT s).2).2

/-- What a line says: a variable, a constraint (or, as terms, the goal). -/
structure Sy where
  v : Vr
  c : Cn
def zv : Vr := ⟨⟨#[]⟩, 0, 0⟩
def zc (k : Int) : Cn := ⟨k, 0, [], 0, 0, 0, 0, [], [], []⟩
def zm : Mo := ⟨[], [], false, []⟩
def kindW (w : List UInt8) : Nat :=
  if w = [108, 105, 110] then 1 else if w = [110, 101] then 2 else if w = [97, 108, 108, 100, 105, 102, 102] then 3 else if w = [101, 108, 101, 109, 101, 110, 116] then 4 else if w = [109, 97, 120] then 5 else if w = [109, 105, 110] then 6
  else if w = [114, 101, 105, 102] then 7 else if w = [116, 97, 98, 108, 101] then 8 else if w = [99, 111, 117, 110, 116] then 9 else if w = [118, 97, 114] then 10 else if w = [109, 105, 110, 105, 109, 105, 122, 101] then 11 else 0
def oneMoreT (k : Nat) (m : Mo) : Int := if k = 10 ∧ m.vars.length = 32 then 40 else if k = 11 ∧ m.has = true then 58 else if k ≤ 9 ∧ m.cons.length = 64 then 49 else 0
def fVar (V : List Vr) (s : St) : Sy × St := let n := newT V s; let b := rdBounds n.2; (⟨⟨txtOf n.1, b.1.1, b.1.2⟩, zc 10⟩, endT b.2)
def fLin (V : List Vr) (s : St) : Sy × St := let o := rdOp s; let n := rdNumber o.2; let t := rdList (rdTerm V) n.2; (⟨zv, ⟨1, o.1, t.1, n.1, 0, 0, 0, [], [], []⟩⟩, t.2)
def fNe (V : List Vr) (s : St) : Sy × St := let x := nameT V s; let y := nameT V x.2; let n := rdNumber y.2; (⟨zv, ⟨2, 0, [], n.1, 0, x.1, y.1, [], [], []⟩⟩, endT n.2)
def fAll (V : List Vr) (s : St) : Sy × St := let l := rdList (knownT V) s; (⟨zv, ⟨3, 0, [], 0, 0, 0, 0, l.1, [], []⟩⟩, l.2)
def fEl (V : List Vr) (s : St) : Sy × St := let x := nameT V s; let y := nameT V x.2; let l := rdList rdValue y.2; (⟨zv, ⟨4, 0, [], 0, 0, x.1, y.1, [], l.1, []⟩⟩, l.2)
def fMax (V : List Vr) (k : Int) (s : St) : Sy × St := let y := nameT V s; let l := rdList (knownT V) y.2; (⟨zv, ⟨k, 0, [], 0, 0, 0, y.1, l.1, [], []⟩⟩, l.2)
def fReif (V : List Vr) (s : St) : Sy × St := let x := nameT V s; let p := nextT x.2; let n := rdNumber (mustT p.1 [60, 61] p.2); let t := rdList (rdTerm V) n.2; (⟨zv, ⟨7, 0, t.1, n.1, 0, x.1, 0, [], [], []⟩⟩, t.2)
def fTable (V : List Vr) (s : St) : Sy × St := let xs := rdCols V s; let r := rdRows xs.1.length xs.2; (⟨zv, ⟨8, 0, [], 0, 0, 0, 0, xs.1, [], r.1⟩⟩, r.2)
def fCount (V : List Vr) (s : St) : Sy × St := let o := rdOp s; let k := rdNumber o.2; let v := rdNumber k.2; let l := rdList (knownT V) v.2; (⟨zv, ⟨9, o.1, [], k.1, v.1, 0, 0, l.1, [], []⟩⟩, l.2)
def fGoal (V : List Vr) (s : St) : Sy × St := let t := rdList (rdTerm V) s; (⟨zv, ⟨11, 0, t.1, 0, 0, 0, 0, [], [], []⟩⟩, t.2)
def formT (V : List Vr) (k : Nat) (s : St) : Sy × St :=
  if k = 1 then fLin V s else if k = 2 then fNe V s else if k = 3 then fAll V s else if k = 4 then fEl V s else if k = 5 then fMax V 5 s else if k = 6 then fMax V 6 s else if k = 7 then fReif V s else if k = 8 then fTable V s else if k = 9 then fCount V s else if k = 10 then fVar V s else fGoal V s
def sayT (m : Mo) (w : List UInt8) (s : St) : Sy × St := if kindW w = 0 then (⟨zv, zc 0⟩, failT 51 s) else formT m.vars (kindW w) (failT (oneMoreT (kindW w) m) s)
def layT (m : Mo) (y : Sy) : Mo := if y.c.kind = 10 then { m with vars := m.vars ++ [y.v] } else if y.c.kind = 11 then { m with has := true, goal := y.c.terms } else { m with cons := m.cons ++ [y.c] }
def readT (m : Mo) (l : List UInt8) : Mo × Int := match takeT (l, 0) with
  | none => (m, 0)
  | some p => if p.1.headD 0 = 35 then (m, 0) else if (sayT m p.1 p.2).2.2 = 0 then (layT m (sayT m p.1 p.2).1, 0) else (m, (sayT m p.1 p.2).2.2)
/-- The lines of a text. -/
def linesT : List UInt8 → List UInt8 → List (List UInt8)
  | [], cur => [cur]
  | c :: t, cur => if c = 10 then cur :: linesT t [] else linesT t (cur ++ [c])
def goT : List (List UInt8) → Nat → Mo → Mo × Option (Nat × Int)
  | [], _, m => (m, none)
  | l :: t, i, m => if (readT m l).2 = 0 then goT t (i + 1) (readT m l).1 else (m, some (i, (readT m l).2))
/-- What Parse answers: the problem, the fault's line and its number (0: none). -/
def parseT (s : List UInt8) : Mo × (Int × Int) :=
  if 65536 < s.length then (zm, (1, 50)) else match goT (linesT s []) 1 zm with
  | (_, some (i, e)) => (zm, ((i : Int), e))
  | (m, none) => if m.vars = [] then (zm, (((linesT s []).length : Int), 59)) else (m, (0, 0))

theorem fail_on {e : Int} {s : St} (h : s.2 ≠ 0) : failT e s = s := by unfold failT; rw [if_neg h]
theorem fail_rest (e : Int) (s : St) : (failT e s).1 = s.1 := by unfold failT; split <;> rfl
theorem take_len {s : St} {p : List UInt8 × St} (h : takeT s = some p) : p.2.1.length < s.1.length ∧ p.1.length ≤ s.1.length ∧ p.2.2 = 0 ∧ s.2 = 0 ∧ p.1 ≠ [] := by
  unfold takeT at h
  split at h
  · rename_i h1
    injection h with h
    subst h
    have h2 := (List.dropWhile_sublist (p := blk) (l := s.1)).length_le
    obtain ⟨r, hr⟩ : ∃ r, s.1.dropWhile blk = r := ⟨_, rfl⟩
    rw [hr] at h1 h2 ⊢
    cases r with
    | nil => exact absurd rfl h1.2
    | cons c l =>
      have hc : blk c = false := by
        have := List.head?_dropWhile_not blk s.1
        rw [hr] at this
        simpa using this
      have hw : wlen (c :: l) = wlen l + 1 := by unfold wlen; rw [List.takeWhile_cons_of_pos (by simp [hc])]; rfl
      have hle := wlen_le l
      rw [hw]
      simp only [List.length_cons] at h2
      refine ⟨by simp; omega, by simp; omega, rfl, h1.1, by simp⟩
  · cases h
theorem take_bad {s : St} (h : s.2 ≠ 0) : takeT s = none := by unfold takeT; rw [if_neg (fun e => h e.1)]
end Go.Proofs.YthohnmplbjhjaaaGreatDoor

namespace Go.Proofs.YthohnmplbjhjaaaGreatDoor
open Md

/-- The words of a line; cur is what stands of the one that is begun. -/
def wd : List UInt8 → List UInt8 → List (List UInt8)
  | [], cur => if cur = [] then [] else [cur]
  | c :: t, cur => if blk c = true then (if cur = [] then wd t [] else cur :: wd t []) else wd t (cur ++ [c])
abbrev words (l : List UInt8) : List (List UInt8) := wd l []
theorem wd_skip : ∀ l : List UInt8, wd (l.dropWhile blk) [] = wd l []
  | [] => rfl
  | c :: t => by
    by_cases h : blk c = true
    · rw [List.dropWhile_cons_of_pos h, wd_skip t]
      simp [wd, h]
    · rw [List.dropWhile_cons_of_neg h]
theorem wd_run : ∀ (l cur : List UInt8), wd l cur = wd (l.drop (wlen l)) (cur ++ l.take (wlen l))
  | [], cur => by simp [wlen, wd]
  | c :: t, cur => by
    by_cases h : blk c = true
    · have : wlen (c :: t) = 0 := by unfold wlen; rw [List.takeWhile_cons_of_neg (by simp [h])]; rfl
      rw [this]
      simp
    · have : wlen (c :: t) = wlen t + 1 := by unfold wlen; rw [List.takeWhile_cons_of_pos (by simp [h])]; rfl
      rw [this]
      show (if blk c = true then _ else wd t (cur ++ [c])) = _
      rw [if_neg h, wd_run t]
      simp
theorem wd_cut : ∀ (l cur : List UInt8), cur ≠ [] → (l = [] ∨ ∃ c t, l = c :: t ∧ blk c = true) → wd l cur = cur :: wd l []
  | _, cur, h, .inl e => by subst e; simp [wd, h]
  | _, cur, h, .inr ⟨c, t, e, hb⟩ => by subst e; simp [wd, h, hb]
theorem wlen_rest : ∀ l : List UInt8, l.drop (wlen l) = [] ∨ ∃ c t, l.drop (wlen l) = c :: t ∧ blk c = true
  | [] => .inl (by simp)
  | c :: t => by
    by_cases h : blk c = true
    · have : wlen (c :: t) = 0 := by unfold wlen; rw [List.takeWhile_cons_of_neg (by simp [h])]; rfl
      rw [this]
      exact .inr ⟨c, t, rfl, h⟩
    · have : wlen (c :: t) = wlen t + 1 := by unfold wlen; rw [List.takeWhile_cons_of_pos (by simp [h])]; rfl
      rw [this, List.drop_succ_cons]
      exact wlen_rest t
theorem take_of {s : St} (h0 : s.2 = 0) (hd : s.1.dropWhile blk ≠ []) : ∃ p, takeT s = some p ∧ words s.1 = p.1 :: words p.2.1 := by
  unfold takeT
  rw [if_pos ⟨h0, hd⟩]
  refine ⟨_, rfl, ?_⟩
  show wd s.1 [] = _
  rw [← wd_skip, wd_run]
  simp only [List.nil_append]
  refine wd_cut _ _ (fun e => ?_) (wlen_rest _)
  obtain ⟨r, hr⟩ : ∃ r, s.1.dropWhile blk = r := ⟨_, rfl⟩
  rw [hr] at hd e
  cases r with
  | nil => exact hd rfl
  | cons c l =>
    have hc : blk c = false := by
      have := List.head?_dropWhile_not blk s.1
      rw [hr] at this
      simpa using this
    have hw : wlen (c :: l) = wlen l + 1 := by unfold wlen; rw [List.takeWhile_cons_of_pos (by simp [hc])]; rfl
    rw [hw] at e
    simp at e
theorem take_words {s : St} {p : List UInt8 × St} (h : takeT s = some p) : s.2 = 0 ∧ p.2.2 = 0 ∧ words s.1 = p.1 :: words p.2.1 := by
  obtain ⟨_, _, h3, h4, _⟩ := take_len h
  have hd : s.1.dropWhile blk ≠ [] := fun e => by unfold takeT at h; rw [if_neg (fun q => q.2 e)] at h; cases h
  obtain ⟨q, hq, hw⟩ := take_of h4 hd
  rw [h] at hq
  cases hq
  exact ⟨h4, h3, hw⟩
theorem take_end {s : St} (h : takeT s = none) (h0 : s.2 = 0) : words s.1 = [] := by
  by_cases hd : s.1.dropWhile blk = []
  · show wd s.1 [] = []
    rw [← wd_skip, hd]
    rfl
  · obtain ⟨q, hq, _⟩ := take_of h0 hd
    rw [h] at hq
    cases hq
theorem take_some {s : St} {w : List UInt8} {ws : List (List UInt8)} (h0 : s.2 = 0) (hw : words s.1 = w :: ws) : ∃ r, takeT s = some (w, r) ∧ r.2 = 0 ∧ words r.1 = ws := by
  cases h : takeT s with
  | none => rw [take_end h h0] at hw; cases hw
  | some p =>
    obtain ⟨_, h2, h3⟩ := take_words h
    rw [hw] at h3
    injection h3 with e1 e2
    exact ⟨p.2, by rw [e1], h2, e2.symm⟩
theorem take_none {s : St} (hw : words s.1 = []) : takeT s = none := by
  cases h : takeT s with
  | none => rfl
  | some p => obtain ⟨_, _, h3⟩ := take_words h; rw [hw] at h3; cases h3

/-- The same words left, the same fault. -/
def Eqw (s t : St) : Prop := s.2 = t.2 ∧ words s.1 = words t.1
theorem Eqw.take {s t : St} (h : Eqw s t) : (takeT s = none ∧ takeT t = none) ∨ ∃ w r q, takeT s = some (w, r) ∧ takeT t = some (w, q) ∧ Eqw r q := by
  cases hs : takeT s with
  | none =>
    refine .inl ⟨rfl, ?_⟩
    by_cases h0 : s.2 = 0
    · exact take_none (by rw [← h.2, take_end hs h0])
    · exact take_bad (by rw [← h.1]; exact h0)
  | some p =>
    obtain ⟨h1, h2, h3⟩ := take_words hs
    obtain ⟨q, hq, h4, h5⟩ := take_some (s := t) (by rw [← h.1]; exact h1) (by rw [← h.2]; exact h3)
    exact .inr ⟨p.1, p.2, q, rfl, hq, by rw [h2, h4], h5.symm⟩
/-- What a reader answers hangs on the words alone. -/
def Cw {α : Type} (f : St → α × St) : Prop := ∀ s t, Eqw s t → (f s).1 = (f t).1 ∧ Eqw (f s).2 (f t).2
theorem Eqw.fail {s t : St} (h : Eqw s t) (e : Int) : Eqw (failT e s) (failT e t) := by
  unfold failT
  rw [← h.1]
  split
  · exact ⟨rfl, h.2⟩
  · exact h
theorem Eqw.ite {p : Prop} [Decidable p] {a b c d : St} (h : Eqw a c) (h' : Eqw b d) : Eqw (if p then a else b) (if p then c else d) := by split; exact h; exact h'
theorem cw_next : Cw nextT := fun s t h => by
  unfold nextT
  rcases h.take with ⟨h1, h2⟩ | ⟨w, r, q, h1, h2, h3⟩
  · rw [h1, h2]; exact ⟨rfl, h.fail 52⟩
  · rw [h1, h2]; exact ⟨rfl, h3⟩
theorem cw_known (V : List Vr) (w : List UInt8) : Cw (knownT V w) := fun s t h => by
  unfold knownT
  exact ⟨rfl, Eqw.ite ((Eqw.ite h (h.fail 54)).fail 56) (Eqw.ite h (h.fail 54))⟩
theorem cw_name (V : List Vr) : Cw (nameT V) := fun s t h => by
  obtain ⟨h1, h2⟩ := cw_next s t h
  unfold nameT
  rw [h1]
  exact cw_known V _ _ _ h2
theorem cw_new (V : List Vr) : Cw (newT V) := fun s t h => by
  obtain ⟨h1, h2⟩ := cw_next s t h
  unfold newT
  rw [h1]
  exact ⟨rfl, Eqw.ite ((Eqw.ite h2 (h2.fail 54)).fail 55) (Eqw.ite h2 (h2.fail 54))⟩
theorem cw_op : Cw rdOp := fun s t h => by
  obtain ⟨h1, h2⟩ := cw_next s t h
  unfold rdOp
  rw [h1]
  exact ⟨rfl, Eqw.ite (h2.fail 51) h2⟩
theorem cw_whole (w : List UInt8) : Cw (rdWhole w) := fun _ _ h => ⟨rfl, Eqw.ite h (h.fail 53)⟩
theorem cw_value (w : List UInt8) : Cw (rdValue w) := fun s t h => by
  obtain ⟨h1, h2⟩ := cw_whole w s t h
  exact ⟨h1, by unfold rdValue; simp only [h1]; exact Eqw.ite (h2.fail 46) h2⟩
theorem cw_number : Cw rdNumber := fun s t h => by
  obtain ⟨h1, h2⟩ := cw_next s t h
  unfold rdNumber
  rw [h1]
  exact cw_value _ _ _ h2
theorem cw_lo : Cw rdLo := fun s t h => by
  obtain ⟨h1, h2⟩ := cw_next s t h
  obtain ⟨h3, h4⟩ := cw_whole (nextT t).1 _ _ h2
  unfold rdLo
  rw [h1]
  exact ⟨h3, by simp only [h3]; exact Eqw.ite h4 (h4.fail 42)⟩
theorem cw_hi (lo : Int) : Cw (rdHi lo) := fun s t h => by
  obtain ⟨h1, h2⟩ := cw_next s t h
  obtain ⟨h3, h4⟩ := cw_whole (nextT t).1 _ _ h2
  unfold rdHi
  rw [h1]
  exact ⟨h3, by simp only [h3]; exact Eqw.ite h4 (h4.fail 42)⟩
theorem cw_bounds : Cw rdBounds := fun s t h => by
  obtain ⟨h1, h2⟩ := cw_lo s t h
  unfold rdBounds
  rw [h1]
  obtain ⟨h3, h4⟩ := cw_hi (rdLo t).1 _ _ h2
  exact ⟨by rw [h3], h4⟩
theorem cw_term (V : List Vr) (w : List UInt8) : Cw (rdTerm V w) := fun s t h => by
  obtain ⟨h1, h2⟩ := cw_whole w s t h
  have h3 : Eqw (cfT (rdWhole w s).1 (rdWhole w s).2) (cfT (rdWhole w t).1 (rdWhole w t).2) := by rw [h1]; exact Eqw.ite (h2.fail 45) h2
  obtain ⟨h4, h5⟩ := cw_name V _ _ h3
  unfold rdTerm
  exact ⟨by rw [h1, h4.symm.trans (by rw [h1])], h5⟩
theorem cw_listGo {α : Type} {rd : List UInt8 → St → α × St} (hr : ∀ w, Cw (rd w)) : ∀ (k : Nat) (all : List α), Cw (listGo rd k all)
  | 0, all => fun s t h => by
    unfold listGo
    rcases h.take with ⟨h1, h2⟩ | ⟨w, r, q, h1, h2, h3⟩
    · rw [h1, h2]; exact ⟨rfl, h⟩
    · rw [h1, h2]; exact ⟨rfl, h3.fail 47⟩
  | k + 1, all => fun s t h => by
    unfold listGo
    rcases h.take with ⟨h1, h2⟩ | ⟨w, r, q, h1, h2, h3⟩
    · rw [h1, h2]; exact ⟨rfl, h⟩
    · rw [h1, h2]
      obtain ⟨h4, h5⟩ := hr w r q h3
      show (listGo rd k (all ++ [(rd w r).1]) (rd w r).2).1 = _ ∧ Eqw (listGo rd k (all ++ [(rd w r).1]) (rd w r).2).2 _
      rw [h4]
      exact cw_listGo hr k _ _ _ h5
theorem cw_list {α : Type} {rd : List UInt8 → St → α × St} (hr : ∀ w, Cw (rd w)) : Cw (rdList rd) := fun s t h => by
  obtain ⟨h1, h2⟩ := cw_next s t h
  obtain ⟨h3, h4⟩ := hr (nextT t).1 _ _ h2
  unfold rdList
  rw [h1, h3]
  exact cw_listGo hr _ _ _ _ h4
theorem cw_colsGo (V : List Vr) : ∀ (k : Nat) (xs : List Int), Cw (colsGo V k xs)
  | 0, all => fun s t h => by
    unfold colsGo
    rcases h.take with ⟨h1, h2⟩ | ⟨w, r, q, h1, h2, h3⟩
    · rw [h1, h2]; exact ⟨rfl, h.fail 52⟩
    · rw [h1, h2]
      show (if w = [58] then (all, r) else (all, failT 47 r)).1 = (if w = [58] then (all, q) else (all, failT 47 q)).1 ∧ Eqw (if w = [58] then (all, r) else (all, failT 47 r)).2 (if w = [58] then (all, q) else (all, failT 47 q)).2
      split
      · exact ⟨rfl, h3⟩
      · exact ⟨rfl, h3.fail 47⟩
  | k + 1, all => fun s t h => by
    unfold colsGo
    rcases h.take with ⟨h1, h2⟩ | ⟨w, r, q, h1, h2, h3⟩
    · rw [h1, h2]; exact ⟨rfl, h.fail 52⟩
    · rw [h1, h2]
      obtain ⟨h4, h5⟩ := cw_known V w r q h3
      show (if w = [58] then (all, r) else colsGo V k (all ++ [(knownT V w r).1]) (knownT V w r).2).1 = (if w = [58] then (all, q) else colsGo V k (all ++ [(knownT V w q).1]) (knownT V w q).2).1 ∧ Eqw (if w = [58] then (all, r) else colsGo V k (all ++ [(knownT V w r).1]) (knownT V w r).2).2 (if w = [58] then (all, q) else colsGo V k (all ++ [(knownT V w q).1]) (knownT V w q).2).2
      split
      · exact ⟨rfl, h3⟩
      · rw [h4]
        exact cw_colsGo V k _ _ _ h5
theorem cw_cols (V : List Vr) : Cw (rdCols V) := fun s t h => by
  obtain ⟨h1, h2⟩ := cw_name V s t h
  unfold rdCols
  rw [h1]
  exact cw_colsGo V _ _ _ _ h2
theorem cw_rowGo : ∀ (k : Nat) (row : List Int), Cw (rowGo k row)
  | 0, row => fun s t h => ⟨rfl, h⟩
  | k + 1, row => fun s t h => by
    obtain ⟨h1, h2⟩ := cw_number s t h
    unfold rowGo
    rw [h1]
    exact cw_rowGo k _ _ _ h2
theorem cw_row (n : Nat) (w : List UInt8) : Cw (rdRow n w) := fun s t h => by
  obtain ⟨h1, h2⟩ := cw_value w s t h
  unfold rdRow
  rw [h1]
  exact cw_rowGo _ _ _ _ h2
theorem Eqw.must {s t : St} (h : Eqw s t) (w x : List UInt8) : Eqw (mustT w x s) (mustT w x t) := by unfold mustT; exact Eqw.ite h (h.fail 51)
theorem cw_rowsGo (n : Nat) : ∀ (k : Nat) (all : List (List Int)), Cw (rowsGo n k all)
  | 0, all => fun s t h => by
    unfold rowsGo
    rcases h.take with ⟨h1, h2⟩ | ⟨w, r, q, h1, h2, h3⟩
    · rw [h1, h2]; exact ⟨rfl, h⟩
    · rw [h1, h2]
      obtain ⟨h4, h5⟩ := cw_next _ _ (h3.must w [58])
      obtain ⟨h6, h7⟩ := cw_row n (nextT (mustT w [58] q)).1 _ _ (h5.fail 47)
      simp only [h4, h6]
      exact ⟨trivial, h7⟩
  | k + 1, all => fun s t h => by
    unfold rowsGo
    rcases h.take with ⟨h1, h2⟩ | ⟨w, r, q, h1, h2, h3⟩
    · rw [h1, h2]; exact ⟨rfl, h⟩
    · rw [h1, h2]
      obtain ⟨h4, h5⟩ := cw_next _ _ (h3.must w [58])
      obtain ⟨h6, h7⟩ := cw_row n (nextT (mustT w [58] q)).1 _ _ h5
      simp only [h4, h6]
      exact cw_rowsGo n k _ _ _ h7
theorem cw_rows (n : Nat) : Cw (rdRows n) := fun s t h => by
  obtain ⟨h1, h2⟩ := cw_next s t h
  obtain ⟨h3, h4⟩ := cw_row n (nextT t).1 _ _ h2
  unfold rdRows
  rw [h1, h3]
  exact cw_rowsGo n _ _ _ _ h4
theorem Eqw.end {s t : St} (h : Eqw s t) : Eqw (endT s) (endT t) := by
  unfold endT
  rcases h.take with ⟨h1, h2⟩ | ⟨w, r, q, h1, h2, h3⟩
  · rw [h1, h2]; exact h
  · rw [h1, h2]; exact h3.fail 57
theorem cw_form (V : List Vr) (k : Nat) : Cw (formT V k) := fun s t h => by
  unfold formT
  split
  · unfold fLin
    obtain ⟨h1, h2⟩ := cw_op s t h
    obtain ⟨h3, h4⟩ := cw_number _ _ h2
    obtain ⟨h5, h6⟩ := cw_list (cw_term V) _ _ h4
    simp only [h1, h3, h5]
    exact ⟨trivial, h6⟩
  split
  · unfold fNe
    obtain ⟨h1, h2⟩ := cw_name V s t h
    obtain ⟨h3, h4⟩ := cw_name V _ _ h2
    obtain ⟨h5, h6⟩ := cw_number _ _ h4
    simp only [h1, h3, h5]
    exact ⟨trivial, h6.end⟩
  split
  · unfold fAll
    obtain ⟨h1, h2⟩ := cw_list (cw_known V) s t h
    simp only [h1]
    exact ⟨trivial, h2⟩
  split
  · unfold fEl
    obtain ⟨h1, h2⟩ := cw_name V s t h
    obtain ⟨h3, h4⟩ := cw_name V _ _ h2
    obtain ⟨h5, h6⟩ := cw_list cw_value _ _ h4
    simp only [h1, h3, h5]
    exact ⟨trivial, h6⟩
  split
  · unfold fMax
    obtain ⟨h1, h2⟩ := cw_name V s t h
    obtain ⟨h3, h4⟩ := cw_list (cw_known V) _ _ h2
    simp only [h1, h3]
    exact ⟨trivial, h4⟩
  split
  · unfold fMax
    obtain ⟨h1, h2⟩ := cw_name V s t h
    obtain ⟨h3, h4⟩ := cw_list (cw_known V) _ _ h2
    simp only [h1, h3]
    exact ⟨trivial, h4⟩
  split
  · unfold fReif
    obtain ⟨h1, h2⟩ := cw_name V s t h
    obtain ⟨h3, h4⟩ := cw_next _ _ h2
    obtain ⟨h5, h6⟩ := cw_number _ _ (h4.must (nextT (nameT V t).2).1 [60, 61])
    obtain ⟨h7, h8⟩ := cw_list (cw_term V) _ _ h6
    simp only [h1, h3, h5, h7]
    exact ⟨trivial, h8⟩
  split
  · unfold fTable
    obtain ⟨h1, h2⟩ := cw_cols V s t h
    obtain ⟨h3, h4⟩ := cw_rows (rdCols V t).1.length _ _ h2
    simp only [h1, h3]
    exact ⟨trivial, h4⟩
  split
  · unfold fCount
    obtain ⟨h1, h2⟩ := cw_op s t h
    obtain ⟨h3, h4⟩ := cw_number _ _ h2
    obtain ⟨h5, h6⟩ := cw_number _ _ h4
    obtain ⟨h7, h8⟩ := cw_list (cw_known V) _ _ h6
    simp only [h1, h3, h5, h7]
    exact ⟨trivial, h8⟩
  split
  · unfold fVar
    obtain ⟨h1, h2⟩ := cw_new V s t h
    obtain ⟨h3, h4⟩ := cw_bounds _ _ h2
    simp only [h1, h3]
    exact ⟨trivial, h4.end⟩
  · unfold fGoal
    obtain ⟨h1, h2⟩ := cw_list (cw_term V) s t h
    simp only [h1]
    exact ⟨trivial, h2⟩
theorem cw_say (m : Mo) (w : List UInt8) : Cw (sayT m w) := fun s t h => by
  unfold sayT
  split
  · exact ⟨rfl, h.fail 51⟩
  · exact cw_form _ _ _ _ (h.fail _)
/-- A line is read by its words. -/
theorem read_words {l l' : List UInt8} (m : Mo) (h : words l = words l') : readT m l = readT m l' := by
  have he : Eqw (l, 0) (l', 0) := ⟨rfl, h⟩
  unfold readT
  rcases he.take with ⟨h1, h2⟩ | ⟨w, r, q, h1, h2, h3⟩
  · rw [h1, h2]
  · rw [h1, h2]
    obtain ⟨h4, h5⟩ := cw_say m w r q h3
    simp only [h4, h5.1]
end Go.Proofs.YthohnmplbjhjaaaGreatDoor

namespace Go.Proofs.YthohnmplbjhjaaaGreatDoor
open Md

def looseC (c : UInt8) : List UInt8 := if c = 10 then [32, 10, 35, 32, 120, 10, 32, 10] else if c = 32 ∨ c = 9 then [9, 32] else [c]
def looseB : List UInt8 → List UInt8
  | [] => []
  | c :: s => looseC c ++ looseB s
def looseT (s : List UInt8) : List UInt8 := [35, 10, 9, 10] ++ looseB s
/-- A line with more blanks. -/
def wide : List UInt8 → List UInt8
  | [] => []
  | c :: s => (if blk c = true then [9, 32] else [c]) ++ wide s
theorem wide_app : ∀ (l t : List UInt8), wide (l ++ t) = wide l ++ wide t
  | [], t => rfl
  | c :: l, t => by
    show _ ++ wide (l ++ t) = _ ++ wide l ++ wide t
    rw [wide_app l t, List.append_assoc]
theorem wide_words : ∀ (l cur tl : List UInt8), (∀ x ∈ tl, blk x = true) → wd (wide l ++ tl) cur = wd l cur
  | [], cur, [], _ => rfl
  | [], cur, c :: tl, h => by
    have h1 : blk c = true := h c (by simp)
    have h2 := wide_words [] [] tl (fun x hx => h x (by simp [hx]))
    have h2' : wd tl [] = [] := h2
    show wd (c :: tl) cur = wd [] cur
    simp only [wd, h1, if_true, h2']
  | c :: l, cur, tl, h => by
    by_cases hb : blk c = true
    · have h1 := wide_words l [] tl h
      show wd (((if blk c = true then [9, 32] else [c]) ++ wide l) ++ tl) cur = _
      rw [if_pos hb]
      show wd (9 :: 32 :: (wide l ++ tl)) cur = _
      have b1 : blk 9 = true := rfl
      have b2 : blk 32 = true := rfl
      simp only [wd, b1, b2, if_true, hb, h1]
    · have h1 := wide_words l (cur ++ [c]) tl h
      show wd (((if blk c = true then [9, 32] else [c]) ++ wide l) ++ tl) cur = _
      rw [if_neg hb]
      show wd (c :: (wide l ++ tl)) cur = _
      simp only [wd, if_neg hb, h1]
theorem lines_plain : ∀ (x s cur : List UInt8), (∀ c ∈ x, c ≠ 10) → linesT (x ++ s) cur = linesT s (cur ++ x)
  | [], s, cur, _ => by simp
  | c :: x, s, cur, h => by
    show (if c = 10 then _ else linesT (x ++ s) (cur ++ [c])) = _
    rw [if_neg (h c (by simp)), lines_plain x s _ (fun d hd => h d (by simp [hd]))]
    simp
theorem lines_eol (s cur : List UInt8) : linesT (10 :: s) cur = cur :: linesT s [] := by simp [linesT]
/-- What comes of a text's lines. -/
def tri (g : Mo × Option (Nat × Int)) : Mo × Option (Nat × Int) := (g.1, g.2.map fun p => (3 * p.1, p.2))
theorem go_quiet {l : List UInt8} {t : List (List UInt8)} {i : Nat} {m : Mo} (h : readT m l = (m, 0)) : goT (l :: t) i m = goT t (i + 1) m := by
  show (if (readT m l).2 = 0 then _ else _) = _
  rw [h]
  rfl
theorem loose_nl (t : List UInt8) : looseB (10 :: t) = [32, 10, 35, 32, 120, 10, 32, 10] ++ looseB t := rfl
theorem loose_bl {c : UInt8} (h : blk c = true) (t : List UInt8) : looseB (c :: t) = [9, 32] ++ looseB t ∧ c ≠ 10 ∧ wide [c] = [9, 32] := by
  have h2 : c = 32 ∨ c = 9 := by simpa [blk] using h
  refine ⟨?_, by rcases h2 with rfl | rfl <;> decide, by simp [wide, h]⟩
  show looseC c ++ _ = _
  rcases h2 with rfl | rfl <;> rfl
theorem loose_ch {c : UInt8} (h : ¬ blk c = true) (h1 : c ≠ 10) (t : List UInt8) : looseB (c :: t) = [c] ++ looseB t ∧ wide [c] = [c] := by
  have h2 : ¬ (c = 32 ∨ c = 9) := by simpa [blk] using h
  refine ⟨?_, by simp [wide, h]⟩
  show looseC c ++ _ = _
  unfold looseC
  rw [if_neg h1, if_neg h2]
theorem loose_step (t cur : List UInt8) : linesT (looseB (10 :: t)) (wide cur) = (wide cur ++ [32]) :: [35, 32, 120] :: [32] :: linesT (looseB t) [] := by
  rw [loose_nl, show [32, 10, 35, 32, 120, 10, 32, 10] ++ looseB t = [32] ++ (10 :: ([35, 32, 120] ++ (10 :: ([32] ++ (10 :: looseB t))))) from rfl]
  rw [lines_plain _ _ _ (by decide), lines_eol, lines_plain _ _ _ (by decide), lines_eol, lines_plain _ _ _ (by decide), lines_eol]
  rfl
theorem loose_go : ∀ (s cur : List UInt8) (i : Nat) (m : Mo), goT (linesT (looseB s) (wide cur)) (3 * i) m = tri (goT (linesT s cur) i m)
  | [], cur, i, m => by
    have h1 : readT m (wide cur) = readT m cur := read_words m (by have := wide_words cur [] [] (by simp); simpa using this)
    show (if (readT m (wide cur)).2 = 0 then ((readT m (wide cur)).1, none) else (m, some (3 * i, (readT m (wide cur)).2))) = tri (if (readT m cur).2 = 0 then ((readT m cur).1, none) else (m, some (i, (readT m cur).2)))
    rw [h1]
    split <;> rfl
  | c :: t, cur, i, m => by
    by_cases hb : blk c = true
    · obtain ⟨h1, h2, h3⟩ := loose_bl hb t
      rw [h1, lines_plain _ _ _ (by decide), ← h3, ← wide_app, loose_go t]
      show _ = tri (goT (if c = 10 then _ else linesT t (cur ++ [c])) i m)
      rw [if_neg h2]
    · by_cases hc : c = 10
      · subst hc
        have h1 : readT m (wide cur ++ [32]) = readT m cur := read_words m (wide_words cur [] [32] (by decide))
        rw [loose_step, lines_eol]
        show (if (readT m (wide cur ++ [32])).2 = 0 then goT _ (3 * i + 1) (readT m (wide cur ++ [32])).1 else (m, some (3 * i, (readT m (wide cur ++ [32])).2))) = tri (if (readT m cur).2 = 0 then goT (linesT t []) (i + 1) (readT m cur).1 else (m, some (i, (readT m cur).2)))
        rw [h1]
        split
        · rw [go_quiet (l := [35, 32, 120]) rfl, go_quiet (l := [32]) rfl]
          have := loose_go t [] (i + 1) (readT m cur).1
          rw [show 3 * i + 1 + 1 + 1 = 3 * (i + 1) by omega]
          exact this
        · rfl
      · obtain ⟨h1, h3⟩ := loose_ch hb hc t
        rw [h1, lines_plain _ _ _ (by simpa using hc)]
        have : wide cur ++ [c] = wide (cur ++ [c]) := by rw [wide_app, h3]
        rw [this, loose_go t]
        show _ = tri (goT (if c = 10 then _ else linesT t (cur ++ [c])) i m)
        rw [if_neg hc]
theorem loose_count : ∀ (s cur : List UInt8), (linesT (looseB s) (wide cur)).length + 2 = 3 * (linesT s cur).length
  | [], cur => rfl
  | c :: t, cur => by
    by_cases hb : blk c = true
    · obtain ⟨h1, h2, h3⟩ := loose_bl hb t
      rw [h1, lines_plain _ _ _ (by decide), ← h3, ← wide_app, loose_count t]
      show _ = 3 * (if c = 10 then _ else linesT t (cur ++ [c])).length
      rw [if_neg h2]
    · by_cases hc : c = 10
      · subst hc
        rw [loose_step, lines_eol]
        have := loose_count t []
        simp only [wide] at this
        simp only [List.length_cons]
        omega
      · obtain ⟨h1, h3⟩ := loose_ch hb hc t
        rw [h1, lines_plain _ _ _ (by simpa using hc)]
        have : wide cur ++ [c] = wide (cur ++ [c]) := by rw [wide_app, h3]
        rw [this, loose_count t]
        show _ = 3 * (if c = 10 then _ else linesT t (cur ++ [c])).length
        rw [if_neg hc]
theorem loose_lines (s : List UInt8) : linesT (looseT s) [] = [35] :: [9] :: linesT (looseB s) [] := by
  rw [show looseT s = [35] ++ (10 :: ([9] ++ (10 :: looseB s))) from rfl, lines_plain _ _ _ (by decide), lines_eol, lines_plain _ _ _ (by decide), lines_eol]
  rfl
/-- What Parse answers of the looser text. -/
theorem loose_parse {s : List UInt8} (hs : s.length ≤ 65536) (hl : (looseT s).length ≤ 65536) : parseT (looseT s) = ((parseT s).1, (3 * (parseT s).2.1, (parseT s).2.2)) := by
  have h1 := loose_go s [] 1 zm
  have h2 := loose_count s []
  simp only [wide] at h1 h2
  unfold parseT
  rw [if_neg (by omega), if_neg (by omega), loose_lines, go_quiet (l := [35]) rfl, go_quiet (l := [9]) rfl, show 1 + 1 + 1 = 3 * 1 from rfl, h1]
  obtain ⟨g, hg⟩ : ∃ g, goT (linesT s []) 1 zm = g := ⟨_, rfl⟩
  rw [hg]
  obtain ⟨m, o⟩ := g
  cases o with
  | some p => obtain ⟨i, e⟩ := p; simp [tri]
  | none =>
    simp only [tri, Option.map]
    split
    · simp only [List.length_cons]
      have : (((linesT (looseB s) []).length + 1 + 1 : Nat) : Int) = 3 * ((linesT s []).length : Int) := by omega
      rw [this]
    · rfl
end Go.Proofs.YthohnmplbjhjaaaGreatDoor
