/-
  Put together: TpMath, TrMath.
-/
import Derived.Test.YthohnmplbjhjaaaGreatDoorJ03
import Derived.Lib.ItoaLen
namespace Md
open Go.Lib (itoa)

/-- A variable's name. -/
def nm (l : List Vr) (x : Int) : List UInt8 := (varAt l x).name.data.toList
def namesT (l : List Vr) (xs : List Int) : List UInt8 := xs.flatMap fun x => 32 :: nm l x
def numsT (xs : List Int) : List UInt8 := xs.flatMap fun n => 32 :: itoa n
def sumT (l : List Vr) (t : List (Int × Int)) : List UInt8 := t.flatMap fun t => 32 :: (itoa t.1 ++ 32 :: nm l t.2)
def rowsT (r : List (List Int)) : List UInt8 := r.flatMap fun r => 32 :: 58 :: numsT r
def opT (op : Int) : List UInt8 := if op = 1 then [60, 61] else if op = 2 then [61] else if op = 3 then [62, 61] else []
/-- What stands behind a constraint's word. -/
def restT (l : List Vr) (c : Cn) : List UInt8 :=
  if c.kind = 1 then 32 :: opT c.op ++ (32 :: itoa c.k ++ sumT l c.terms)
  else if c.kind = 2 then 32 :: nm l c.x ++ (32 :: nm l c.y ++ 32 :: itoa c.k)
  else if c.kind = 3 then namesT l c.xs
  else if c.kind = 4 then 32 :: nm l c.x ++ (32 :: nm l c.y ++ numsT c.table)
  else if c.kind = 5 ∨ c.kind = 6 then 32 :: nm l c.y ++ namesT l c.xs
  else if c.kind = 7 then 32 :: nm l c.x ++ (32 :: 60 :: 61 :: (32 :: itoa c.k ++ sumT l c.terms))
  else if c.kind = 8 then namesT l c.xs ++ rowsT c.rows
  else 32 :: opT c.op ++ (32 :: itoa c.k ++ (32 :: itoa c.v ++ namesT l c.xs))
def wordT (k : Int) : List UInt8 :=
  if k = 1 then [108, 105, 110] else if k = 2 then [110, 101] else if k = 3 then [97, 108, 108, 100, 105, 102, 102] else if k = 4 then [101, 108, 101, 109, 101, 110, 116]
  else if k = 5 then [109, 97, 120] else if k = 6 then [109, 105, 110] else if k = 7 then [114, 101, 105, 102] else if k = 8 then [116, 97, 98, 108, 101] else [99, 111, 117, 110, 116]
def conT (l : List Vr) (c : Cn) : List UInt8 := wordT c.kind ++ restT l c
def varT (v : Vr) : List UInt8 := 118 :: 97 :: 114 :: 32 :: (v.name.data.toList ++ (32 :: itoa v.lo ++ 32 :: itoa v.hi))
def varsT (l : List Vr) : List UInt8 := l.flatMap fun v => varT v ++ [10]
def consT (l : List Vr) (c : List Cn) : List UInt8 := c.flatMap fun c => conT l c ++ [10]
def goalT (m : Mo) : List UInt8 := if m.has then 109 :: 105 :: 110 :: 105 :: 109 :: 105 :: 122 :: 101 :: (sumT m.vars m.goal ++ [10]) else []
/-- The text. -/
def textT (m : Mo) : List UInt8 := varsT m.vars ++ consT m.vars m.cons ++ goalT m
/-- What Print answers. -/
def print (m : Mo) : List UInt8 × Int := if (check m).2 = 0 then (if 65536 < (textT m).length then ([], 50) else (textT m, 0)) else ([], (check m).2)

theorem flatMap_take {α β : Type} (f : α → List β) (l : List α) (k : Nat) (h : k < l.length) : (l.take (k + 1)).flatMap f = (l.take k).flatMap f ++ f l[k] := by
  rw [List.take_succ_eq_append_getElem h, List.flatMap_append]
  simp
theorem flatMap_len {α β : Type} (f : α → List β) (n : Nat) : ∀ (l : List α), (∀ x ∈ l, (f x).length ≤ n) → (l.flatMap f).length ≤ n * l.length
  | [], _ => by simp
  | x :: l, h => by
    have h1 := h x (by simp)
    have h2 := flatMap_len f n l (fun y hy => h y (by simp [hy]))
    rw [List.flatMap_cons, List.length_append, List.length_cons, Nat.mul_succ]
    omega
theorem flatMap_take_len {α β : Type} (f : α → List β) (n : Nat) (l : List α) (k : Nat) (h : ∀ x ∈ l, (f x).length ≤ n) : ((l.take k).flatMap f).length ≤ n * l.length :=
  Nat.le_trans (flatMap_len f n (l.take k) (fun x hx => h x (List.mem_of_mem_take hx))) (Nat.mul_le_mul_left n (by rw [List.length_take]; omega))
theorem itoa_len {n : Int} (h : -1000000000 ≤ n ∧ n ≤ 1000000000) : (itoa n).length ≤ 21 := Go.Lib.itoa_length_le n (by omega) (by omega)
theorem name_len {s : List UInt8} (h : nameB s = true) : s.length ≤ 16 := by
  simp [nameB] at h
  omega
end Md

namespace Go.Proofs.YthohnmplbjhjaaaGreatDoor
open Md

def txtOf (l : List UInt8) : ByteArray := ⟨l.toArray⟩
/-- Blanks. -/
def blk (c : UInt8) : Bool := c == 32 || c == 9
/-- How long the first word is. -/
def wlen (l : List UInt8) : Nat := (l.takeWhile fun c => !blk c).length
theorem wlen_le (l : List UInt8) : wlen l ≤ l.length := (List.takeWhile_sublist _).length_le

/-- What is left of a line, and its fault (0: none). -/
abbrev St := List UInt8 × Int
def takeT (s : St) : Option (List UInt8 × St) :=
  if s.2 = 0 ∧ s.1.dropWhile blk ≠ [] then some ((s.1.dropWhile blk).take (wlen (s.1.dropWhile blk)), ((s.1.dropWhile blk).drop (wlen (s.1.dropWhile blk)), 0)) else none
def failT (e : Int) (s : St) : St := if s.2 = 0 then (s.1, e) else s
def nextT (s : St) : List UInt8 × St := match takeT s with
  | some p => p
  | none => ([], failT 52 s)
def endT (s : St) : St := match takeT s with
  | some p => failT 57 p.2
  | none => s
def mustT (w x : List UInt8) (s : St) : St := if w = x then s else failT 51 s
def placeT (V : List Vr) (w : List UInt8) : Int := match V.findIdx? (fun v => v.name.data.toList == w) with
  | some i => (i : Int)
  | none => -1
def knownT (V : List Vr) (w : List UInt8) (s : St) : Int × St :=
  (placeT V w, if placeT V w < 0 then failT 56 (if nameB w = true then s else failT 54 s) else (if nameB w = true then s else failT 54 s))
def nameT (V : List Vr) (s : St) : Int × St := knownT V (nextT s).1 (nextT s).2
def newT (V : List Vr) (s : St) : List UInt8 × St :=
  ((nextT s).1, if 0 ≤ placeT V (nextT s).1 then failT 55 (if nameB (nextT s).1 = true then (nextT s).2 else failT 54 (nextT s).2) else (if nameB (nextT s).1 = true then (nextT s).2 else failT 54 (nextT s).2))
def opS (w : List UInt8) : Int := if w = [60, 61] then 1 else if w = [61] then 2 else if w = [62, 61] then 3 else 0
def rdOp (s : St) : Int × St := (opS (nextT s).1, if opS (nextT s).1 = 0 then failT 51 (nextT s).2 else (nextT s).2)
def digT (c : UInt8) : Bool := decide (48 ≤ c.toNat ∧ c.toNat ≤ 57)
def numT (d : List UInt8) : Int := d.foldl (fun n c => min (10 * n + ((c.toNat : Int) - 48)) 1000000001) 0
def wholeT (w : List UInt8) : Int × Bool :=
  let d := if w.headD 0 = 45 then w.drop 1 else w
  if d = [] ∨ (d.headD 0 = 48 ∧ w ≠ [48]) then (0, false) else if d.all digT = true then (if w.headD 0 = 45 then -(numT d) else numT d, true) else (0, false)
def rdWhole (w : List UInt8) (s : St) : Int × St := ((wholeT w).1, if (wholeT w).2 = true then s else failT 53 s)
def rdValue (w : List UInt8) (s : St) : Int × St := ((rdWhole w s).1, if (rdWhole w s).1 < -1000000000 ∨ 1000000000 < (rdWhole w s).1 then failT 46 (rdWhole w s).2 else (rdWhole w s).2)
def rdNumber (s : St) : Int × St := rdValue (nextT s).1 (nextT s).2
def rdLo (s : St) : Int × St := let a := rdWhole (nextT s).1 (nextT s).2; (a.1, if boundsB a.1 a.1 = true then a.2 else failT 42 a.2)
def rdHi (lo : Int) (s : St) : Int × St := let a := rdWhole (nextT s).1 (nextT s).2; (a.1, if boundsB lo a.1 = true then a.2 else failT 42 a.2)
def rdBounds (s : St) : (Int × Int) × St := (((rdLo s).1, (rdHi (rdLo s).1 (rdLo s).2).1), (rdHi (rdLo s).1 (rdLo s).2).2)
def cfT (c : Int) (s : St) : St := if c = 0 ∨ c < -1000000 ∨ 1000000 < c then failT 45 s else s
def rdTerm (V : List Vr) (w : List UInt8) (s : St) : (Int × Int) × St :=
  (((rdWhole w s).1, (nameT V (cfT (rdWhole w s).1 (rdWhole w s).2)).1), (nameT V (cfT (rdWhole w s).1 (rdWhole w s).2)).2)
def listGo {α : Type} (rd : List UInt8 → St → α × St) : Nat → List α → St → List α × St
  | 0, all, s => (match takeT s with
    | none => (all, s)
    | some p => (all, failT 47 p.2))
  | k + 1, all, s => (match takeT s with
    | none => (all, s)
    | some p => listGo rd k (all ++ [(rd p.1 p.2).1]) (rd p.1 p.2).2)
def rdList {α : Type} (rd : List UInt8 → St → α × St) (s : St) : List α × St := listGo rd 63 [(rd (nextT s).1 (nextT s).2).1] (rd (nextT s).1 (nextT s).2).2
def colsGo (V : List Vr) : Nat → List Int → St → List Int × St
  | 0, xs, s => (match takeT s with
    | none => (xs, failT 52 s)
    | some p => if p.1 = [58] then (xs, p.2) else (xs, failT 47 p.2))
  | k + 1, xs, s => (match takeT s with
    | none => (xs, failT 52 s)
    | some p => if p.1 = [58] then (xs, p.2) else colsGo V k (xs ++ [(knownT V p.1 p.2).1]) (knownT V p.1 p.2).2)
def rdCols (V : List Vr) (s : St) : List Int × St := colsGo V 7 [(nameT V s).1] (nameT V s).2
def rowGo : Nat → List Int → St → List Int × St
  | 0, row, s => (row, s)
  | k + 1, row, s => rowGo k (row ++ [(rdNumber s).1]) (rdNumber s).2
def rdRow (n : Nat) (w : List UInt8) (s : St) : List Int × St := rowGo (n - 1) [(rdValue w s).1] (rdValue w s).2
def rowsGo (n : Nat) : Nat → List (List Int) → St → List (List Int) × St
  | 0, all, s => (match takeT s with
    | none => (all, s)
    | some p => let q := nextT (mustT p.1 [58] p.2); let r := rdRow n q.1 (failT 47 q.2); (all ++ [r.1], r.2))
  | k + 1, all, s => (match takeT s with
    | none => (all, s)
    | some p => let q := nextT (mustT p.1 [58] p.2); let r := rdRow n q.1 q.2; rowsGo n k (all ++ [r.1]) r.2)
def rdRows (n : Nat) (s : St) : List (List Int) × St := rowsGo n 63 [(rdRow n (nextT s).1 (nextT s).2).1] (rdRow n (nextT s).1 (nextT s).2).2

/-- What a line says: a variable, a constraint (or, as terms, the goal). -/
structure Sy where
  v : Vr
  c : Cn
def zv : Vr := ⟨⟨#[]⟩, 0, 0⟩
def zc (k : Int) : Cn := ⟨k, 0, [], 0, 0, 0, 0, [], [], []⟩
def zm : Mo := ⟨[], [], false, []⟩
def kindW (w : List UInt8) : Nat :=
  if w = [108, 105, 110] then 1 else if w = [110, 101] then 2 else if w = [97, 108, 108, 100, 105, 102, 102] then 3 else if w = [101, 108, 101, 109, 101, 110, 116] then 4 else if w = [109, 97, 120] then 5 else if w = [109, 105, 110] then 6
  else if w = [114, 101, 105, 102] then 7 else if w = [116, 97, 98, 108, 101] then 8 else if w = [99, 111, 117, 110, 116] then 9 else if w = [118, 97, 114] then 10 else if w = [109, 105, 110, 105, 109, 105, 122, 101] then 11 else 0
def oneMoreT (k : Nat) (m : Mo) : Int := if k = 10 ∧ m.vars.length = 32 then 40 else if k = 11 ∧ m.has = true then 58 else if k ≤ 9 ∧ m.cons.length = 64 then 49 else 0
def fVar (V : List Vr) (s : St) : Sy × St := let n := newT V s; let b := rdBounds n.2; (⟨⟨txtOf n.1, b.1.1, b.1.2⟩, zc 10⟩, endT b.2)
def fLin (V : List Vr) (s : St) : Sy × St := let o := rdOp s; let n := rdNumber o.2; let t := rdList (rdTerm V) n.2; (⟨zv, ⟨1, o.1, t.1, n.1, 0, 0, 0, [], [], []⟩⟩, t.2)
def fNe (V : List Vr) (s : St) : Sy × St := let x := nameT V s; let y := nameT V x.2; let n := rdNumber y.2; (⟨zv, ⟨2, 0, [], n.1, 0, x.1, y.1, [], [], []⟩⟩, endT n.2)
def fAll (V : List Vr) (s : St) : Sy × St := let l := rdList (knownT V) s; (⟨zv, ⟨3, 0, [], 0, 0, 0, 0, l.1, [], []⟩⟩, l.2)
def fEl (V : List Vr) (s : St) : Sy × St := let x := nameT V s; let y := nameT V x.2; let l := rdList rdValue y.2; (⟨zv, ⟨4, 0, [], 0, 0, x.1, y.1, [], l.1, []⟩⟩, l.2)
def fMax (V : List Vr) (k : Int) (s : St) : Sy × St := let y := nameT V s; let l := rdList (knownT V) y.2; (⟨zv, ⟨k, 0, [], 0, 0, 0, y.1, l.1, [], []⟩⟩, l.2)
def fReif (V : List Vr) (s : St) : Sy × St := let x := nameT V s; let p := nextT x.2; let n := rdNumber (mustT p.1 [60, 61] p.2); let t := rdList (rdTerm V) n.2; (⟨zv, ⟨7, 0, t.1, n.1, 0, x.1, 0, [], [], []⟩⟩, t.2)
def fTable (V : List Vr) (s : St) : Sy × St := let xs := rdCols V s; let r := rdRows xs.1.length xs.2; (⟨zv, ⟨8, 0, [], 0, 0, 0, 0, xs.1, [], r.1⟩⟩, r.2)
def fCount (V : List Vr) (s : St) : Sy × St := let o := rdOp s; let k := rdNumber o.2; let v := rdNumber k.2; let l := rdList (knownT V) v.2; (⟨zv, ⟨9, o.1, [], k.1, v.1, 0, 0, l.1, [], []⟩⟩, l.2)
def fGoal (V : List Vr) (s : St) : Sy × St := let t := rdList (rdTerm V) s; (⟨zv, ⟨11, 0, t.1, 0, 0, 0, 0, [], [], []⟩⟩, t.2)
def formT (V : List Vr) (k : Nat) (s : St) : Sy × St :=
  if k = 1 then fLin V s else if k = 2 then fNe V s else if k = 3 then fAll V s else if k = 4 then fEl V s else if k = 5 then fMax V 5 s else if k = 6 then fMax V 6 s else if k = 7 then fReif V s else if k = 8 then fTable V s else if k = 9 then fCount V s else if k = 10 then fVar V s else fGoal V s
def sayT (m : Mo) (w : List UInt8) (s : St) : Sy × St := if kindW w = 0 then (⟨zv, zc 0⟩, failT 51 s) else formT m.vars (kindW w) (failT (oneMoreT (kindW w) m) s)
def layT (m : Mo) (y : Sy) : Mo := if y.c.kind = 10 then { m with vars := m.vars ++ [y.v] } else if y.c.kind = 11 then { m with has := true, goal := y.c.terms } else { m with cons := m.cons ++ [y.c] }
def readT (m : Mo) (l : List UInt8) : Mo × Int := match takeT (l, 0) with
  | none => (m, 0)
  | some p => if p.1.headD 0 = 35 then (m, 0) else if (sayT m p.1 p.2).2.2 = 0 then (layT m (sayT m p.1 p.2).1, 0) else (m, (sayT m p.1 p.2).2.2)
/-- The lines of a text. -/
def linesT : List UInt8 → List UInt8 → List (List UInt8)
  | [], cur => [cur]
  | c :: t, cur => if c = 10 then cur :: linesT t [] else linesT t (cur ++ [c])
def goT : List (List UInt8) → Nat → Mo → Mo × Option (Nat × Int)
  | [], _, m => (m, none)
  | l :: t, i, m => if (readT m l).2 = 0 then goT t (i + 1) (readT m l).1 else (m, some (i, (readT m l).2))
/-- What Parse answers: the problem, the fault's line and its number (0: none). -/
def parseT (s : List UInt8) : Mo × (Int × Int) :=
  if 65536 < s.length then (zm, (1, 50)) else match goT (linesT s []) 1 zm with
  | (_, some (i, e)) => (zm, ((i : Int), e))
  | (m, none) => if m.vars = [] then (zm, (((linesT s []).length : Int), 59)) else (m, (0, 0))

theorem fail_on {e : Int} {s : St} (h : s.2 ≠ 0) : failT e s = s := by unfold failT; rw [if_neg h]
theorem fail_rest (e : Int) (s : St) : (failT e s).1 = s.1 := by unfold failT; split <;> rfl
theorem take_len {s : St} {p : List UInt8 × St} (h : takeT s = some p) : p.2.1.length < s.1.length ∧ p.1.length ≤ s.1.length ∧ p.2.2 = 0 ∧ s.2 = 0 ∧ p.1 ≠ [] := by
  unfold takeT at h
  split at h
  · rename_i h1
    injection h with h
    subst h
    have h2 := (List.dropWhile_sublist (p := blk) (l := s.1)).length_le
    obtain ⟨r, hr⟩ : ∃ r, s.1.dropWhile blk = r := ⟨_, rfl⟩
    rw [hr] at h1 h2 ⊢
    cases r with
    | nil => exact absurd rfl h1.2
    | cons c l =>
      have hc : blk c = false := by
        have := List.head?_dropWhile_not blk s.1
        rw [hr] at this
        simpa using this
      have hw : wlen (c :: l) = wlen l + 1 := by unfold wlen; rw [List.takeWhile_cons_of_pos (by simp [hc])]; rfl
      have hle := wlen_le l
      rw [hw]
      simp only [List.length_cons] at h2
      refine ⟨by simp; omega, by simp; omega, rfl, h1.1, by simp⟩
  · cases h
theorem take_bad {s : St} (h : s.2 ≠ 0) : takeT s = none := by unfold takeT; rw [if_neg (fun e => h e.1)]
end Go.Proofs.YthohnmplbjhjaaaGreatDoor
