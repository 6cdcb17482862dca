/-
  Put together: PbMath, PbGroup.
-/
import Derived.Below
namespace Go.Proofs.YtjffbndiecjkjaaGreatDoor
namespace Pm

/-- What a piece says of a variable: its coefficient, with the literal's sign. -/
def netP (p : Int × Int) (v : Nat) : Int := if p.2.natAbs = v then (if p.2 < 0 then -p.1 else p.1) else 0
def net : List (Int × Int) → Nat → Int
  | [], _ => 0
  | p :: l, v => netP p v + net l v
/-- The coefficients of literals below 0, together. -/
def negP (p : Int × Int) : Int := if p.2 < 0 then p.1 else 0
def neg : List (Int × Int) → Int
  | [] => 0
  | p :: l => negP p + neg l

theorem net_append (a b : List (Int × Int)) (v : Nat) : net (a ++ b) v = net a v + net b v := by
  induction a with
  | nil => simp [net]
  | cons p a ih => simp only [List.cons_append, net, ih]; omega
theorem neg_append (a b : List (Int × Int)) : neg (a ++ b) = neg a + neg b := by
  induction a with
  | nil => simp [neg]
  | cons p a ih => simp only [List.cons_append, neg, ih]; omega
theorem net_perm {a b : List (Int × Int)} (h : a.Perm b) (v : Nat) : net a v = net b v := by
  induction h with
  | nil => rfl
  | cons p _ ih => simp only [net, ih]
  | swap p q l => simp only [net]; omega
  | trans _ _ h1 h2 => exact h1.trans h2
theorem neg_perm {a b : List (Int × Int)} (h : a.Perm b) : neg a = neg b := by
  induction h with
  | nil => rfl
  | cons p _ ih => simp only [neg, ih]
  | swap p q l => simp only [neg]; omega
  | trans _ _ h1 h2 => exact h1.trans h2

/-- Rising by variable, none twice. -/
def Rises : List (Int × Int) → Prop
  | [] => True
  | [_] => True
  | p :: q :: l => p.2.natAbs < q.2.natAbs ∧ Rises (q :: l)

theorem Rises.tail {p : Int × Int} {l : List (Int × Int)} (h : Rises (p :: l)) : Rises l := by
  cases l with
  | nil => trivial
  | cons q l => exact h.2
theorem Rises.above {p : Int × Int} {l : List (Int × Int)} (h : Rises (p :: l)) : ∀ q ∈ l, p.2.natAbs < q.2.natAbs := by
  induction l generalizing p with
  | nil => intro q hq; cases hq
  | cons r l ih =>
    intro q hq
    rcases List.mem_cons.1 hq with rfl | hq
    · exact h.1
    · exact Nat.lt_trans h.1 (ih h.2 q hq)
theorem Rises.snoc {l : List (Int × Int)} {p : Int × Int} (h : Rises l) (hl : ∀ q ∈ l, q.2.natAbs < p.2.natAbs) : Rises (l ++ [p]) := by
  induction l with
  | nil => trivial
  | cons q l ih =>
    cases l with
    | nil => exact ⟨hl q (by simp), trivial⟩
    | cons r l =>
      refine ⟨h.1, ih h.2 (fun q hq => hl q (List.mem_cons_of_mem _ hq))⟩

/-- Pieces of a row: coefficients above 0, literals that are no 0. -/
def Sound (l : List (Int × Int)) : Prop := ∀ p ∈ l, 0 < p.1 ∧ p.2 ≠ 0

theorem net_none {l : List (Int × Int)} {v : Nat} (h : ∀ q ∈ l, q.2.natAbs ≠ v) : net l v = 0 := by
  induction l with
  | nil => rfl
  | cons p l ih =>
    simp only [net, netP, if_neg (h p (by simp)), ih (fun q hq => h q (List.mem_cons_of_mem _ hq))]
    rfl
theorem net_head {p : Int × Int} {l : List (Int × Int)} (h : Rises (p :: l)) : net (p :: l) p.2.natAbs = if p.2 < 0 then -p.1 else p.1 := by
  simp only [net, netP, if_true]
  rw [net_none (fun q hq => Nat.ne_of_gt (h.above q hq))]
  omega

/-- A row in the one form is told by what it says of each variable. -/
theorem uniq {a b : List (Int × Int)} (ha : Rises a) (hb : Rises b) (sa : Sound a) (sb : Sound b) (h : ∀ v, net a v = net b v) : a = b := by
  induction a generalizing b with
  | nil =>
    cases b with
    | nil => rfl
    | cons q b =>
      exfalso
      have h1 := h q.2.natAbs
      rw [net_head hb] at h1
      have h2 := (sb q (by simp)).1
      simp only [net] at h1
      split at h1 <;> omega
  | cons p a ih =>
    have hp := sa p (by simp)
    cases b with
    | nil =>
      exfalso
      have h1 := h p.2.natAbs
      rw [net_head ha] at h1
      simp only [net] at h1
      split at h1 <;> omega
    | cons q b =>
      have hq := sb q (by simp)
      have hv : p.2.natAbs = q.2.natAbs := by
        rcases Nat.lt_trichotomy p.2.natAbs q.2.natAbs with hlt | he | hlt
        · exfalso
          have h1 := h p.2.natAbs
          rw [net_head ha, net_none (l := q :: b) (fun r hr => by
            rcases List.mem_cons.1 hr with rfl | hr
            · omega
            · have := hb.above r hr; omega)] at h1
          split at h1 <;> omega
        · exact he
        · exfalso
          have h1 := h q.2.natAbs
          rw [net_head hb, net_none (l := p :: a) (fun r hr => by
            rcases List.mem_cons.1 hr with rfl | hr
            · omega
            · have := ha.above r hr; omega)] at h1
          split at h1 <;> omega
      have h1 := h p.2.natAbs
      rw [net_head ha, hv, net_head hb] at h1
      have hpq : p = q := by
        have h2 : p.1 = q.1 ∧ p.2 = q.2 := by
          split at h1 <;> split at h1 <;> omega
        exact Prod.ext h2.1 h2.2
      subst hpq
      rw [ih ha.tail hb.tail (fun r hr => sa r (List.mem_cons_of_mem _ hr)) (fun r hr => sb r (List.mem_cons_of_mem _ hr)) (fun v => by
        have := h v
        simp only [net] at this
        omega)]

/-- Pieces and a degree, of any sign, brought to the one form. -/
structure IsForm (ps : List (Int × Int)) (d : Int) (K : List (Int × Int)) (D : Int) : Prop where
  rises : Rises K
  sound : Sound K
  net : ∀ v, net K v = net ps v
  deg : D = max 0 (d - neg ps + neg K)

theorem IsForm.one {ps : List (Int × Int)} {d : Int} {K K' : List (Int × Int)} {D D' : Int} (h : IsForm ps d K D) (h' : IsForm ps d K' D') : K = K' ∧ D = D' := by
  have hK : K = K' := uniq h.rises h'.rises h.sound h'.sound (fun v => (h.net v).trans (h'.net v).symm)
  subst hK
  exact ⟨rfl, by rw [h.deg, h'.deg]⟩
theorem IsForm.perm {ps qs : List (Int × Int)} {d : Int} {K : List (Int × Int)} {D : Int} (hp : ps.Perm qs) (h : IsForm ps d K D) : IsForm qs d K D :=
  ⟨h.rises, h.sound, fun v => (h.net v).trans (net_perm hp v), by rw [h.deg, neg_perm hp]⟩

/-- A piece with a coefficient below 0, turned round. -/
def turn (p : Int × Int) : Int × Int := if p.1 < 0 then (-p.1, -p.2) else p
def turnD (p : Int × Int) : Int := if p.1 < 0 then -p.1 else 0
theorem net_turn (p : Int × Int) (hp : p.2 ≠ 0) (v : Nat) : netP (turn p) v = netP p v := by
  unfold turn
  split
  · unfold netP
    simp only [Int.natAbs_neg]
    split
    · by_cases h : p.2 < 0
      · rw [if_pos h, if_neg (by omega)]
      · rw [if_neg h, if_pos (by omega)]; omega
    · rfl
  · rfl
theorem neg_turn (p : Int × Int) (hp : p.2 ≠ 0) : turnD p - negP (turn p) = - negP p := by
  unfold turn turnD
  split
  · unfold negP
    by_cases h : p.2 < 0
    · rw [if_pos h, if_neg (by simp; omega)]; omega
    · rw [if_neg h, if_pos (by simp; omega)]; simp
  · unfold negP; split <;> omega
end Pm
end Go.Proofs.YtjffbndiecjkjaaGreatDoor

namespace Go.Proofs.YtjffbndiecjkjaaGreatDoor
namespace Pm

/-- The coefficients of literals above 0, together. -/
def pos : List (Int × Int) → Int
  | [] => 0
  | p :: l => (if p.2 < 0 then 0 else p.1) + pos l
theorem pos_append (a b : List (Int × Int)) : pos (a ++ b) = pos a + pos b := by
  induction a with
  | nil => simp [pos]
  | cons p a ih => simp only [List.cons_append, pos, ih]; omega
theorem net_same {g : List (Int × Int)} {v : Nat} (h : ∀ p ∈ g, p.2.natAbs = v) (u : Nat) : net g u = if u = v then pos g - neg g else 0 := by
  induction g with
  | nil => simp [net, pos, neg]
  | cons p g ih =>
    have hp := h p (by simp)
    have := ih (fun q hq => h q (List.mem_cons_of_mem _ hq))
    simp only [net, netP, hp, pos, neg, negP, this]
    by_cases hu : u = v
    · rw [if_pos hu.symm, if_pos hu, if_pos hu]; split <;> omega
    · rw [if_neg (fun h => hu h.symm), if_neg hu, if_neg hu]; rfl

/-- What is made of the pieces of one variable: a piece, and what comes always. -/
def one (g : List (Int × Int)) (v : Nat) : Int × Int := if pos g < neg g then (neg g - pos g, -(v : Int)) else (pos g - neg g, (v : Int))
def always (g : List (Int × Int)) : Int := if pos g < neg g then pos g else neg g

/-- Pieces in the order of their variables, the first of them made to a row. -/
structure Upto (ps : List (Int × Int)) (K : List (Int × Int)) (S : Int) : Prop where
  rises : Rises K
  sound : Sound K
  net : ∀ v, net K v = net ps v
  sure : S = neg ps - neg K
  from_ : ∀ q ∈ K, ∃ p ∈ ps, p.2.natAbs = q.2.natAbs

theorem Upto.start : Upto [] [] 0 := ⟨trivial, (fun _ h => by cases h), (fun _ => rfl), rfl, (fun _ h => by cases h)⟩
theorem Upto.next {ps K : List (Int × Int)} {S : Int} {g : List (Int × Int)} {v : Nat} (h : Upto ps K S) (hv : 0 < v) (hg : ∀ p ∈ g, p.2.natAbs = v) (hne : g ≠ []) (hps : ∀ p ∈ ps, p.2.natAbs < v) :
    Upto (ps ++ g) (if 0 < (one g v).1 then K ++ [one g v] else K) (S + always g) := by
  have hn := net_same hg
  have habs : (one g v).2.natAbs = v := by unfold one; split <;> simp
  have hnet1 : ∀ u, Pm.net [one g v] u = if u = v then pos g - neg g else 0 := by
    intro u
    simp only [Pm.net, netP, habs]
    by_cases hu : u = v
    · rw [if_pos hu.symm, if_pos hu]
      unfold one
      by_cases hlt : pos g < neg g
      · rw [if_pos hlt]; simp only; rw [if_pos (by omega)]; omega
      · rw [if_neg hlt]; simp only; rw [if_neg (by omega)]; omega
    · rw [if_neg (fun h => hu h.symm), if_neg hu]; rfl
  have hneg1 : neg [one g v] = if pos g < neg g then neg g - pos g else 0 := by
    simp only [neg, negP]
    unfold one
    by_cases hlt : pos g < neg g
    · rw [if_pos hlt, if_pos hlt]; simp only; rw [if_pos (by omega)]; omega
    · rw [if_neg hlt, if_neg hlt]; simp only; rw [if_neg (by omega)]; rfl
  have hbelow : ∀ q ∈ K, q.2.natAbs < v := fun q hq => by
    obtain ⟨p, hp, he⟩ := h.from_ q hq
    have := hps p hp
    omega
  obtain ⟨p0, hp0⟩ : ∃ p, p ∈ g := List.exists_mem_of_ne_nil g hne
  by_cases hc : 0 < (one g v).1
  · rw [if_pos hc]
    refine ⟨h.rises.snoc (fun q hq => by rw [habs]; exact hbelow q hq), ?_, ?_, ?_, ?_⟩
    · intro q hq
      rcases List.mem_append.1 hq with hq | hq
      · exact h.sound q hq
      · rw [List.mem_singleton.1 hq]
        exact ⟨hc, fun h0 => by rw [h0] at habs; simp at habs; omega⟩
    · intro u
      rw [net_append, net_append, h.net u, hnet1 u, hn u]
    · rw [neg_append, neg_append, hneg1, h.sure]
      unfold always
      split <;> omega
    · intro q hq
      rcases List.mem_append.1 hq with hq | hq
      · obtain ⟨p, hp, he⟩ := h.from_ q hq
        exact ⟨p, List.mem_append_left _ hp, he⟩
      · rw [List.mem_singleton.1 hq]
        exact ⟨p0, List.mem_append_right _ hp0, by rw [habs]; exact hg p0 hp0⟩
  · rw [if_neg hc]
    have heq : pos g = neg g := by
      unfold one at hc
      by_cases hlt : pos g < neg g
      · rw [if_pos hlt] at hc; simp only at hc; omega
      · rw [if_neg hlt] at hc; simp only at hc; omega
    refine ⟨h.rises, h.sound, ?_, ?_, ?_⟩
    · intro u
      rw [net_append, h.net u, hn u, heq]
      split <;> omega
    · rw [neg_append, h.sure]
      unfold always
      rw [if_neg (by omega)]; omega
    · intro q hq
      obtain ⟨p, hp, he⟩ := h.from_ q hq
      exact ⟨p, List.mem_append_left _ hp, he⟩
theorem Upto.done {ps K : List (Int × Int)} {S d : Int} (h : Upto ps K S) : IsForm ps d K (max 0 (d - S)) :=
  ⟨h.rises, h.sound, h.net, by rw [h.sure]; congr 1; omega⟩
end Pm
end Go.Proofs.YtjffbndiecjkjaaGreatDoor
