/-
  The book of ints: a call's end; the book between two calls; Ints, Hold.
-/
import Derived.Test.YtchpapppkmnfnaaGreatDoorBiMarkW
namespace Go.Proofs.YtchpapppkmnfnaaGreatDoor
open Go.RowKit

/-- The book's box alone was written. -/
theorem Bg.grown {B P : Nat} {S : Nat → Prop} {w0 w w' : World} {turn deep turn' deep' : Int} {t t' : Tx} {L : List Rw} (h : Bg B S w0 w P turn deep t L) (hb : BkAt w' P false turn' deep' t') (hg : w.grownBy w' (some P)) : Bg B S w0 w' P turn' deep' t' L := by
  have hP : BS P L P := .inl rfl
  refine ⟨⟨hb, h.sg.its.keep fun x hx g hg' => hg.block g (h.sg.its.lt hx hg') fun e => ?_, h.sg.typ⟩, h.fr.next ⟨?_, Off.grown hg fun k hk => ?_⟩ (Grown.refl _ _ _), h.hS, h.hB⟩
  · exact h.sg.ne hx (by rw [hg', e])
  · exact (Below.refl B w).grown hg (Nat.le_trans h.hB h.size) fun k hk => by
      injection hk with hk
      exact hk ▸ h.lo P hP
  · injection hk with hk
    exact .inl hk.symm
theorem zip_oz (Q : Value → Value → List Int → Prop) : ∀ (al ts : List Value) (cs : List (List Int)), ts.length = al.length → cs.length = al.length → (∀ j (h1 : j < al.length) (h2 : j < ts.length) (h3 : j < cs.length), Q al[j] ts[j] cs[j]) → ∃ oz : List (Value × Value × List Int), oz.map (·.1) = al ∧ oz.map (·.2.1) = ts ∧ ∀ z ∈ oz, Q z.1 z.2.1 z.2.2
  | [], [], _, _, _, _ => ⟨[], rfl, rfl, by simp⟩
  | [], _ :: _, _, h, _, _ => by simp at h
  | _ :: _, [], _, h, _, _ => by simp at h
  | _ :: _, _ :: _, [], _, h, _ => by simp at h
  | a :: al, t :: ts, c :: cs, h1, h2, h => by
    obtain ⟨oz, e1, e2, e3⟩ := zip_oz Q al ts cs (by simpa using h1) (by simpa using h2) fun j j1 j2 j3 => h (j + 1) (by simpa using j1) (by simpa using j2) (by simpa using j3)
    refine ⟨(a, t, c) :: oz, by simp [e1], by simp [e2], fun z hz => ?_⟩
    rcases List.mem_cons.1 hz with e | e
    · rw [e]; exact h 0 (by simp) (by simp) (by simp)
    · exact e3 z e
/-- The rows of a book that has nothing to lay on. -/
def bl (vO vT vW vN vM vD : Value) (oz : List (Value × Value × List Int)) (q : List Wt) (Y : List Rw) : List Rw := (vO, 42, oz.map (·.1)) :: (vT, 42, oz.map (·.2.1)) :: (vW, 42, q.map (·.l)) :: (vN, 42, q.map (·.n)) :: (vM, 3, ic (q.map (·.m))) :: (vD, 3, ic (q.map (·.d))) :: (q.flatMap wrows ++ Y)
structure Of (oz : List (Value × Value × List Int)) (q : List Wt) (Y : List Rw) (n : Nat) : Prop where
  out : ∀ z ∈ oz, Vw Y z.1 z.2.2 ∧ Vw Y z.2.1 z.2.2 ∧ z.2.2.length ≤ 100000
  few : ∀ x ∈ q, x.c.length ≤ 90000 ∧ -1000000 ≤ x.m ∧ x.m ≤ 1000000
  len : oz.length + 2 * q.length ≤ 2 * n
theorem perm_marks (O T W N M D u v : Rw) (Q Y : List Rw) : (u :: v :: O :: T :: W :: N :: M :: D :: (Q ++ Y)).Perm (O :: T :: W :: N :: M :: D :: ((Q ++ [v, u]) ++ Y)) := by
  have h1 : (u :: v :: O :: T :: W :: N :: M :: D :: (Q ++ Y)).Perm ([v, u] ++ ([O, T, W, N, M, D] ++ Q ++ Y)) := by
    rw [List.append_assoc]; exact List.Perm.swap _ _ _
  have h2 := List.perm_append_comm_assoc [v, u] ([O, T, W, N, M, D] ++ Q) Y
  refine h1.trans (h2.trans ?_)
  simp
theorem perm_grow (O T F R : Rw) (A Y E C : List Rw) : (O :: T :: (A ++ (F :: R :: (C ++ (Y ++ E))))).Perm (Y ++ O :: T :: F :: R :: (E ++ (A ++ C))) := by
  have h1 : (O :: T :: (A ++ (F :: R :: (C ++ (Y ++ E))))).Perm ((O :: T :: (A ++ (F :: R :: C))) ++ (Y ++ E)) := by simp
  have h2 : ((O :: T :: (A ++ (F :: R :: C))) ++ (Y ++ E)).Perm (Y ++ (E ++ (O :: T :: (A ++ (F :: R :: C))))) := by
    rw [← List.append_assoc Y]; exact List.perm_append_comm
  refine h1.trans (h2.trans (List.Perm.append_left Y ?_))
  have h3 : (E ++ (O :: T :: (A ++ (F :: R :: C)))).Perm (E ++ (O :: T :: (F :: R :: (A ++ C)))) := by
    refine List.Perm.append_left E (List.Perm.cons _ (List.Perm.cons _ ?_))
    exact List.perm_append_comm_assoc A [F, R] C
  refine h3.trans ?_
  exact List.perm_append_comm_assoc E [O, T, F, R] (A ++ C)
theorem perm_end (O T : Rw) (A C K Y Z : List Rw) : (Y ++ O :: T :: ((K ++ Z) ++ (A ++ C))).Perm ((O :: T :: (A ++ (K ++ (Y ++ Z)))) ++ C) := by
  have h1 : (Y ++ O :: T :: ((K ++ Z) ++ (A ++ C))).Perm (O :: T :: (Y ++ ((K ++ Z) ++ (A ++ C)))) := List.perm_append_comm_assoc Y [O, T] _
  refine h1.trans (List.Perm.cons _ (List.Perm.cons _ ?_))
  have h2 : (Y ++ ((K ++ Z) ++ (A ++ C))).Perm (Y ++ (A ++ ((K ++ Z) ++ C))) := List.Perm.append_left Y (List.perm_append_comm_assoc (K ++ Z) A C)
  have h3 : (Y ++ (A ++ ((K ++ Z) ++ C))).Perm (A ++ (Y ++ ((K ++ Z) ++ C))) := List.perm_append_comm_assoc Y A _
  have h4 : (Y ++ ((K ++ Z) ++ C)).Perm (K ++ (Y ++ (Z ++ C))) := by
    rw [List.append_assoc]; exact List.perm_append_comm_assoc Y K _
  have h5 := h2.trans (h3.trans (List.Perm.append_left A h4))
  simpa [List.append_assoc] using h5
theorem row_ic {w : World} {v : Value} {c : List Int} (h : w.ownsRow 0 3 1 v (ic c).length (ic c)) : w.ownsRow 0 3 1 v c.length (ic c) := by simpa [ic] using h

/-- The rows of the lists that wait. -/
def aL (vW vN vM vD : Value) (q : List Wt) : List Rw := [(vW, 42, q.map (·.l)), (vN, 42, q.map (·.n)), (vM, 3, ic (q.map (·.m))), (vD, 3, ic (q.map (·.d)))]
theorem grow_of {B P n : Nat} {S : Nat → Prop} {w0 w : World} {sn vO vT vW vN vM vD : Value} {oz : List (Value × Value × List Int)} {q kp : List Wt} {Y Y0 Y2 C : List Rw} {fl : List (Value × List Int)} {fs : List Int} {ts gs ts2 : List Value} (hO : Of oz q Y n)
    (hb : Bg B S w0 w P n 0 ⟨vO, vT, vW, vN, .slice none 0 0, vM, vD, .slice none 0 0, sn⟩ (Y2 ++ (vO, 42, (oz.map (·.1) ++ fl.map (·.1)) ++ gs) :: (vT, 42, (oz.map (·.2.1) ++ ts) ++ ts2) :: ((kp.flatMap wrows ++ Y) ++ (aL vW vN vM vD kp ++ C))))
    (l1 : gs.length = fl.length) (l2 : ts2.length = fl.length) (hs : ∀ y ∈ Y0, y ∈ Y2) (hj : ∀ j (h1 : j < gs.length) (h2 : j < ts2.length) (h3 : j < fl.length) (h4 : j < fs.length), (gs[j], 3, ic (fl[j].2 ++ tl fs[j] 30)) ∈ Y2 ∧ (ts2[j], 3, ic (fl[j].2 ++ tl fs[j] 30)) ∈ Y2 ∧ Vw Y2 fl[j].1 fl[j].2)
    (e1 : ts.length = fl.length) (e2 : fs.length = fl.length) (e5 : fl.length + kp.length = q.length + 1) (hk : ∀ x ∈ kp, x.c.length ≤ 90000 ∧ -1000000 ≤ x.m ∧ x.m ≤ 1000000) (hf : ∀ p ∈ fl, p.2.length ≤ 90000) (ht : ∀ j (h1 : j < ts.length) (h2 : j < fl.length), (ts[j], 3, ic fl[j].2) ∈ Y0) :
    ∃ vO vT vW vN vM vD oz q Y, Bg B S w0 w P n 0 ⟨vO, vT, vW, vN, .slice none 0 0, vM, vD, .slice none 0 0, sn⟩ (bl vO vT vW vN vM vD oz q Y) ∧ Of oz q Y (n + 1) := by
  have in2 : ∀ y ∈ Y2, y ∈ Y2 ++ Y := fun y hy => List.mem_append_left _ hy
  have self : ∀ {l : Value} {c : List Int}, (l, 3, ic c) ∈ Y2 → Vw (Y2 ++ Y) l c := fun {l c} h => vw_self (row_ic (hb.row (x := (l, 3, ic c)) (List.mem_append_left _ h))) (in2 _ h)
  obtain ⟨o1, a1, a2, a3⟩ := zip_oz (fun a t c => Vw (Y2 ++ Y) a c ∧ Vw (Y2 ++ Y) t c ∧ c.length ≤ 100000) (fl.map (·.1)) ts (fl.map (·.2)) (by simpa using e1) (by simp) fun j h1 h2 h3 => by
    have h1' : j < fl.length := by simpa using h1
    simp only [List.getElem_map]
    exact ⟨(hj j (by omega) (by omega) h1' (by omega)).2.2.more in2, self (hs _ (ht j h2 h1')), Nat.le_trans (hf _ (List.getElem_mem h1')) (by decide)⟩
  obtain ⟨o2, b1, b2, b3⟩ := zip_oz (fun a t c => Vw (Y2 ++ Y) a c ∧ Vw (Y2 ++ Y) t c ∧ c.length ≤ 100000) gs ts2 ((fl.zip fs).map fun p => p.1.2 ++ tl p.2 30) (by omega) (by simp [e2, l1]) fun j h1 h2 h3 => by
    have h1' : j < fl.length := by omega
    have h4 : j < fs.length := by omega
    have ec : ((fl.zip fs).map fun p => p.1.2 ++ tl p.2 30)[j] = fl[j].2 ++ tl fs[j] 30 := by simp
    rw [ec]
    obtain ⟨x1, x2, _⟩ := hj j h1 h2 h1' h4
    refine ⟨self x1, self x2, ?_⟩
    have := hf _ (List.getElem_mem h1')
    rw [List.length_append, tl_len]
    omega
  have hb2 := bg_sub (bg_perm hb (perm_end _ _ _ _ _ _ _)) (List.sublist_append_left _ _)
  refine ⟨vO, vT, vW, vN, vM, vD, oz ++ o1 ++ o2, kp, Y2 ++ Y, ?_, ⟨fun z hz => ?_, hk, ?_⟩⟩
  · have g1 : (oz ++ o1 ++ o2).map (·.1) = (oz.map (·.1) ++ fl.map (·.1)) ++ gs := by rw [List.map_append, List.map_append, a1, b1]
    have g2 : (oz ++ o1 ++ o2).map (·.2.1) = (oz.map (·.2.1) ++ ts) ++ ts2 := by rw [List.map_append, List.map_append, a2, b2]
    unfold bl
    rw [g1, g2]
    exact hb2
  · rcases List.mem_append.1 hz with hz | hz
    · rcases List.mem_append.1 hz with hz | hz
      · obtain ⟨x1, x2, x3⟩ := hO.out z hz
        exact ⟨x1.more fun y hy => List.mem_append_right _ hy, x2.more fun y hy => List.mem_append_right _ hy, x3⟩
      · exact a3 z hz
    · exact b3 z hz
  · have c1 : o1.length = fl.length := by have := congrArg List.length a1; simpa using this
    have c2 : o2.length = fl.length := by have := congrArg List.length b1; simp at this; omega
    have := hO.len
    rw [List.length_append, List.length_append, c1, c2]
    omega

set_option maxHeartbeats 1000000 in
/-- A call's end. -/
theorem done_any {B P n : Nat} {S : Nat → Prop} {w0 : World} {vO vT vW vN vM vD u v : Value} {oz : List (Value × Value × List Int)} {q : List Wt} {Y : List Rw} {c : List Int} {mark d : Int} (w : World)
    (h : Bg B S w0 w P n 1 ⟨vO, vT, vW, vN, .slice none 0 0, vM, vD, .slice none 0 0, .int .i64 ((n : Int) + 1)⟩ ((u, 3, ic c) :: (v, 3, ic c) :: (vO, 42, oz.map (·.1)) :: (vT, 42, oz.map (·.2.1)) :: (vW, 42, q.map (·.l) ++ [v]) :: (vN, 42, q.map (·.n) ++ [u]) :: (vM, 3, ic (q.map (·.m)) ++ [.int .i64 mark]) :: (vD, 3, ic (q.map (·.d)) ++ [.int .i64 d]) :: (q.flatMap wrows ++ Y)))
    (hO : Of oz q Y n) (hn : n ≤ 100000) (hc : c.length ≤ 90000) (hm : -1000000 ≤ mark ∧ mark ≤ 1000000) :
    Calls Tryz.prog 43 #[.pointer (some ⟨P, 0, none⟩)] w fun e w' => e = .returned (.tuple #[]) ∧ ∃ vO vT vW vN vM vD oz q Y, Bg B S w0 w' P ((n : Int) + 1) 0 ⟨vO, vT, vW, vN, .slice none 0 0, vM, vD, .slice none 0 0, .int .i64 ((n : Int) + 1)⟩ (bl vO vT vW vN vM vD oz q Y) ∧ Of oz q Y (n + 1) := by
  have hlen := hO.len
  obtain ⟨q', hq'⟩ : ∃ q', q ++ [(⟨v, u, c, mark, d⟩ : Wt)] = q' := ⟨_, rfl⟩
  have hql : q'.length = q.length + 1 := by rw [← hq', List.length_append]; rfl
  have hqc : ∀ x ∈ q', x.c.length ≤ 90000 ∧ -1000000 ≤ x.m ∧ x.m ≤ 1000000 := fun x hx => by
    rw [← hq'] at hx
    rcases List.mem_append.1 hx with a | a
    · exact hO.few x a
    · rw [List.mem_singleton] at a
      rw [a]
      exact ⟨hc, hm.1, hm.2⟩
  have hb1 : Bg B S w0 w P n 1 ⟨vO, vT, vW, vN, .slice none 0 0, vM, vD, .slice none 0 0, .int .i64 ((n : Int) + 1)⟩ ((vO, 42, oz.map (·.1)) :: (vT, 42, oz.map (·.2.1)) :: (vW, 42, q'.map (·.l)) :: (vN, 42, q'.map (·.n)) :: (vM, 3, ic (q'.map (·.m))) :: (vD, 3, ic (q'.map (·.d))) :: (q'.flatMap wrows ++ Y)) := by
    have g1 : q'.map (·.l) = q.map (·.l) ++ [v] := by rw [← hq', List.map_append]; rfl
    have g2 : q'.map (·.n) = q.map (·.n) ++ [u] := by rw [← hq', List.map_append]; rfl
    have g3 : ic (q'.map (·.m)) = ic (q.map (·.m)) ++ [.int .i64 mark] := by rw [← hq', List.map_append]; simp [ic]
    have g4 : ic (q'.map (·.d)) = ic (q.map (·.d)) ++ [.int .i64 d] := by rw [← hq', List.map_append]; simp [ic]
    have g5 : q'.flatMap wrows = q.flatMap wrows ++ [(v, 3, ic c), (u, 3, ic c)] := by rw [← hq', List.flatMap_append]; rfl
    rw [g1, g2, g3, g4, g5]
    exact bg_perm h (perm_marks _ _ _ _ _ _ _ _ _ _)
  have hBD := book_done P false (n : Int) ⟨vO, vT, vW, vN, .slice none 0 0, vM, vD, .slice none 0 0, .int .i64 ((n : Int) + 1)⟩ w h.sg.box ⟨by omega, by omega⟩
    (fun w' => MI B S w0 w' P n (.int .i64 ((n : Int) + 1)) vW vN vM vD (oz.map (·.1)) (oz.map (·.2.1)) q' Y q'.length)
    (fun w' => ∃ vO vT vW vN vM vD oz q Y, Bg B S w0 w' P n 0 ⟨vO, vT, vW, vN, .slice none 0 0, vM, vD, .slice none 0 0, .int .i64 ((n : Int) + 1)⟩ (bl vO vT vW vN vM vD oz q Y) ∧ Of oz q Y (n + 1))
    (fun w1 hw1 hg1 => by
      refine (markInts_loop w0 w1 (hb1.grown hw1 hg1) (by omega) ⟨by rw [List.length_map]; omega, by rw [List.length_map]; omega, by omega⟩ hqc).mono ?_
      rintro e w' ⟨he, hM⟩
      obtain ⟨_, _, _, _, _, _, _, _, _, _, _, _, _, hb, _⟩ := hM.ex
      exact ⟨he, ⟨_, _, hb.sg.box⟩, hM⟩)
    (fun w2 h2 => by
      obtain ⟨vO', vT', vW', vN', vF, vM', vD', vR, kp, fl, fs, ts, Y', hb, hf⟩ := h2.ex
      obtain ⟨⟨e1, e2, e3, e4, e5⟩, m2, m3, m4, m5⟩ := hf
      refine ⟨_, _, hb.sg.box, ?_⟩
      have hdr : (q'.drop q'.length).flatMap wrows = [] := by simp
      rw [hdr] at hb
      have hp := bg_perm (L := (vO', 42, oz.map (·.1) ++ fl.map (·.1)) :: (vT', 42, oz.map (·.2.1) ++ ts) :: (aL vW' vN' vM' vD' kp ++ ((vF, 42, fl.map (·.1)) :: (vR, 3, ic fs) :: (aL vW vN vM vD q' ++ (Y' ++ (fl.map rwOf ++ (kp.flatMap wrows ++ ([] ++ Y)))))))) hb (perm_grow _ _ _ _ _ _ _ _)
      rw [List.append_assoc (fl.map rwOf), List.nil_append] at hp
      have gi : GI B S w0 w2 P n vW' vN' vF vM' vD' vR (.int .i64 ((n : Int) + 1)) (oz.map (·.1) ++ fl.map (·.1)) (oz.map (·.2.1) ++ ts) fl fs ((kp.flatMap wrows ++ Y) ++ (aL vW' vN' vM' vD' kp ++ aL vW vN vM vD q')) Y' 0 :=
        ⟨⟨vO', vT', Y', [], [], by rw [List.append_nil, List.append_nil]; exact hp, rfl, rfl, fun _ hy => hy, fun j hj => absurd hj (Nat.not_lt_zero _)⟩⟩
      refine (growInts_any w0 w2 gi e2 ⟨by rw [List.length_append, List.length_map, List.length_map]; omega, by rw [List.length_append, List.length_map]; omega, by omega⟩ (fun p hp => Nat.le_trans (m3 p hp) (by decide)) m4).mono ?_
      rintro e w' ⟨he, vO2, vT2, Y2, gs, ts2, hb2, l1, l2, hs, hj⟩
      exact ⟨he, ⟨_, _, hb2.sg.box⟩, grow_of hO hb2 l1 l2 hs hj e1 e2 (by omega) (fun x hx => hqc x (m2 x hx)) m3 m5⟩)
    (fun w3 h3 => by
      obtain ⟨_, _, _, _, _, _, _, _, _, hb, _⟩ := h3
      exact ⟨_, _, hb.sg.box⟩)
  refine hBD.mono ?_
  rintro e w' ⟨he, w3, bad3, t3, ⟨vO2, vT2, vW2, vN2, vM2, vD2, oz2, q2, Y2, hb2, hO2⟩, k3, k4, hg⟩
  refine ⟨he, vO2, vT2, vW2, vN2, vM2, vD2, oz2, q2, Y2, hb2.grown ?_ hg, hO2⟩
  have hx := hb2.sg.box
  unfold BkAt at hx k3 k4 ⊢
  rw [hx] at k3
  injection k3 with k3
  injection k3 with k3 _ _
  rw [k4]
  have e1 : bookCs bad3 ((n : Int) + 1) 0 t3 = (bookCs bad3 (n : Int) 0 t3).setIfInBounds 2 (.int .i64 ((n : Int) + 1)) := rfl
  rw [e1, ← k3]
  rfl

/-- The book between two calls. -/
structure Bok (B : Nat) (S : Nat → Prop) (w : World) (P n : Nat) : Prop where
  ex : ∃ vO vT vW vN vM vD oz q Y, Sg w P n 0 ⟨vO, vT, vW, vN, .slice none 0 0, vM, vD, .slice none 0 0, .int .i64 (n : Int)⟩ (bl vO vT vW vN vM vD oz q Y) ∧ Of oz q Y n ∧ ∀ k, BS P (bl vO vT vW vN vM vD oz q Y) k → S k
  lo : ∀ k, S k → B ≤ k
  lt : ∀ k, S k → k < w.heap.size
theorem Bok.keep {B P n : Nat} {S : Nat → Prop} {w w' : World} (h : Bok B S w P n) (hz : w.heap.size ≤ w'.heap.size) (hk : ∀ k, S k → w'.heap[k]? = w.heap[k]?) : Bok B S w' P n := by
  obtain ⟨vO, vT, vW, vN, vM, vD, oz, q, Y, h1, h2, h3⟩ := h.ex
  exact ⟨⟨vO, vT, vW, vN, vM, vD, oz, q, Y, ⟨(hk P (h3 P (.inl rfl))).trans h1.box, h1.its.keep fun x hx g hg => hk g (h3 g (.inr ⟨x, hx, hg⟩)), h1.typ⟩, h2, h3⟩, h.lo, fun k hS => Nat.lt_of_lt_of_le (h.lt k hS) hz⟩
/-- A list is kept. -/
theorem bok_ints {B P n : Nat} {S : Nat → Prop} {v : Value} {c : List Int} {mark : Int} (w : World) (h : Bok B S w P n) (hv : w.ownsRow 0 3 1 v c.length (ic c)) (hg : ∀ g, v.ownBlock = some g → ¬ S g ∧ B ≤ g) (hc : c.length ≤ 90000) (hm : -1000000 ≤ mark ∧ mark ≤ 1000000) (hn : n ≤ 10000) :
    Calls Tryz.prog 14 #[.pointer (some ⟨P, 0, none⟩), v, .int .i64 mark] w fun e w' => e = .returned (.tuple #[]) ∧ ∃ S', Bok B S' w' P (n + 1) ∧ SStp B (fun k => S k ∨ v.ownBlock = some k) w w' ∧ Grown (fun k => S k ∨ v.ownBlock = some k) w w' S' := by
  obtain ⟨vO, vT, vW, vN, vM, vD, oz, q, Y, h1, h2, h3⟩ := h.ex
  have hlen := h2.len
  have hin : ∀ k, BS P ((v, 3, ic c) :: bl vO vT vW vN vM vD oz q Y) k → S k ∨ v.ownBlock = some k := fun k hk => by
    rcases hk with e | ⟨x, hx, e⟩
    · exact .inl (h3 k (.inl e))
    · rcases List.mem_cons.1 hx with a | a
      · rw [a] at e; exact .inr e
      · exact .inl (h3 k (.inr ⟨x, a, e⟩))
  have hlo : ∀ k, BS P ((v, 3, ic c) :: bl vO vT vW vN vM vD oz q Y) k → B ≤ k := fun k hk => by
    rcases hin k hk with a | a
    · exact h.lo k a
    · exact (hg k a).2
  have hs : Sg w P n 0 ⟨vO, vT, vW, vN, .slice none 0 0, vM, vD, .slice none 0 0, .int .i64 (n : Int)⟩ ((v, 3, ic c) :: bl vO vT vW vN vM vD oz q Y) :=
    h1.add (x := (v, 3, ic c)) (by simpa [ic] using hv) (fun g hg' y hy e => (hg g hg').1 (h3 g (.inr ⟨y, hy, e⟩))) (.inr rfl)
  refine (ints_any (B := B) (R := fun w' => ∃ S', Bok B S' w' P (n + 1) ∧ SStp B (fun k => S k ∨ v.ownBlock = some k) w w' ∧ Grown (fun k => S k ∨ v.ownBlock = some k) w w' S') w hs hlo ⟨by omega, by rw [List.length_map]; omega, by rw [List.length_map]; omega, by simp [ic]; omega, by simp [ic]; omega, by omega, by omega⟩ ?_)
  intro w' vW' vN' vM' vD' u d hd1 hd2 hb
  refine (done_any w' hb h2 (by omega) hc hm).mono ?_
  rintro e w2 ⟨he, vO2, vT2, vW2, vN2, vM2, vD2, oz2, q2, Y2, hb2, hO2⟩
  refine ⟨he, BS P (bl vO2 vT2 vW2 vN2 vM2 vD2 oz2 q2 Y2), ⟨⟨vO2, vT2, vW2, vN2, vM2, vD2, oz2, q2, Y2, ?_, hO2, fun k hk => hk⟩, hb2.lo, fun k hk => ?_⟩, ⟨hb2.fr.st.below, hb2.fr.st.off.less hin⟩, fun k hk => ?_⟩
  · have : ((n + 1 : Nat) : Int) = (n : Int) + 1 := by omega
    rw [this]
    exact hb2.sg
  · rcases hk with e | ⟨x, hx, e⟩
    · rw [e]; exact hb2.sg.lt
    · exact hb2.sg.its.lt hx e
  · rcases hb2.fr.gr k hk with a | a
    · exact .inl (hin k a)
    · exact .inr a

/-- A look. -/
theorem bok_hold {B P n : Nat} {S : Nat → Prop} (w : World) (h : Bok B S w P n) (hn : n ≤ 100000) : Calls Tryz.prog 17 #[.pointer (some ⟨P, 0, none⟩)] w fun e w' => e = .returned (.bool true) ∧ Below w.heap.size w w' := by
  obtain ⟨vO, vT, vW, vN, vM, vD, oz, q, Y, h1, h2, h3⟩ := h.ex
  have hlen := h2.len
  have inY : ∀ y ∈ Y, y ∈ bl vO vT vW vN vM vD oz q Y := fun y hy => by unfold bl; simp [hy]
  have row : ∀ {x : Rw}, x ∈ bl vO vT vW vN vM vD oz q Y → w.ownsRow 0 x.2.1 1 x.1 x.2.2.length x.2.2 := fun {x} hx => h1.its.row x hx
  have wai : ∀ x ∈ q, Iv w x.l x.c ∧ Iv w x.n x.c := fun x hx =>
    ⟨iv_row (row_ic (row (x := (x.l, 3, ic x.c)) (by unfold bl; simp only [List.mem_cons, List.mem_append]; exact .inr (.inr (.inr (.inr (.inr (.inr (.inl (List.mem_flatMap.2 ⟨x, hx, by simp [wrows]⟩)))))))))),
     iv_row (row_ic (row (x := (x.n, 3, ic x.c)) (by unfold bl; simp only [List.mem_cons, List.mem_append]; exact .inr (.inr (.inr (.inr (.inr (.inr (.inl (List.mem_flatMap.2 ⟨x, hx, by simp [wrows]⟩))))))))))⟩
  refine book_hold P n 0 _ w h1.box (holdInts_any P n 0 _ (oz.map fun z => (z.1, z.2.2)) (oz.map (·.2.1)) (q.map fun x => (x.l, x.c)) (q.map (·.n)) w ⟨h1.box, ?_, ?_, ?_, ?_, by simp, by simp, fun p hp => ?_, fun i hi hi' => ?_, fun p hp => ?_, fun i hi hi' => ?_, fun p hp => ?_, fun p hp => ?_, by rw [List.length_map]; omega, by rw [List.length_map]; omega⟩)
  · have := lv_row (row (x := (vO, 42, oz.map (·.1))) (by unfold bl; simp))
    rw [List.map_map]
    exact this
  · exact lv_row (row (x := (vT, 42, oz.map (·.2.1))) (by unfold bl; simp))
  · have := lv_row (row (x := (vW, 42, q.map (·.l))) (by unfold bl; simp))
    rw [List.map_map]
    exact this
  · exact lv_row (row (x := (vN, 42, q.map (·.n))) (by unfold bl; simp))
  · obtain ⟨z, hz, rfl⟩ := List.mem_map.1 hp
    exact (h2.out z hz).1.iv h1.its inY
  · have hz : i < oz.length := by simpa using hi
    simp only [List.getElem_map]
    exact (h2.out _ (List.getElem_mem hz)).2.1.iv h1.its inY
  · obtain ⟨x, hx, rfl⟩ := List.mem_map.1 hp
    exact (wai x hx).1
  · have hz : i < q.length := by simpa using hi
    simp only [List.getElem_map]
    exact (wai _ (List.getElem_mem hz)).2
  · obtain ⟨z, hz, rfl⟩ := List.mem_map.1 hp
    exact (h2.out z hz).2.2
  · obtain ⟨x, hx, rfl⟩ := List.mem_map.1 hp
    exact Nat.le_trans (h2.few x hx).1 (by decide)
/-- A new book. -/
theorem bok_new {w w' : World} {P : Nat} (hb : BkAt w' P false 0 0 ⟨.slice none 0 0, .slice none 0 0, .slice none 0 0, .slice none 0 0, .slice none 0 0, .slice none 0 0, .slice none 0 0, .slice none 0 0, .int .i64 0⟩) (hP : w.heap.size ≤ P) : Bok w.heap.size (fun k => k = P) w' P 0 := by
  have hl : P < w'.heap.size := (Array.getElem?_eq_some_iff.1 hb).1
  have nl : ∀ t, w'.ownsRow 0 t 1 (.slice none 0 0) 0 [] := fun t => World.ownsRow_nil _ _ _ _
  refine ⟨⟨.slice none 0 0, .slice none 0 0, .slice none 0 0, .slice none 0 0, .slice none 0 0, .slice none 0 0, [], [], [], ⟨hb, ⟨fun x hx => ?_, ?_⟩, fun x hx => ?_⟩, ⟨by simp, by simp, by simp⟩, fun k hk => ?_⟩, fun k e => by rw [e]; exact hP, fun k e => by rw [e]; exact hl⟩
  · simp [bl, ic] at hx
    rcases hx with rfl | rfl <;> exact nl _
  · show List.Nodup []
    exact List.nodup_nil
  · simp [bl, ic] at hx
    rcases hx with rfl | rfl <;> simp
  · rcases hk with e | ⟨x, hx, e⟩
    · exact e
    · simp [bl, ic] at hx
      rcases hx with rfl | rfl <;> simp [Value.ownBlock] at e
end Go.Proofs.YtchpapppkmnfnaaGreatDoor
