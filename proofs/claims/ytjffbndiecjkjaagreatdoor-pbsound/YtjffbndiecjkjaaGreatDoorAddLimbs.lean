/-
  Package big: limbAt, addLimbs.
-/
import Derived.Test.YtjffbndiecjkjaaGreatDoorSettled
import Derived.Test.YtjffbndiecjkjaaGreatDoorSums
namespace Go.Proofs.YtjffbndiecjkjaaGreatDoor
open Go.RowKit
open Bn (limbs)

set_option maxHeartbeats 400000 in
set_option maxRecDepth 100000 in
/-- limbAt. -/
theorem limbAt_any (l : List Nat) (p : Nat) (v : Value) (w : World) (h : U32At w v l) (hl : ∀ d ∈ l, d < 1000000000) (hp : p ≤ 1000000000) :
    Calls Tryz.prog 91 #[v, .int .i64 (p : Int)] w fun e w' => e = .returned (.int .u64 ((lAt l p : Nat) : Int)) ∧ w' = w := by
  rcases Nat.lt_or_ge p l.length with hlt | hge
  · obtain ⟨b, off, cap, rfl, hb, h1, h2, hc⟩ := h.pos (by omega)
    have hcp := hc p hlt
    have hd := hl _ (List.getElem_mem hlt)
    rw [lAt_get hlt]
    generalize l[p] = d at *
    unfold maxLen at h2
    have hI : (p : Int) < (l.length : Int) := by omega
    clear hc h hl
    go_enter Tryz.func91, Tryz.ntmps91
    go_wp2
    go_ret
    exact ⟨rfl, rfl⟩
  · obtain ⟨a, cap, rfl, hm⟩ := h.form
    rw [lAt_past hge]
    have hI : ¬ (p : Int) < (l.length : Int) := by omega
    unfold maxLen at hm
    clear h hl
    go_enter Tryz.func91, Tryz.ntmps91
    go_wp2
    go_ret
    exact ⟨rfl, rfl⟩

theorem enter75 (args : Array Value) (w : World) : (callFunc 90 args).run Tryz.prog w = .ok (.enter 90 args) w := enter_body Tryz.func90 (by kernel_rfl) rfl args w

/-- A contract at a call whose arguments are known to be its own. -/
theorem calls_of {P : Program} {f : FuncId} {args args' : Array Value} {w : World} {Q Q' : Ending → World → Prop} (h : Calls P f args w Q) (e : args' = args) (hm : ∀ e w', Q e w' → Q' e w') : Calls P f args' w Q' := by
  subst e; exact h.mono hm
theorem TallyAt.drew {w : World} {base tb : Nat} {l : List Nat} {c : Nat} (h : TallyAt w base tb l c) : TallyAt w.drew base tb l c := h

set_option maxHeartbeats 1000000 in
set_option maxRecDepth 100000 in
theorem addLimbs1_any (a b : List Nat) (va vb : Value) (n ab bb nb base tb : Nat) (W : World) (hT : TallyAt W base tb [] 0) (hn : n ≤ 10000000)
    (hca : W.cell? ⟨ab, 0, none⟩ = some va) (hcb : W.cell? ⟨bb, 0, none⟩ = some vb) (hcn : W.cell? ⟨nb, 0, none⟩ = some (.int .i64 (n : Int)))
    (hab : ab < base) (hbb : bb < base) (hua : ∀ W', Below base W W' → U32At W' va a) (hub : ∀ W', Below base W W' → U32At W' vb b) (hda : ∀ d ∈ a, d < 1000000000) (hdb : ∀ d ∈ b, d < 1000000000) :
    Calls Tryz.prog 90 (#[.func (.func 108) #[.pointer (some ⟨tb, 0, none⟩)] #[]] ++ #[.pointer (some ⟨nb, 0, none⟩), .pointer (some ⟨ab, 0, none⟩), .pointer (some ⟨bb, 0, none⟩)]) W fun e W' => e = .returned (.tuple #[]) ∧ TallyAt W' base tb (told (fun p => lAt a p + lAt b p) n).1 (told (fun p => lAt a p + lAt b p) n).2 ∧ Below base W W' := by
  go_enter Tryz.func90, Tryz.ntmps90
  go_wp2
  go_loopw [7] (fun iv wr => ∃ k : Nat, iv = .int .i64 (k : Int) ∧ k ≤ n ∧ TallyAt wr base tb (told (fun p => lAt a p + lAt b p) k).1 (told (fun p => lAt a p + lAt b p) k).2 ∧ Below base W wr) (fun iv _ => n - (intOf iv).toNat)
  case atStart => exact ⟨0, rfl, Nat.zero_le _, hT, Below.refl _ _⟩
  case round =>
    clear hT
    obtain ⟨k, rfl, hk, hT, hbel⟩ := hrel
    have hca' : wr.cell? ⟨ab, 0, none⟩ = some va := (hbel.cell (p := ⟨ab, 0, none⟩) hab).trans hca
    have hcb' : wr.cell? ⟨bb, 0, none⟩ = some vb := (hbel.cell (p := ⟨bb, 0, none⟩) hbb).trans hcb
    by_cases hlt : k < n
    · have hltI : (k : Int) < (n : Int) := by omega
      have h1 := lAt_lt hda k
      have h2 := lAt_lt hdb k
      have HCa : Hid (Calls Tryz.prog 91 #[va, .int .i64 (k : Int)] wr.drew fun e w' => e = .returned (.int .u64 ((lAt a k : Nat) : Int)) ∧ w' = wr.drew) := limbAt_any a k va wr.drew (hua _ hbel.drew) hda (by omega)
      have HCb : Hid (Calls Tryz.prog 91 #[vb, .int .i64 (k : Int)] wr.drew fun e w' => e = .returned (.int .u64 ((lAt b k : Nat) : Int)) ∧ w' = wr.drew) := limbAt_any b k vb wr.drew (hub _ hbel.drew) hdb (by omega)
      have HT : Hid (TallyAt wr.drew base tb (told (fun p => lAt a p + lAt b p) k).1 (told (fun p => lAt a p + lAt b p) k).2) := hT.drew
      have hc := told_carry (fun p => lAt a p + lAt b p) 2000000000 (fun p => by have := lAt_lt hda p; have := lAt_lt hdb p; show _ + _ ≤ _; omega) k
      have hlen : (told (fun p => lAt a p + lAt b p) k).1.length ≤ 100000000 := by rw [told_length]; omega
      have HN : Hid (∀ W' : World, TallyAt W' base tb ((told (fun p => lAt a p + lAt b p) k).1 ++ [((told (fun p => lAt a p + lAt b p) k).2 + (lAt a k + lAt b k)) % 1000000000]) (((told (fun p => lAt a p + lAt b p) k).2 + (lAt a k + lAt b k)) / 1000000000) → TallyAt W' base tb (told (fun p => lAt a p + lAt b p) (k + 1)).1 (told (fun p => lAt a p + lAt b p) (k + 1)).2) := fun _ h => h
      generalize (told (fun p => lAt a p + lAt b p) k).1 = L at *
      generalize (told (fun p => lAt a p + lAt b p) k).2 = c at *
      generalize lAt a k = x at *
      generalize lAt b k = y at *
      have HD : Hid (Calls Tryz.prog 108 #[.pointer (some ⟨tb, 0, none⟩), .int .u64 0, .int .u64 (IntKind.u64.wrap ((x : Int) + (y : Int)))] wr.drew fun e w' => e = .returned (.tuple #[]) ∧ TallyAt w' base tb (L ++ [(c + (x + y)) % 1000000000]) ((c + (x + y)) / 1000000000) ∧ Below base wr.drew w') := by
        have h := tell_any base tb 0 (x + y) c ((c + (x + y)) / 1000000000) ((c + (x + y)) % 1000000000) L wr.drew HT.out (by omega) (by omega) (by omega) hlen
        rw [show IntKind.u64.wrap ((x : Int) + (y : Int)) = ((x + y : Nat) : Int) from by rw [IntKind.wrap_u64]; omega]
        exact h
      clear hca hcb hcn hua hub hda hdb hT
      go_wp2_with fail
      go_region_with (first
        | (go_at_call 91; refine calls_of HCa.out (by with_reducible rfl) ?_; rintro e w' ⟨rfl, rfl⟩)
        | (go_at_call 91; refine calls_of HCb.out (by with_reducible rfl) ?_; rintro e w' ⟨rfl, rfl⟩)
        | (go_at_call 108; refine calls_of HD.out (by with_reducible rfl) ?_; rintro e w' ⟨rfl, hT', hb'⟩))
      all_goals
        go_wp2
        go_roundw
        case rel => exact ⟨k + 1, by go_num, by omega, HN.out _ hT', hbel.drew.trans hb'⟩
        case measure => simp [intOf]; omega
    · obtain rfl : k = n := by omega
      go_wp2
      go_end0
      exact ⟨rfl, hT, hbel⟩
end Go.Proofs.YtjffbndiecjkjaaGreatDoor
