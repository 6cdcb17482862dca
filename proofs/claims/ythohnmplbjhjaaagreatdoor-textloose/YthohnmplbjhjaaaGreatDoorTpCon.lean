/-
  A page: the line of a constraint, of a variable, of the goal.
-/
import Derived.Test.YthohnmplbjhjaaaGreatDoorTpLine
namespace Go.Proofs.YthohnmplbjhjaaaGreatDoor
open Go Go.RowKit

theorem sumT_len {vars : List Md.Vr} {ts : List (Int × Int)} (hn : ∀ v ∈ vars, v.name.data.toList.length ≤ 16) (hx : ∀ t ∈ ts, 0 ≤ t.2 ∧ t.2 < (vars.length : Int)) (hc : ∀ t ∈ ts, -1000000 ≤ t.1 ∧ t.1 ≤ 1000000) : (Md.sumT vars ts).length ≤ 44 * ts.length :=
  Md.flatMap_len _ 44 ts (fun x h => by
    obtain ⟨j, hj, _, he⟩ := nm_get (hx x h).1 (hx x h).2
    have h1 := Md.itoa_len (n := x.1) (by have := hc x h; omega)
    have := hn vars[j] (List.getElem_mem hj)
    rw [he, List.length_cons, List.length_append, List.length_cons]
    omega)
theorem numsT_len {xs : List Int} (hx : ∀ x ∈ xs, -1000000000 ≤ x ∧ x ≤ 1000000000) : (Md.numsT xs).length ≤ 22 * xs.length :=
  Md.flatMap_len _ 22 xs (fun x h => by have := Md.itoa_len (hx x h); simpa using this)
theorem rowsT_len {rs : List (List Int)} (hx : ∀ r ∈ rs, r.length ≤ 64 ∧ ∀ x ∈ r, -1000000000 ≤ x ∧ x ≤ 1000000000) : (Md.rowsT rs).length ≤ 1410 * rs.length :=
  Md.flatMap_len _ 1410 rs (fun r hr => by
    have h1 := hx r hr
    have h2 := numsT_len h1.2
    rw [List.length_cons, List.length_cons]
    omega)
theorem app3 {L a b : List UInt8} {B : Nat} {p : Nat} {va : Value} {w : World} {x : List UInt8} (h : PageAt B p va (L ++ a ++ b ++ [10]) w) (e : x = a ++ b) : PageAt B p va (L ++ x ++ [10]) w := by
  rw [e]
  rw [← List.append_assoc L a b]
  exact h
/-- What is known of the numbers of a constraint. -/
structure Nums (c : Md.Cn) : Prop where
  b : ∀ x ∈ c.table, -1000000000 ≤ x ∧ x ≤ 1000000000
  r : ∀ r ∈ c.rows, r.length ≤ 64 ∧ ∀ x ∈ r, -1000000000 ≤ x ∧ x ≤ 1000000000

theorem look_1 (w : World) : (Instr.index 106 (.agg formCells) (.int .i64 1)).run Tryz.prog w = .ok (.agg #[.string ⟨#[108, 105, 110]⟩, .func (.func 79) #[] #[], .func (.func 83) #[] #[]]) w := by kernel_rfl
theorem look_2 (w : World) : (Instr.index 106 (.agg formCells) (.int .i64 2)).run Tryz.prog w = .ok (.agg #[.string ⟨#[110, 101]⟩, .func (.func 85) #[] #[], .func (.func 86) #[] #[]]) w := by kernel_rfl
theorem look_3 (w : World) : (Instr.index 106 (.agg formCells) (.int .i64 3)).run Tryz.prog w = .ok (.agg #[.string ⟨#[97, 108, 108, 100, 105, 102, 102]⟩, .func (.func 87) #[] #[], .func (.func 88) #[] #[]]) w := by kernel_rfl
theorem look_4 (w : World) : (Instr.index 106 (.agg formCells) (.int .i64 4)).run Tryz.prog w = .ok (.agg #[.string ⟨#[101, 108, 101, 109, 101, 110, 116]⟩, .func (.func 89) #[] #[], .func (.func 91) #[] #[]]) w := by kernel_rfl
theorem look_5 (w : World) : (Instr.index 106 (.agg formCells) (.int .i64 5)).run Tryz.prog w = .ok (.agg #[.string ⟨#[109, 97, 120]⟩, .func (.func 70) #[] #[], .func (.func 73) #[] #[]]) w := by kernel_rfl
theorem look_6 (w : World) : (Instr.index 106 (.agg formCells) (.int .i64 6)).run Tryz.prog w = .ok (.agg #[.string ⟨#[109, 105, 110]⟩, .func (.func 70) #[] #[], .func (.func 73) #[] #[]]) w := by kernel_rfl
theorem look_7 (w : World) : (Instr.index 106 (.agg formCells) (.int .i64 7)).run Tryz.prog w = .ok (.agg #[.string ⟨#[114, 101, 105, 102]⟩, .func (.func 92) #[] #[], .func (.func 93) #[] #[]]) w := by kernel_rfl
theorem look_8 (w : World) : (Instr.index 106 (.agg formCells) (.int .i64 8)).run Tryz.prog w = .ok (.agg #[.string ⟨#[116, 97, 98, 108, 101]⟩, .func (.func 94) #[] #[], .func (.func 95) #[] #[]]) w := by kernel_rfl
theorem look_9 (w : World) : (Instr.index 106 (.agg formCells) (.int .i64 9)).run Tryz.prog w = .ok (.agg #[.string ⟨#[99, 111, 117, 110, 116]⟩, .func (.func 97) #[] #[], .func (.func 98) #[] #[]]) w := by kernel_rfl
theorem look_10 (w : World) : (Instr.index 106 (.agg formCells) (.int .i64 10)).run Tryz.prog w = .ok (.agg #[.string ⟨#[118, 97, 114]⟩, .func (.func 75) #[] #[], .func (.func 76) #[] #[]]) w := by kernel_rfl
theorem look_11 (w : World) : (Instr.index 106 (.agg formCells) (.int .i64 11)).run Tryz.prog w = .ok (.agg #[.string ⟨#[109, 105, 110, 105, 109, 105, 122, 101]⟩, .func (.func 99) #[] #[], .func (.func 100) #[] #[]]) w := by kernel_rfl
theorem enter_101 : ∀ args w, (callFunc 86 args).run Tryz.prog w = .ok (.enter 86 args) w := enters_of Tryz.func86 (by kernel_rfl) rfl
theorem enter_103 : ∀ args w, (callFunc 88 args).run Tryz.prog w = .ok (.enter 88 args) w := enters_of Tryz.func88 (by kernel_rfl) rfl
theorem enter_106 : ∀ args w, (callFunc 91 args).run Tryz.prog w = .ok (.enter 91 args) w := enters_of Tryz.func91 (by kernel_rfl) rfl
theorem enter_108 : ∀ args w, (callFunc 93 args).run Tryz.prog w = .ok (.enter 93 args) w := enters_of Tryz.func93 (by kernel_rfl) rfl
theorem enter_110 : ∀ args w, (callFunc 95 args).run Tryz.prog w = .ok (.enter 95 args) w := enters_of Tryz.func95 (by kernel_rfl) rfl
theorem enter_113 : ∀ args w, (callFunc 98 args).run Tryz.prog w = .ok (.enter 98 args) w := enters_of Tryz.func98 (by kernel_rfl) rfl
theorem enter_115 : ∀ args w, (callFunc 100 args).run Tryz.prog w = .ok (.enter 100 args) w := enters_of Tryz.func100 (by kernel_rfl) rfl
theorem enter_88 : ∀ args w, (callFunc 73 args).run Tryz.prog w = .ok (.enter 73 args) w := enters_of Tryz.func73 (by kernel_rfl) rfl
theorem enter_91 : ∀ args w, (callFunc 76 args).run Tryz.prog w = .ok (.enter 76 args) w := enters_of Tryz.func76 (by kernel_rfl) rfl
theorem enter_98 : ∀ args w, (callFunc 83 args).run Tryz.prog w = .ok (.enter 83 args) w := enters_of Tryz.func83 (by kernel_rfl) rfl

set_option maxHeartbeats 1000000 in
theorem con_1a {w0 : World} (vars : List Md.Vr) (b : Nat) (va : Value) (L0 : List UInt8) (c : Md.Cn) (vt vx vb vr : Value) (w : World) (hV : VarsAt w0 va vars) (hn : ∀ v ∈ vars, v.name.data.toList.length ≤ 16) (hw : Way w0 w) (hC : CnAt w0 c vt vx vb vr) (hF : Md.Fit c vars.length) (hN : Nums c) (hk : c.kind = 1) (ho : c.op = 1) (h : PageAt w0.heap.size b va L0 w) (hl : L0.length ≤ 500000000) :
    Calls Tryz.prog 23 #[.pointer (some ⟨b, 0, none⟩), .agg (sayC ⟨#[]⟩ 0 0 c.kind c.op vt c.k c.v c.x c.y vx vb vr)] w fun e w' => e = .returned (.tuple #[]) ∧ PageAt w0.heap.size b va (L0 ++ Md.conT vars c ++ [10]) w' ∧ Kq w0.heap.size w w' := by
  have _ := hC; have _ := hN
  rw [hk, ho]
  have hd : (⟨#[108, 105, 110]⟩ : ByteArray).data.toList.length ≤ 8 := by decide
  have hx : Md.conT vars c = (⟨#[108, 105, 110]⟩ : ByteArray).data.toList ++ ((((32 :: (⟨#[60, 61]⟩ : ByteArray).data.toList)) ++ (Md.numsT [c.k])) ++ (Md.sumT vars c.terms)) := by
    simp [Md.conT, Md.wordT, Md.restT, Md.opT, hk, ho, Md.numsT]
  have hT : ((((32 :: (⟨#[60, 61]⟩ : ByteArray).data.toList)) ++ (Md.numsT [c.k])) ++ (Md.sumT vars c.terms)).length ≤ 1000000 := by
    have l0 := (show (32 :: (⟨#[60, 61]⟩ : ByteArray).data.toList).length ≤ 3 by decide)
    have l1 := (numsT_len (xs := [c.k]) (fun z hz => by simp at hz; subst hz; exact hF.k))
    have l2 := (sumT_len hn hF.tx hF.tc)
    have l9 := hF.tl
    have l8 := hF.xl
    have l7 := hF.bl
    have l6 := hF.rl
    simp only [List.length_append, List.length_cons, List.length_nil] at *
    omega
  refine (line_any b va L0 ((((32 :: (⟨#[60, 61]⟩ : ByteArray).data.toList)) ++ (Md.numsT [c.k])) ++ (Md.sumT vars c.terms)) ⟨#[]⟩ 0 0 1 1 vt c.k c.v c.x c.y vx vb vr ⟨#[108, 105, 110]⟩ 79 83 w hw look_1 enter_98 (fun w' hw' hp' => ?_) h (by rw [size_toList]; omega) hT).mono ?_
  · refine (form98a vars b va _ ⟨#[]⟩ 0 0 1  vt c.k c.v c.x c.y vx vb vr w' hV hn hw' (fun z hz => by simp at hz; subst hz; exact hF.k) hC.t hF.tx hF.tc hF.tl hp' (by rw [List.length_append]; omega)).mono ?_
    rintro e w2 ⟨he, hp, hq⟩
    refine ⟨he, ?_, hq⟩
    simpa using hp
  · rintro e w2 ⟨he, hp, hq⟩
    exact ⟨he, app3 hp hx, hq⟩

set_option maxHeartbeats 1000000 in
theorem con_9a {w0 : World} (vars : List Md.Vr) (b : Nat) (va : Value) (L0 : List UInt8) (c : Md.Cn) (vt vx vb vr : Value) (w : World) (hV : VarsAt w0 va vars) (hn : ∀ v ∈ vars, v.name.data.toList.length ≤ 16) (hw : Way w0 w) (hC : CnAt w0 c vt vx vb vr) (hF : Md.Fit c vars.length) (hN : Nums c) (hk : c.kind = 9) (ho : c.op = 1) (h : PageAt w0.heap.size b va L0 w) (hl : L0.length ≤ 500000000) :
    Calls Tryz.prog 23 #[.pointer (some ⟨b, 0, none⟩), .agg (sayC ⟨#[]⟩ 0 0 c.kind c.op vt c.k c.v c.x c.y vx vb vr)] w fun e w' => e = .returned (.tuple #[]) ∧ PageAt w0.heap.size b va (L0 ++ Md.conT vars c ++ [10]) w' ∧ Kq w0.heap.size w w' := by
  have _ := hC; have _ := hN
  rw [hk, ho]
  have hd : (⟨#[99, 111, 117, 110, 116]⟩ : ByteArray).data.toList.length ≤ 8 := by decide
  have hx : Md.conT vars c = (⟨#[99, 111, 117, 110, 116]⟩ : ByteArray).data.toList ++ ((((32 :: (⟨#[60, 61]⟩ : ByteArray).data.toList)) ++ (Md.numsT [c.k, c.v])) ++ (Md.namesT vars c.xs)) := by
    simp [Md.conT, Md.wordT, Md.restT, Md.opT, hk, ho, Md.numsT]
  have hT : ((((32 :: (⟨#[60, 61]⟩ : ByteArray).data.toList)) ++ (Md.numsT [c.k, c.v])) ++ (Md.namesT vars c.xs)).length ≤ 1000000 := by
    have l0 := (show (32 :: (⟨#[60, 61]⟩ : ByteArray).data.toList).length ≤ 3 by decide)
    have l1 := (numsT_len (xs := [c.k, c.v]) (fun z hz => by simp at hz; rcases hz with rfl | rfl; exact hF.k; exact hF.v))
    have l2 := (namesT_len hn hF.xs)
    have l9 := hF.tl
    have l8 := hF.xl
    have l7 := hF.bl
    have l6 := hF.rl
    simp only [List.length_append, List.length_cons, List.length_nil] at *
    omega
  refine (line_any b va L0 ((((32 :: (⟨#[60, 61]⟩ : ByteArray).data.toList)) ++ (Md.numsT [c.k, c.v])) ++ (Md.namesT vars c.xs)) ⟨#[]⟩ 0 0 9 1 vt c.k c.v c.x c.y vx vb vr ⟨#[99, 111, 117, 110, 116]⟩ 97 98 w hw look_9 enter_113 (fun w' hw' hp' => ?_) h (by rw [size_toList]; omega) hT).mono ?_
  · refine (form113a vars b va _ ⟨#[]⟩ 0 0 9  vt c.k c.v c.x c.y vx vb vr w' hV hn hw' (fun z hz => by simp at hz; rcases hz with rfl | rfl; exact hF.k; exact hF.v) hC.x hF.xs hF.xl hp' (by rw [List.length_append]; omega)).mono ?_
    rintro e w2 ⟨he, hp, hq⟩
    refine ⟨he, ?_, hq⟩
    simpa using hp
  · rintro e w2 ⟨he, hp, hq⟩
    exact ⟨he, app3 hp hx, hq⟩

set_option maxHeartbeats 1000000 in
theorem con_1b {w0 : World} (vars : List Md.Vr) (b : Nat) (va : Value) (L0 : List UInt8) (c : Md.Cn) (vt vx vb vr : Value) (w : World) (hV : VarsAt w0 va vars) (hn : ∀ v ∈ vars, v.name.data.toList.length ≤ 16) (hw : Way w0 w) (hC : CnAt w0 c vt vx vb vr) (hF : Md.Fit c vars.length) (hN : Nums c) (hk : c.kind = 1) (ho : c.op = 2) (h : PageAt w0.heap.size b va L0 w) (hl : L0.length ≤ 500000000) :
    Calls Tryz.prog 23 #[.pointer (some ⟨b, 0, none⟩), .agg (sayC ⟨#[]⟩ 0 0 c.kind c.op vt c.k c.v c.x c.y vx vb vr)] w fun e w' => e = .returned (.tuple #[]) ∧ PageAt w0.heap.size b va (L0 ++ Md.conT vars c ++ [10]) w' ∧ Kq w0.heap.size w w' := by
  have _ := hC; have _ := hN
  rw [hk, ho]
  have hd : (⟨#[108, 105, 110]⟩ : ByteArray).data.toList.length ≤ 8 := by decide
  have hx : Md.conT vars c = (⟨#[108, 105, 110]⟩ : ByteArray).data.toList ++ ((((32 :: (⟨#[61]⟩ : ByteArray).data.toList)) ++ (Md.numsT [c.k])) ++ (Md.sumT vars c.terms)) := by
    simp [Md.conT, Md.wordT, Md.restT, Md.opT, hk, ho, Md.numsT]
  have hT : ((((32 :: (⟨#[61]⟩ : ByteArray).data.toList)) ++ (Md.numsT [c.k])) ++ (Md.sumT vars c.terms)).length ≤ 1000000 := by
    have l0 := (show (32 :: (⟨#[61]⟩ : ByteArray).data.toList).length ≤ 3 by decide)
    have l1 := (numsT_len (xs := [c.k]) (fun z hz => by simp at hz; subst hz; exact hF.k))
    have l2 := (sumT_len hn hF.tx hF.tc)
    have l9 := hF.tl
    have l8 := hF.xl
    have l7 := hF.bl
    have l6 := hF.rl
    simp only [List.length_append, List.length_cons, List.length_nil] at *
    omega
  refine (line_any b va L0 ((((32 :: (⟨#[61]⟩ : ByteArray).data.toList)) ++ (Md.numsT [c.k])) ++ (Md.sumT vars c.terms)) ⟨#[]⟩ 0 0 1 2 vt c.k c.v c.x c.y vx vb vr ⟨#[108, 105, 110]⟩ 79 83 w hw look_1 enter_98 (fun w' hw' hp' => ?_) h (by rw [size_toList]; omega) hT).mono ?_
  · refine (form98b vars b va _ ⟨#[]⟩ 0 0 1  vt c.k c.v c.x c.y vx vb vr w' hV hn hw' (fun z hz => by simp at hz; subst hz; exact hF.k) hC.t hF.tx hF.tc hF.tl hp' (by rw [List.length_append]; omega)).mono ?_
    rintro e w2 ⟨he, hp, hq⟩
    refine ⟨he, ?_, hq⟩
    simpa using hp
  · rintro e w2 ⟨he, hp, hq⟩
    exact ⟨he, app3 hp hx, hq⟩

set_option maxHeartbeats 1000000 in
theorem con_9b {w0 : World} (vars : List Md.Vr) (b : Nat) (va : Value) (L0 : List UInt8) (c : Md.Cn) (vt vx vb vr : Value) (w : World) (hV : VarsAt w0 va vars) (hn : ∀ v ∈ vars, v.name.data.toList.length ≤ 16) (hw : Way w0 w) (hC : CnAt w0 c vt vx vb vr) (hF : Md.Fit c vars.length) (hN : Nums c) (hk : c.kind = 9) (ho : c.op = 2) (h : PageAt w0.heap.size b va L0 w) (hl : L0.length ≤ 500000000) :
    Calls Tryz.prog 23 #[.pointer (some ⟨b, 0, none⟩), .agg (sayC ⟨#[]⟩ 0 0 c.kind c.op vt c.k c.v c.x c.y vx vb vr)] w fun e w' => e = .returned (.tuple #[]) ∧ PageAt w0.heap.size b va (L0 ++ Md.conT vars c ++ [10]) w' ∧ Kq w0.heap.size w w' := by
  have _ := hC; have _ := hN
  rw [hk, ho]
  have hd : (⟨#[99, 111, 117, 110, 116]⟩ : ByteArray).data.toList.length ≤ 8 := by decide
  have hx : Md.conT vars c = (⟨#[99, 111, 117, 110, 116]⟩ : ByteArray).data.toList ++ ((((32 :: (⟨#[61]⟩ : ByteArray).data.toList)) ++ (Md.numsT [c.k, c.v])) ++ (Md.namesT vars c.xs)) := by
    simp [Md.conT, Md.wordT, Md.restT, Md.opT, hk, ho, Md.numsT]
  have hT : ((((32 :: (⟨#[61]⟩ : ByteArray).data.toList)) ++ (Md.numsT [c.k, c.v])) ++ (Md.namesT vars c.xs)).length ≤ 1000000 := by
    have l0 := (show (32 :: (⟨#[61]⟩ : ByteArray).data.toList).length ≤ 3 by decide)
    have l1 := (numsT_len (xs := [c.k, c.v]) (fun z hz => by simp at hz; rcases hz with rfl | rfl; exact hF.k; exact hF.v))
    have l2 := (namesT_len hn hF.xs)
    have l9 := hF.tl
    have l8 := hF.xl
    have l7 := hF.bl
    have l6 := hF.rl
    simp only [List.length_append, List.length_cons, List.length_nil] at *
    omega
  refine (line_any b va L0 ((((32 :: (⟨#[61]⟩ : ByteArray).data.toList)) ++ (Md.numsT [c.k, c.v])) ++ (Md.namesT vars c.xs)) ⟨#[]⟩ 0 0 9 2 vt c.k c.v c.x c.y vx vb vr ⟨#[99, 111, 117, 110, 116]⟩ 97 98 w hw look_9 enter_113 (fun w' hw' hp' => ?_) h (by rw [size_toList]; omega) hT).mono ?_
  · refine (form113b vars b va _ ⟨#[]⟩ 0 0 9  vt c.k c.v c.x c.y vx vb vr w' hV hn hw' (fun z hz => by simp at hz; rcases hz with rfl | rfl; exact hF.k; exact hF.v) hC.x hF.xs hF.xl hp' (by rw [List.length_append]; omega)).mono ?_
    rintro e w2 ⟨he, hp, hq⟩
    refine ⟨he, ?_, hq⟩
    simpa using hp
  · rintro e w2 ⟨he, hp, hq⟩
    exact ⟨he, app3 hp hx, hq⟩

set_option maxHeartbeats 1000000 in
theorem con_1c {w0 : World} (vars : List Md.Vr) (b : Nat) (va : Value) (L0 : List UInt8) (c : Md.Cn) (vt vx vb vr : Value) (w : World) (hV : VarsAt w0 va vars) (hn : ∀ v ∈ vars, v.name.data.toList.length ≤ 16) (hw : Way w0 w) (hC : CnAt w0 c vt vx vb vr) (hF : Md.Fit c vars.length) (hN : Nums c) (hk : c.kind = 1) (ho : c.op = 3) (h : PageAt w0.heap.size b va L0 w) (hl : L0.length ≤ 500000000) :
    Calls Tryz.prog 23 #[.pointer (some ⟨b, 0, none⟩), .agg (sayC ⟨#[]⟩ 0 0 c.kind c.op vt c.k c.v c.x c.y vx vb vr)] w fun e w' => e = .returned (.tuple #[]) ∧ PageAt w0.heap.size b va (L0 ++ Md.conT vars c ++ [10]) w' ∧ Kq w0.heap.size w w' := by
  have _ := hC; have _ := hN
  rw [hk, ho]
  have hd : (⟨#[108, 105, 110]⟩ : ByteArray).data.toList.length ≤ 8 := by decide
  have hx : Md.conT vars c = (⟨#[108, 105, 110]⟩ : ByteArray).data.toList ++ ((((32 :: (⟨#[62, 61]⟩ : ByteArray).data.toList)) ++ (Md.numsT [c.k])) ++ (Md.sumT vars c.terms)) := by
    simp [Md.conT, Md.wordT, Md.restT, Md.opT, hk, ho, Md.numsT]
  have hT : ((((32 :: (⟨#[62, 61]⟩ : ByteArray).data.toList)) ++ (Md.numsT [c.k])) ++ (Md.sumT vars c.terms)).length ≤ 1000000 := by
    have l0 := (show (32 :: (⟨#[62, 61]⟩ : ByteArray).data.toList).length ≤ 3 by decide)
    have l1 := (numsT_len (xs := [c.k]) (fun z hz => by simp at hz; subst hz; exact hF.k))
    have l2 := (sumT_len hn hF.tx hF.tc)
    have l9 := hF.tl
    have l8 := hF.xl
    have l7 := hF.bl
    have l6 := hF.rl
    simp only [List.length_append, List.length_cons, List.length_nil] at *
    omega
  refine (line_any b va L0 ((((32 :: (⟨#[62, 61]⟩ : ByteArray).data.toList)) ++ (Md.numsT [c.k])) ++ (Md.sumT vars c.terms)) ⟨#[]⟩ 0 0 1 3 vt c.k c.v c.x c.y vx vb vr ⟨#[108, 105, 110]⟩ 79 83 w hw look_1 enter_98 (fun w' hw' hp' => ?_) h (by rw [size_toList]; omega) hT).mono ?_
  · refine (form98c vars b va _ ⟨#[]⟩ 0 0 1  vt c.k c.v c.x c.y vx vb vr w' hV hn hw' (fun z hz => by simp at hz; subst hz; exact hF.k) hC.t hF.tx hF.tc hF.tl hp' (by rw [List.length_append]; omega)).mono ?_
    rintro e w2 ⟨he, hp, hq⟩
    refine ⟨he, ?_, hq⟩
    simpa using hp
  · rintro e w2 ⟨he, hp, hq⟩
    exact ⟨he, app3 hp hx, hq⟩

set_option maxHeartbeats 1000000 in
theorem con_9c {w0 : World} (vars : List Md.Vr) (b : Nat) (va : Value) (L0 : List UInt8) (c : Md.Cn) (vt vx vb vr : Value) (w : World) (hV : VarsAt w0 va vars) (hn : ∀ v ∈ vars, v.name.data.toList.length ≤ 16) (hw : Way w0 w) (hC : CnAt w0 c vt vx vb vr) (hF : Md.Fit c vars.length) (hN : Nums c) (hk : c.kind = 9) (ho : c.op = 3) (h : PageAt w0.heap.size b va L0 w) (hl : L0.length ≤ 500000000) :
    Calls Tryz.prog 23 #[.pointer (some ⟨b, 0, none⟩), .agg (sayC ⟨#[]⟩ 0 0 c.kind c.op vt c.k c.v c.x c.y vx vb vr)] w fun e w' => e = .returned (.tuple #[]) ∧ PageAt w0.heap.size b va (L0 ++ Md.conT vars c ++ [10]) w' ∧ Kq w0.heap.size w w' := by
  have _ := hC; have _ := hN
  rw [hk, ho]
  have hd : (⟨#[99, 111, 117, 110, 116]⟩ : ByteArray).data.toList.length ≤ 8 := by decide
  have hx : Md.conT vars c = (⟨#[99, 111, 117, 110, 116]⟩ : ByteArray).data.toList ++ ((((32 :: (⟨#[62, 61]⟩ : ByteArray).data.toList)) ++ (Md.numsT [c.k, c.v])) ++ (Md.namesT vars c.xs)) := by
    simp [Md.conT, Md.wordT, Md.restT, Md.opT, hk, ho, Md.numsT]
  have hT : ((((32 :: (⟨#[62, 61]⟩ : ByteArray).data.toList)) ++ (Md.numsT [c.k, c.v])) ++ (Md.namesT vars c.xs)).length ≤ 1000000 := by
    have l0 := (show (32 :: (⟨#[62, 61]⟩ : ByteArray).data.toList).length ≤ 3 by decide)
    have l1 := (numsT_len (xs := [c.k, c.v]) (fun z hz => by simp at hz; rcases hz with rfl | rfl; exact hF.k; exact hF.v))
    have l2 := (namesT_len hn hF.xs)
    have l9 := hF.tl
    have l8 := hF.xl
    have l7 := hF.bl
    have l6 := hF.rl
    simp only [List.length_append, List.length_cons, List.length_nil] at *
    omega
  refine (line_any b va L0 ((((32 :: (⟨#[62, 61]⟩ : ByteArray).data.toList)) ++ (Md.numsT [c.k, c.v])) ++ (Md.namesT vars c.xs)) ⟨#[]⟩ 0 0 9 3 vt c.k c.v c.x c.y vx vb vr ⟨#[99, 111, 117, 110, 116]⟩ 97 98 w hw look_9 enter_113 (fun w' hw' hp' => ?_) h (by rw [size_toList]; omega) hT).mono ?_
  · refine (form113c vars b va _ ⟨#[]⟩ 0 0 9  vt c.k c.v c.x c.y vx vb vr w' hV hn hw' (fun z hz => by simp at hz; rcases hz with rfl | rfl; exact hF.k; exact hF.v) hC.x hF.xs hF.xl hp' (by rw [List.length_append]; omega)).mono ?_
    rintro e w2 ⟨he, hp, hq⟩
    refine ⟨he, ?_, hq⟩
    simpa using hp
  · rintro e w2 ⟨he, hp, hq⟩
    exact ⟨he, app3 hp hx, hq⟩

set_option maxHeartbeats 1000000 in
theorem con_2 {w0 : World} (vars : List Md.Vr) (b : Nat) (va : Value) (L0 : List UInt8) (c : Md.Cn) (vt vx vb vr : Value) (w : World) (hV : VarsAt w0 va vars) (hn : ∀ v ∈ vars, v.name.data.toList.length ≤ 16) (hw : Way w0 w) (hC : CnAt w0 c vt vx vb vr) (hF : Md.Fit c vars.length) (hN : Nums c) (hk : c.kind = 2) (h : PageAt w0.heap.size b va L0 w) (hl : L0.length ≤ 500000000) :
    Calls Tryz.prog 23 #[.pointer (some ⟨b, 0, none⟩), .agg (sayC ⟨#[]⟩ 0 0 c.kind c.op vt c.k c.v c.x c.y vx vb vr)] w fun e w' => e = .returned (.tuple #[]) ∧ PageAt w0.heap.size b va (L0 ++ Md.conT vars c ++ [10]) w' ∧ Kq w0.heap.size w w' := by
  have _ := hC; have _ := hN
  rw [hk]
  have hd : (⟨#[110, 101]⟩ : ByteArray).data.toList.length ≤ 8 := by decide
  have hx : Md.conT vars c = (⟨#[110, 101]⟩ : ByteArray).data.toList ++ ((Md.namesT vars [c.x, c.y]) ++ (Md.numsT [c.k])) := by
    simp [Md.conT, Md.wordT, Md.restT, hk, Md.numsT, Md.namesT]
  have hT : ((Md.namesT vars [c.x, c.y]) ++ (Md.numsT [c.k])).length ≤ 1000000 := by
    have l0 := (namesT_len (xs := [c.x, c.y]) hn (fun z hz => by simp at hz; rcases hz with rfl | rfl; exact hF.x; exact hF.y))
    have l1 := (numsT_len (xs := [c.k]) (fun z hz => by simp at hz; subst hz; exact hF.k))
    have l9 := hF.tl
    have l8 := hF.xl
    have l7 := hF.bl
    have l6 := hF.rl
    simp only [List.length_append, List.length_cons, List.length_nil] at *
    omega
  refine (line_any b va L0 ((Md.namesT vars [c.x, c.y]) ++ (Md.numsT [c.k])) ⟨#[]⟩ 0 0 2 c.op vt c.k c.v c.x c.y vx vb vr ⟨#[110, 101]⟩ 85 86 w hw look_2 enter_101 (fun w' hw' hp' => ?_) h (by rw [size_toList]; omega) hT).mono ?_
  · refine (form101 vars b va _ ⟨#[]⟩ 0 0 2 c.op vt c.k c.v c.x c.y vx vb vr w' hV hn hw' (fun z hz => by simp at hz; rcases hz with rfl | rfl; exact hF.x; exact hF.y) (fun z hz => by simp at hz; subst hz; exact hF.k) hp' (by rw [List.length_append]; omega)).mono ?_
    rintro e w2 ⟨he, hp, hq⟩
    refine ⟨he, ?_, hq⟩
    simpa using hp
  · rintro e w2 ⟨he, hp, hq⟩
    exact ⟨he, app3 hp hx, hq⟩

set_option maxHeartbeats 1000000 in
theorem con_3 {w0 : World} (vars : List Md.Vr) (b : Nat) (va : Value) (L0 : List UInt8) (c : Md.Cn) (vt vx vb vr : Value) (w : World) (hV : VarsAt w0 va vars) (hn : ∀ v ∈ vars, v.name.data.toList.length ≤ 16) (hw : Way w0 w) (hC : CnAt w0 c vt vx vb vr) (hF : Md.Fit c vars.length) (hN : Nums c) (hk : c.kind = 3) (h : PageAt w0.heap.size b va L0 w) (hl : L0.length ≤ 500000000) :
    Calls Tryz.prog 23 #[.pointer (some ⟨b, 0, none⟩), .agg (sayC ⟨#[]⟩ 0 0 c.kind c.op vt c.k c.v c.x c.y vx vb vr)] w fun e w' => e = .returned (.tuple #[]) ∧ PageAt w0.heap.size b va (L0 ++ Md.conT vars c ++ [10]) w' ∧ Kq w0.heap.size w w' := by
  have _ := hC; have _ := hN
  rw [hk]
  have hd : (⟨#[97, 108, 108, 100, 105, 102, 102]⟩ : ByteArray).data.toList.length ≤ 8 := by decide
  have hx : Md.conT vars c = (⟨#[97, 108, 108, 100, 105, 102, 102]⟩ : ByteArray).data.toList ++ (Md.namesT vars c.xs) := by
    simp [Md.conT, Md.wordT, Md.restT, hk]
  have hT : (Md.namesT vars c.xs).length ≤ 1000000 := by
    have l0 := (namesT_len hn hF.xs)
    have l9 := hF.tl
    have l8 := hF.xl
    have l7 := hF.bl
    have l6 := hF.rl
    omega
  refine (line_any b va L0 (Md.namesT vars c.xs) ⟨#[]⟩ 0 0 3 c.op vt c.k c.v c.x c.y vx vb vr ⟨#[97, 108, 108, 100, 105, 102, 102]⟩ 87 88 w hw look_3 enter_103 (fun w' hw' hp' => ?_) h (by rw [size_toList]; omega) hT).mono ?_
  · refine (form103 vars b va _ ⟨#[]⟩ 0 0 3 c.op vt c.k c.v c.x c.y vx vb vr w' hV hn hw' hC.x hF.xs hF.xl hp' (by rw [List.length_append]; omega)).mono ?_
    rintro e w2 ⟨he, hp, hq⟩
    refine ⟨he, ?_, hq⟩
    simpa using hp
  · rintro e w2 ⟨he, hp, hq⟩
    exact ⟨he, app3 hp hx, hq⟩

set_option maxHeartbeats 1000000 in
theorem con_4 {w0 : World} (vars : List Md.Vr) (b : Nat) (va : Value) (L0 : List UInt8) (c : Md.Cn) (vt vx vb vr : Value) (w : World) (hV : VarsAt w0 va vars) (hn : ∀ v ∈ vars, v.name.data.toList.length ≤ 16) (hw : Way w0 w) (hC : CnAt w0 c vt vx vb vr) (hF : Md.Fit c vars.length) (hN : Nums c) (hk : c.kind = 4) (h : PageAt w0.heap.size b va L0 w) (hl : L0.length ≤ 500000000) :
    Calls Tryz.prog 23 #[.pointer (some ⟨b, 0, none⟩), .agg (sayC ⟨#[]⟩ 0 0 c.kind c.op vt c.k c.v c.x c.y vx vb vr)] w fun e w' => e = .returned (.tuple #[]) ∧ PageAt w0.heap.size b va (L0 ++ Md.conT vars c ++ [10]) w' ∧ Kq w0.heap.size w w' := by
  have _ := hC; have _ := hN
  rw [hk]
  have hd : (⟨#[101, 108, 101, 109, 101, 110, 116]⟩ : ByteArray).data.toList.length ≤ 8 := by decide
  have hx : Md.conT vars c = (⟨#[101, 108, 101, 109, 101, 110, 116]⟩ : ByteArray).data.toList ++ ((Md.namesT vars [c.x, c.y]) ++ (Md.numsT c.table)) := by
    simp [Md.conT, Md.wordT, Md.restT, hk, Md.namesT]
  have hT : ((Md.namesT vars [c.x, c.y]) ++ (Md.numsT c.table)).length ≤ 1000000 := by
    have l0 := (namesT_len (xs := [c.x, c.y]) hn (fun z hz => by simp at hz; rcases hz with rfl | rfl; exact hF.x; exact hF.y))
    have l1 := (numsT_len hN.b)
    have l9 := hF.tl
    have l8 := hF.xl
    have l7 := hF.bl
    have l6 := hF.rl
    simp only [List.length_append, List.length_cons, List.length_nil] at *
    omega
  refine (line_any b va L0 ((Md.namesT vars [c.x, c.y]) ++ (Md.numsT c.table)) ⟨#[]⟩ 0 0 4 c.op vt c.k c.v c.x c.y vx vb vr ⟨#[101, 108, 101, 109, 101, 110, 116]⟩ 89 91 w hw look_4 enter_106 (fun w' hw' hp' => ?_) h (by rw [size_toList]; omega) hT).mono ?_
  · refine (form106 vars b va _ ⟨#[]⟩ 0 0 4 c.op vt c.k c.v c.x c.y vx vb vr w' hV hn hw' (fun z hz => by simp at hz; rcases hz with rfl | rfl; exact hF.x; exact hF.y) hC.b hN.b hF.bl hp' (by rw [List.length_append]; omega)).mono ?_
    rintro e w2 ⟨he, hp, hq⟩
    refine ⟨he, ?_, hq⟩
    simpa using hp
  · rintro e w2 ⟨he, hp, hq⟩
    exact ⟨he, app3 hp hx, hq⟩

set_option maxHeartbeats 1000000 in
theorem con_5 {w0 : World} (vars : List Md.Vr) (b : Nat) (va : Value) (L0 : List UInt8) (c : Md.Cn) (vt vx vb vr : Value) (w : World) (hV : VarsAt w0 va vars) (hn : ∀ v ∈ vars, v.name.data.toList.length ≤ 16) (hw : Way w0 w) (hC : CnAt w0 c vt vx vb vr) (hF : Md.Fit c vars.length) (hN : Nums c) (hk : c.kind = 5) (h : PageAt w0.heap.size b va L0 w) (hl : L0.length ≤ 500000000) :
    Calls Tryz.prog 23 #[.pointer (some ⟨b, 0, none⟩), .agg (sayC ⟨#[]⟩ 0 0 c.kind c.op vt c.k c.v c.x c.y vx vb vr)] w fun e w' => e = .returned (.tuple #[]) ∧ PageAt w0.heap.size b va (L0 ++ Md.conT vars c ++ [10]) w' ∧ Kq w0.heap.size w w' := by
  have _ := hC; have _ := hN
  rw [hk]
  have hd : (⟨#[109, 97, 120]⟩ : ByteArray).data.toList.length ≤ 8 := by decide
  have hx : Md.conT vars c = (⟨#[109, 97, 120]⟩ : ByteArray).data.toList ++ ((Md.namesT vars [c.y]) ++ (Md.namesT vars c.xs)) := by
    simp [Md.conT, Md.wordT, Md.restT, hk, Md.namesT]
  have hT : ((Md.namesT vars [c.y]) ++ (Md.namesT vars c.xs)).length ≤ 1000000 := by
    have l0 := (namesT_len (xs := [c.y]) hn (fun z hz => by simp at hz; subst hz; exact hF.y))
    have l1 := (namesT_len hn hF.xs)
    have l9 := hF.tl
    have l8 := hF.xl
    have l7 := hF.bl
    have l6 := hF.rl
    simp only [List.length_append, List.length_cons, List.length_nil] at *
    omega
  refine (line_any b va L0 ((Md.namesT vars [c.y]) ++ (Md.namesT vars c.xs)) ⟨#[]⟩ 0 0 5 c.op vt c.k c.v c.x c.y vx vb vr ⟨#[109, 97, 120]⟩ 70 73 w hw look_5 enter_88 (fun w' hw' hp' => ?_) h (by rw [size_toList]; omega) hT).mono ?_
  · refine (form88 vars b va _ ⟨#[]⟩ 0 0 5 c.op vt c.k c.v c.x c.y vx vb vr w' hV hn hw' (fun z hz => by simp at hz; subst hz; exact hF.y) hC.x hF.xs hF.xl hp' (by rw [List.length_append]; omega)).mono ?_
    rintro e w2 ⟨he, hp, hq⟩
    refine ⟨he, ?_, hq⟩
    simpa using hp
  · rintro e w2 ⟨he, hp, hq⟩
    exact ⟨he, app3 hp hx, hq⟩

set_option maxHeartbeats 1000000 in
theorem con_6 {w0 : World} (vars : List Md.Vr) (b : Nat) (va : Value) (L0 : List UInt8) (c : Md.Cn) (vt vx vb vr : Value) (w : World) (hV : VarsAt w0 va vars) (hn : ∀ v ∈ vars, v.name.data.toList.length ≤ 16) (hw : Way w0 w) (hC : CnAt w0 c vt vx vb vr) (hF : Md.Fit c vars.length) (hN : Nums c) (hk : c.kind = 6) (h : PageAt w0.heap.size b va L0 w) (hl : L0.length ≤ 500000000) :
    Calls Tryz.prog 23 #[.pointer (some ⟨b, 0, none⟩), .agg (sayC ⟨#[]⟩ 0 0 c.kind c.op vt c.k c.v c.x c.y vx vb vr)] w fun e w' => e = .returned (.tuple #[]) ∧ PageAt w0.heap.size b va (L0 ++ Md.conT vars c ++ [10]) w' ∧ Kq w0.heap.size w w' := by
  have _ := hC; have _ := hN
  rw [hk]
  have hd : (⟨#[109, 105, 110]⟩ : ByteArray).data.toList.length ≤ 8 := by decide
  have hx : Md.conT vars c = (⟨#[109, 105, 110]⟩ : ByteArray).data.toList ++ ((Md.namesT vars [c.y]) ++ (Md.namesT vars c.xs)) := by
    simp [Md.conT, Md.wordT, Md.restT, hk, Md.namesT]
  have hT : ((Md.namesT vars [c.y]) ++ (Md.namesT vars c.xs)).length ≤ 1000000 := by
    have l0 := (namesT_len (xs := [c.y]) hn (fun z hz => by simp at hz; subst hz; exact hF.y))
    have l1 := (namesT_len hn hF.xs)
    have l9 := hF.tl
    have l8 := hF.xl
    have l7 := hF.bl
    have l6 := hF.rl
    simp only [List.length_append, List.length_cons, List.length_nil] at *
    omega
  refine (line_any b va L0 ((Md.namesT vars [c.y]) ++ (Md.namesT vars c.xs)) ⟨#[]⟩ 0 0 6 c.op vt c.k c.v c.x c.y vx vb vr ⟨#[109, 105, 110]⟩ 70 73 w hw look_6 enter_88 (fun w' hw' hp' => ?_) h (by rw [size_toList]; omega) hT).mono ?_
  · refine (form88 vars b va _ ⟨#[]⟩ 0 0 6 c.op vt c.k c.v c.x c.y vx vb vr w' hV hn hw' (fun z hz => by simp at hz; subst hz; exact hF.y) hC.x hF.xs hF.xl hp' (by rw [List.length_append]; omega)).mono ?_
    rintro e w2 ⟨he, hp, hq⟩
    refine ⟨he, ?_, hq⟩
    simpa using hp
  · rintro e w2 ⟨he, hp, hq⟩
    exact ⟨he, app3 hp hx, hq⟩

set_option maxHeartbeats 1000000 in
theorem con_7 {w0 : World} (vars : List Md.Vr) (b : Nat) (va : Value) (L0 : List UInt8) (c : Md.Cn) (vt vx vb vr : Value) (w : World) (hV : VarsAt w0 va vars) (hn : ∀ v ∈ vars, v.name.data.toList.length ≤ 16) (hw : Way w0 w) (hC : CnAt w0 c vt vx vb vr) (hF : Md.Fit c vars.length) (hN : Nums c) (hk : c.kind = 7) (h : PageAt w0.heap.size b va L0 w) (hl : L0.length ≤ 500000000) :
    Calls Tryz.prog 23 #[.pointer (some ⟨b, 0, none⟩), .agg (sayC ⟨#[]⟩ 0 0 c.kind c.op vt c.k c.v c.x c.y vx vb vr)] w fun e w' => e = .returned (.tuple #[]) ∧ PageAt w0.heap.size b va (L0 ++ Md.conT vars c ++ [10]) w' ∧ Kq w0.heap.size w w' := by
  have _ := hC; have _ := hN
  rw [hk]
  have hd : (⟨#[114, 101, 105, 102]⟩ : ByteArray).data.toList.length ≤ 8 := by decide
  have hx : Md.conT vars c = (⟨#[114, 101, 105, 102]⟩ : ByteArray).data.toList ++ ((((Md.namesT vars [c.x]) ++ ((32 :: (⟨#[60, 61]⟩ : ByteArray).data.toList))) ++ (Md.numsT [c.k])) ++ (Md.sumT vars c.terms)) := by
    simp [Md.conT, Md.wordT, Md.restT, hk, Md.numsT, Md.namesT]
  have hT : ((((Md.namesT vars [c.x]) ++ ((32 :: (⟨#[60, 61]⟩ : ByteArray).data.toList))) ++ (Md.numsT [c.k])) ++ (Md.sumT vars c.terms)).length ≤ 1000000 := by
    have l0 := (namesT_len (xs := [c.x]) hn (fun z hz => by simp at hz; subst hz; exact hF.x))
    have l1 := (show (32 :: (⟨#[60, 61]⟩ : ByteArray).data.toList).length ≤ 3 by decide)
    have l2 := (numsT_len (xs := [c.k]) (fun z hz => by simp at hz; subst hz; exact hF.k))
    have l3 := (sumT_len hn hF.tx hF.tc)
    have l9 := hF.tl
    have l8 := hF.xl
    have l7 := hF.bl
    have l6 := hF.rl
    simp only [List.length_append, List.length_cons, List.length_nil] at *
    omega
  refine (line_any b va L0 ((((Md.namesT vars [c.x]) ++ ((32 :: (⟨#[60, 61]⟩ : ByteArray).data.toList))) ++ (Md.numsT [c.k])) ++ (Md.sumT vars c.terms)) ⟨#[]⟩ 0 0 7 c.op vt c.k c.v c.x c.y vx vb vr ⟨#[114, 101, 105, 102]⟩ 92 93 w hw look_7 enter_108 (fun w' hw' hp' => ?_) h (by rw [size_toList]; omega) hT).mono ?_
  · refine (form108 vars b va _ ⟨#[]⟩ 0 0 7 c.op vt c.k c.v c.x c.y vx vb vr w' hV hn hw' (fun z hz => by simp at hz; subst hz; exact hF.x) (fun z hz => by simp at hz; subst hz; exact hF.k) hC.t hF.tx hF.tc hF.tl hp' (by rw [List.length_append]; omega)).mono ?_
    rintro e w2 ⟨he, hp, hq⟩
    refine ⟨he, ?_, hq⟩
    simpa using hp
  · rintro e w2 ⟨he, hp, hq⟩
    exact ⟨he, app3 hp hx, hq⟩

set_option maxHeartbeats 1000000 in
theorem con_8 {w0 : World} (vars : List Md.Vr) (b : Nat) (va : Value) (L0 : List UInt8) (c : Md.Cn) (vt vx vb vr : Value) (w : World) (hV : VarsAt w0 va vars) (hn : ∀ v ∈ vars, v.name.data.toList.length ≤ 16) (hw : Way w0 w) (hC : CnAt w0 c vt vx vb vr) (hF : Md.Fit c vars.length) (hN : Nums c) (hk : c.kind = 8) (h : PageAt w0.heap.size b va L0 w) (hl : L0.length ≤ 500000000) :
    Calls Tryz.prog 23 #[.pointer (some ⟨b, 0, none⟩), .agg (sayC ⟨#[]⟩ 0 0 c.kind c.op vt c.k c.v c.x c.y vx vb vr)] w fun e w' => e = .returned (.tuple #[]) ∧ PageAt w0.heap.size b va (L0 ++ Md.conT vars c ++ [10]) w' ∧ Kq w0.heap.size w w' := by
  have _ := hC; have _ := hN
  rw [hk]
  have hd : (⟨#[116, 97, 98, 108, 101]⟩ : ByteArray).data.toList.length ≤ 8 := by decide
  have hx : Md.conT vars c = (⟨#[116, 97, 98, 108, 101]⟩ : ByteArray).data.toList ++ ((Md.namesT vars c.xs) ++ (Md.rowsT c.rows)) := by
    simp [Md.conT, Md.wordT, Md.restT, hk]
  have hT : ((Md.namesT vars c.xs) ++ (Md.rowsT c.rows)).length ≤ 1000000 := by
    have l0 := (namesT_len hn hF.xs)
    have l1 := (rowsT_len hN.r)
    have l9 := hF.tl
    have l8 := hF.xl
    have l7 := hF.bl
    have l6 := hF.rl
    simp only [List.length_append, List.length_cons, List.length_nil] at *
    omega
  refine (line_any b va L0 ((Md.namesT vars c.xs) ++ (Md.rowsT c.rows)) ⟨#[]⟩ 0 0 8 c.op vt c.k c.v c.x c.y vx vb vr ⟨#[116, 97, 98, 108, 101]⟩ 94 95 w hw look_8 enter_110 (fun w' hw' hp' => ?_) h (by rw [size_toList]; omega) hT).mono ?_
  · refine (form110 vars b va _ ⟨#[]⟩ 0 0 8 c.op vt c.k c.v c.x c.y vx vb vr w' hV hn hw' hC.x hF.xs hF.xl hC.r hN.r hF.rl hp' (by rw [List.length_append]; omega)).mono ?_
    rintro e w2 ⟨he, hp, hq⟩
    refine ⟨he, ?_, hq⟩
    simpa using hp
  · rintro e w2 ⟨he, hp, hq⟩
    exact ⟨he, app3 hp hx, hq⟩

/-- The line of a constraint. -/
theorem conLine_any {w0 : World} (vars : List Md.Vr) (b : Nat) (va : Value) (L0 : List UInt8) (c : Md.Cn) (vt vx vb vr : Value) (w : World) (hV : VarsAt w0 va vars) (hn : ∀ v ∈ vars, v.name.data.toList.length ≤ 16) (hw : Way w0 w) (hC : CnAt w0 c vt vx vb vr) (hF : Md.Fit c vars.length) (hN : Nums c) (h : PageAt w0.heap.size b va L0 w) (hl : L0.length ≤ 500000000) :
    Calls Tryz.prog 23 #[.pointer (some ⟨b, 0, none⟩), .agg (sayC ⟨#[]⟩ 0 0 c.kind c.op vt c.k c.v c.x c.y vx vb vr)] w fun e w' => e = .returned (.tuple #[]) ∧ PageAt w0.heap.size b va (L0 ++ Md.conT vars c ++ [10]) w' ∧ Kq w0.heap.size w w' := by
  have hkind := hF.kind
  have hop : c.kind = 1 ∨ c.kind = 9 → c.op = 1 ∨ c.op = 2 ∨ c.op = 3 := fun hk => by
    have := hF.op (by rcases hk with hk | hk <;> simp [Md.fOp, hk])
    omega
  rcases (show c.kind = 1 ∨ c.kind = 2 ∨ c.kind = 3 ∨ c.kind = 4 ∨ c.kind = 5 ∨ c.kind = 6 ∨ c.kind = 7 ∨ c.kind = 8 ∨ c.kind = 9 by omega) with hk | hk | hk | hk | hk | hk | hk | hk | hk
  · rcases hop (.inl hk) with ho | ho | ho
    · exact con_1a vars b va L0 c vt vx vb vr w hV hn hw hC hF hN hk ho h hl
    · exact con_1b vars b va L0 c vt vx vb vr w hV hn hw hC hF hN hk ho h hl
    · exact con_1c vars b va L0 c vt vx vb vr w hV hn hw hC hF hN hk ho h hl
  · exact con_2 vars b va L0 c vt vx vb vr w hV hn hw hC hF hN hk h hl
  · exact con_3 vars b va L0 c vt vx vb vr w hV hn hw hC hF hN hk h hl
  · exact con_4 vars b va L0 c vt vx vb vr w hV hn hw hC hF hN hk h hl
  · exact con_5 vars b va L0 c vt vx vb vr w hV hn hw hC hF hN hk h hl
  · exact con_6 vars b va L0 c vt vx vb vr w hV hn hw hC hF hN hk h hl
  · exact con_7 vars b va L0 c vt vx vb vr w hV hn hw hC hF hN hk h hl
  · exact con_8 vars b va L0 c vt vx vb vr w hV hn hw hC hF hN hk h hl
  · rcases hop (.inr hk) with ho | ho | ho
    · exact con_9a vars b va L0 c vt vx vb vr w hV hn hw hC hF hN hk ho h hl
    · exact con_9b vars b va L0 c vt vx vb vr w hV hn hw hC hF hN hk ho h hl
    · exact con_9c vars b va L0 c vt vx vb vr w hV hn hw hC hF hN hk ho h hl

/-- The line of a variable. -/
theorem varLine_any {w0 : World} (vars : List Md.Vr) (b : Nat) (va : Value) (L0 : List UInt8) (x : Md.Vr) (w : World) (hV : VarsAt w0 va vars) (hn : ∀ v ∈ vars, v.name.data.toList.length ≤ 16) (hw : Way w0 w) (hx : x.name.data.toList.length ≤ 16) (h1 : -1000000000 ≤ x.lo ∧ x.lo ≤ 1000000000) (h2 : -1000000000 ≤ x.hi ∧ x.hi ≤ 1000000000) (h : PageAt w0.heap.size b va L0 w) (hl : L0.length ≤ 500000000) :
    Calls Tryz.prog 23 #[.pointer (some ⟨b, 0, none⟩), .agg (sayC x.name x.lo x.hi 10 0 (.slice none 0 0) 0 0 0 0 (.slice none 0 0) (.slice none 0 0) (.slice none 0 0))] w fun e w' => e = .returned (.tuple #[]) ∧ PageAt w0.heap.size b va (L0 ++ Md.varT x ++ [10]) w' ∧ Kq w0.heap.size w w' := by
  have hd : (⟨#[118, 97, 114]⟩ : ByteArray).data.toList.length ≤ 8 := by decide
  have hxx : Md.varT x = (⟨#[118, 97, 114]⟩ : ByteArray).data.toList ++ ((32 :: x.name.data.toList) ++ (Md.numsT [x.lo, x.hi])) := by
    simp [Md.varT, Md.numsT]
  have hT : ((32 :: x.name.data.toList) ++ (Md.numsT [x.lo, x.hi])).length ≤ 1000000 := by
    have l0 := numsT_len (xs := [x.lo, x.hi]) (fun z hz => by simp at hz; rcases hz with rfl | rfl; exact h1; exact h2)
    simp only [List.length_append, List.length_cons, List.length_nil] at *
    omega
  refine (line_any b va L0 ((32 :: x.name.data.toList) ++ (Md.numsT [x.lo, x.hi])) x.name x.lo x.hi 10 0 _ 0 0 0 0 _ _ _ ⟨#[118, 97, 114]⟩ 75 76 w hw look_10 enter_91 (fun w' hw' hp' => ?_) h (by rw [size_toList]; omega) hT).mono ?_
  · refine (form91 vars b va _ x.name x.lo x.hi 10 0 _ 0 0 0 0 _ _ _ w' hV hn hw' hx (fun z hz => by simp at hz; rcases hz with rfl | rfl; exact h1; exact h2) hp' (by rw [List.length_append]; omega)).mono ?_
    rintro e w2 ⟨he, hp, hq⟩
    refine ⟨he, ?_, hq⟩
    simpa using hp
  · rintro e w2 ⟨he, hp, hq⟩
    exact ⟨he, app3 hp hxx, hq⟩

/-- The line of the goal. -/
theorem goalLine_any {w0 : World} (vars : List Md.Vr) (b : Nat) (va : Value) (L0 : List UInt8) (ts : List (Int × Int)) (vt : Value) (w : World) (hV : VarsAt w0 va vars) (hn : ∀ v ∈ vars, v.name.data.toList.length ≤ 16) (hw : Way w0 w) (hts : TermsAt w0 vt ts) (htx : ∀ t ∈ ts, 0 ≤ t.2 ∧ t.2 < (vars.length : Int)) (htc : ∀ t ∈ ts, -1000000 ≤ t.1 ∧ t.1 ≤ 1000000) (htl : ts.length ≤ 64) (h : PageAt w0.heap.size b va L0 w) (hl : L0.length ≤ 500000000) :
    Calls Tryz.prog 23 #[.pointer (some ⟨b, 0, none⟩), .agg (sayC ⟨#[]⟩ 0 0 11 0 vt 0 0 0 0 (.slice none 0 0) (.slice none 0 0) (.slice none 0 0))] w fun e w' => e = .returned (.tuple #[]) ∧ PageAt w0.heap.size b va (L0 ++ (109 :: 105 :: 110 :: 105 :: 109 :: 105 :: 122 :: 101 :: Md.sumT vars ts) ++ [10]) w' ∧ Kq w0.heap.size w w' := by
  have hd : (⟨#[109, 105, 110, 105, 109, 105, 122, 101]⟩ : ByteArray).data.toList.length ≤ 8 := by decide
  have hT : (Md.sumT vars ts).length ≤ 1000000 := by
    have l0 := sumT_len hn htx htc
    omega
  refine (line_any b va L0 (Md.sumT vars ts) ⟨#[]⟩ 0 0 11 0 vt 0 0 0 0 _ _ _ ⟨#[109, 105, 110, 105, 109, 105, 122, 101]⟩ 99 100 w hw look_11 enter_115 (fun w' hw' hp' => ?_) h (by rw [size_toList]; omega) hT).mono ?_
  · refine (form115 vars b va _ ⟨#[]⟩ 0 0 11 0 vt 0 0 0 0 _ _ _ w' hV hn hw' hts htx htc htl hp' (by rw [List.length_append]; omega)).mono ?_
    rintro e w2 ⟨he, hp, hq⟩
    exact ⟨he, hp, hq⟩
  · rintro e w2 ⟨he, hp, hq⟩
    exact ⟨he, app3 hp rfl, hq⟩
end Go.Proofs.YthohnmplbjhjaaaGreatDoor