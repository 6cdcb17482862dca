/-
  PbAgain, walked.
-/
import Derived.Test.YtjffbndiecjkjaaGreatDoorPbForms
namespace Go.Proofs.YtjffbndiecjkjaaGreatDoor
open Go.Shelf Go.RowKit Go.Lib Go.Sort
open Bn (limbs)

/-- The three rows that came in, in their boxes. -/
structure Came3 (w : World) (u1 u2 u3 : Value) (d1 d2 d3 : ByteArray) (wr : World) : Prop where
  o1 : wr.heap[w.heap.size]? = some (.cells #[u1, .string d1] 24)
  o2 : wr.heap[w.heap.size + 1]? = some (.cells #[u2, .string d2] 24)
  o3 : wr.heap[w.heap.size + 1 + 1]? = some (.cells #[u3, .string d3] 24)
  rest : RowKit.Below w.heap.size w wr
theorem Came3.below {w : World} {u1 u2 u3 : Value} {d1 d2 d3 : ByteArray} {wr w' : World} (h : Came3 w u1 u2 u3 d1 d2 d3 wr) (hb : RowKit.Below wr.heap.size wr w') : Came3 w u1 u2 u3 d1 d2 d3 w' :=
  ⟨(hb.block _ (Array.getElem?_eq_some_iff.1 h.o1).1).trans h.o1, (hb.block _ (Array.getElem?_eq_some_iff.1 h.o2).1).trans h.o2, (hb.block _ (Array.getElem?_eq_some_iff.1 h.o3).1).trans h.o3, h.rest.trans (hb.mono h.rest.size)⟩
theorem Came3.cells {w : World} {u1 u2 u3 : Value} {d1 d2 d3 : ByteArray} {wr : World} (h : Came3 w u1 u2 u3 d1 d2 d3 wr) : wr.cell? ⟨w.heap.size, 0, none⟩ = some u1 ∧ wr.cell? ⟨w.heap.size, 1, none⟩ = some (.string d1) ∧ wr.cell? ⟨w.heap.size + 1, 0, none⟩ = some u2 ∧ wr.cell? ⟨w.heap.size + 1, 1, none⟩ = some (.string d2) ∧ wr.cell? ⟨w.heap.size + 1 + 1, 0, none⟩ = some u3 ∧ wr.cell? ⟨w.heap.size + 1 + 1, 1, none⟩ = some (.string d3) := by
  refine ⟨?_, ?_, ?_, ?_, ?_, ?_⟩
  · simp [World.cell?, h.o1]
  · simp [World.cell?, h.o1]
  · simp [World.cell?, h.o2]
  · simp [World.cell?, h.o2]
  · simp [World.cell?, h.o3]
  · simp [World.cell?, h.o3]

/-- A row that Of made, in its box. -/
structure MadeRow (ls : List (ByteArray × Int)) (deg : ByteArray) (er : Int) (B : Nat) (a : Option Addr) (N c : Nat) (n : Int) (q : Option Addr) (K : List (Int × Int)) (D : Int) (wr : World) : Prop where
  box : wr.heap[B]? = some (.cells #[.slice a N c, .int .i64 n, .pointer q] 35)
  pb : PbAt wr (.agg #[.slice a N c, .int .i64 n, .pointer q]) K D
  len : K.length = N
  good : er = 0 → Gd 3000 3002 K D
theorem MadeRow.below {ls : List (ByteArray × Int)} {deg : ByteArray} {er : Int} {B : Nat} {a : Option Addr} {N c : Nat} {n : Int} {q : Option Addr} {K : List (Int × Int)} {D : Int} {wr w' : World} (h : MadeRow ls deg er B a N c n q K D wr) (hb : RowKit.Below wr.heap.size wr w') : MadeRow ls deg er B a N c n q K D w' :=
  ⟨(hb.block _ (Array.getElem?_eq_some_iff.1 h.box).1).trans h.box, h.pb.below hb, h.len, h.good⟩
theorem MadeRow.cells {ls : List (ByteArray × Int)} {deg : ByteArray} {er : Int} {B : Nat} {a : Option Addr} {N c : Nat} {n : Int} {q : Option Addr} {K : List (Int × Int)} {D : Int} {wr : World} (h : MadeRow ls deg er B a N c n q K D wr) : wr.cell? ⟨B, 0, none⟩ = some (.slice a N c) ∧ wr.cell? ⟨B, 1, none⟩ = some (.int .i64 n) ∧ wr.cell? ⟨B, 2, none⟩ = some (.pointer q) := by
  obtain ⟨x0, x1, x2, _, _, _⟩ := box3_facts h.box
  exact ⟨x0, x1, x2⟩
/-- Of, for a row of few parts. -/
theorem of_few (ls : List (ByteArray × Int)) (pv : Value) (deg : ByteArray) (w : World) (hA : ApAt w pv ls) (hf : 1 + deg.size + partsN ls ≤ 3000) :
    Calls Tryz.prog 10 #[.agg #[pv, .string deg]] w fun e w' => ∃ a N c n q K D er, e = .returned (.tuple #[.agg #[.slice a N c, .int .i64 n, .pointer q], .int .i64 er]) ∧ RowKit.Below w.heap.size w w' ∧ ∀ V, w'.alloc (.cells #[.slice a N c, .int .i64 n, .pointer q] 35) = V → MadeRow ls deg er w'.heap.size a N c n q K D V ∧ RowKit.Below w'.heap.size w' V := by
  have hlab : (limbs (Pm.absS (ofPs ls))).length ≤ 3001 := parts_len (by omega)
  have hlde : (limbs ((parseZ deg.data.toList).getD 0).natAbs).length ≤ 3000 := Nat.le_trans (parse_len _) (by simp; omega)
  have hpc := parts_count ls
  refine (of_row ls pv deg w hA (by omega) (fun p hp => by have := parts_size hp; omega) (by omega) (Nat.le_trans hlab (by decide)) (Nat.le_trans hlde (by decide))).mono ?_
  rintro e w' ⟨r, K, D, rfl, hpb, hlit, hlen, hb, hform, _⟩
  obtain ⟨a, c, n, q, rfl, h1, h2⟩ := hpb
  refine ⟨a, K.length, c, n, q, K, D, _, rfl, hb, fun V hV => ?_⟩
  obtain ⟨hO, hbV⟩ := new_obj w' _ hV
  refine ⟨⟨hO, PbAt.below ⟨a, c, n, q, rfl, h1, h2⟩ hbV, rfl, fun h0 => ?_⟩, hbV⟩
  have hF := hform h0
  have hs := form_sizes hF hlab (Nat.le_trans hlde (by decide))
  exact ⟨hF.rises, hF.sound, hlit, by omega, Nat.le_trans hs.1 (by decide), hs.2.1, hs.2.2⟩

set_option maxRecDepth 100000 in
set_option maxHeartbeats 8000000 in
theorem pbAgain_walk (l1 l2 l3 : List (ByteArray × Int)) (u1 u2 u3 : Value) (d1 d2 d3 s : ByteArray) (w : World) (hA1 : ApAt w u1 l1) (hA2 : ApAt w u2 l2) (hA3 : ApAt w u3 l3)
    (hs1 : ∀ p ∈ l1, p.1.size ≤ maxLen) (hs2 : ∀ p ∈ l2, p.1.size ≤ maxLen) (hs3 : ∀ p ∈ l3, p.1.size ≤ maxLen) (hd1 : d1.size ≤ maxLen) (hd2 : d2.size ≤ maxLen) (hd3 : d3.size ≤ maxLen) (ht : Tab w) :
    Calls Tryz.prog 5 #[.agg #[u1, .string d1], .agg #[u2, .string d2], .agg #[u3, .string d3], .string s] w fun e w' => e = .returned (.bool true) ∧ RowKit.Below w.heap.size w w' := by
  have HA1 : Hid (ApAt w u1 l1) := hA1
  have HA2 : Hid (ApAt w u2 l2) := hA2
  have HA3 : Hid (ApAt w u3 l3) := hA3
  have HF1 : Hid (∀ w', RowKit.Below w.heap.size w w' → Calls Tryz.prog 8 #[.agg #[u1, .string d1]] w' fun e w'' => ∃ b, e = .returned (.bool b) ∧ (b = true → 1 + d1.size + partsN l1 ≤ 3000) ∧ RowKit.Below w'.heap.size w' w'') := fun w' hb => few_any l1 _ d1 w' (HA1.out.below hb) hs1 hd1
  have HF2 : Hid (∀ w', RowKit.Below w.heap.size w w' → Calls Tryz.prog 8 #[.agg #[u2, .string d2]] w' fun e w'' => ∃ b, e = .returned (.bool b) ∧ (b = true → 1 + d2.size + partsN l2 ≤ 3000) ∧ RowKit.Below w'.heap.size w' w'') := fun w' hb => few_any l2 _ d2 w' (HA2.out.below hb) hs2 hd2
  have HF3 : Hid (∀ w', RowKit.Below w.heap.size w w' → Calls Tryz.prog 8 #[.agg #[u3, .string d3]] w' fun e w'' => ∃ b, e = .returned (.bool b) ∧ (b = true → 1 + d3.size + partsN l3 ≤ 3000) ∧ RowKit.Below w'.heap.size w' w'') := fun w' hb => few_any l3 _ d3 w' (HA3.out.below hb) hs3 hd3
  have HT : Hid (Tab w) := ht
  obtain ⟨W, hW⟩ : ∃ W, ((w.alloc (.cells #[u1, .string d1] 24)).alloc (.cells #[u2, .string d2] 24)).alloc (.cells #[u3, .string d3] 24) = W := ⟨_, rfl⟩
  obtain ⟨hO1, hO2, hO3, hbW, _⟩ := three_objs w _ _ _ hW
  have HC : Hid (Came3 w u1 u2 u3 d1 d2 d3 W) := ⟨hO1, hO2, hO3, hbW⟩
  obtain ⟨a1, c1, rfl, hx1, hx2, hx3⟩ := hA1
  clear hx1 hx2 hx3
  obtain ⟨a2, c2, rfl, hx1, hx2, hx3⟩ := hA2
  clear hx1 hx2 hx3
  obtain ⟨a3, c3, rfl, hx1, hx2, hx3⟩ := hA3
  clear hx1 hx2 hx3
  generalize l1.length = N1 at *
  generalize l2.length = N2 at *
  generalize l3.length = N3 at *
  clear hs1 hs2 hs3 hd1 hd2 hd3 ht hO1 hO2 hO3 hbW
  go_enter Tryz.func5, Tryz.ntmps5
  go_wp2_with fail
  refine (known_any W (HT.out.under HC.out.rest)).mono ?_
  rintro e w1 ⟨rfl, hb⟩
  have HC : Hid (Came3 w _ _ _ d1 d2 d3 w1) := HC.out.below hb
  obtain ⟨k0, k1, k2, k3, k4, k5⟩ := HC.out.cells
  clear hb hW
  go_wp2_with fail
  refine (HF1.out w1 HC.out.rest).mono ?_
  rintro e w2 ⟨b, rfl, hf, hb⟩
  have HC : Hid (Came3 w _ _ _ d1 d2 d3 w2) := HC.out.below hb
  clear hb k0 k1 k2 k3 k4 k5
  cases b with
  | false =>
    go_wp2_with fail
    go_ret
    exact ⟨rfl, HC.out.rest⟩
  | true =>
  have Hp1 : Hid (1 + d1.size + partsN l1 ≤ 3000) := hf rfl
  obtain ⟨k0, k1, k2, k3, k4, k5⟩ := HC.out.cells
  clear hf
  go_wp2_with fail
  refine (HF2.out w2 HC.out.rest).mono ?_
  rintro e w3 ⟨b, rfl, hf, hb⟩
  have HC : Hid (Came3 w _ _ _ d1 d2 d3 w3) := HC.out.below hb
  clear hb k0 k1 k2 k3 k4 k5
  cases b with
  | false =>
    go_wp2_with fail
    go_ret
    exact ⟨rfl, HC.out.rest⟩
  | true =>
  have Hp2 : Hid (1 + d2.size + partsN l2 ≤ 3000) := hf rfl
  obtain ⟨k0, k1, k2, k3, k4, k5⟩ := HC.out.cells
  clear hf
  go_wp2_with fail
  refine (HF3.out w3 HC.out.rest).mono ?_
  rintro e w4 ⟨b, rfl, hf, hb⟩
  have HC : Hid (Came3 w _ _ _ d1 d2 d3 w4) := HC.out.below hb
  clear hb k0 k1 k2 k3 k4 k5
  cases b with
  | false =>
    go_wp2_with fail
    go_ret
    exact ⟨rfl, HC.out.rest⟩
  | true =>
  have Hp3 : Hid (1 + d3.size + partsN l3 ≤ 3000) := hf rfl
  obtain ⟨k0, k1, k2, k3, k4, k5⟩ := HC.out.cells
  clear hf
  by_cases hs : s.size ≤ 300
  case neg =>
    have hsI : (300 : Int) < (s.size : Int) := by omega
    go_wp2_with fail
    go_ret
    exact ⟨rfl, HC.out.rest⟩
  have hsI : ¬ (300 : Int) < (s.size : Int) := by omega
  go_wp2_with fail
  refine (of_few l1 _ d1 w4 (HA1.out.below HC.out.rest) Hp1.out).mono ?_
  rintro e w5 ⟨ax, Nx, cx, nx, qx, X, x, e1, rfl, hb, hV⟩
  have HC : Hid (Came3 w _ _ _ d1 d2 d3 w5) := HC.out.below hb
  obtain ⟨V5, hV5⟩ : ∃ V, w5.alloc (.cells #[.slice ax Nx cx, .int .i64 nx, .pointer qx] 35) = V := ⟨_, rfl⟩
  obtain ⟨hM, hb5⟩ := hV V5 hV5
  have HX : Hid (MadeRow l1 d1 e1 w5.heap.size ax Nx cx nx qx X x V5) := hM
  have HC : Hid (Came3 w _ _ _ d1 d2 d3 V5) := HC.out.below hb5
  clear hb hM hb5 hV k0 k1 k2 k3 k4 k5 hsI
  obtain ⟨k0, k1, k2, k3, k4, k5⟩ := HC.out.cells
  go_wp2_with fail
  refine (of_few l2 _ d2 V5 (HA2.out.below HC.out.rest) Hp2.out).mono ?_
  rintro e w6 ⟨ay, Ny, cy, ny, qy, Y, y, e2, rfl, hb, hV⟩
  obtain ⟨V6, hV6⟩ : ∃ V, w6.alloc (.cells #[.slice ay Ny cy, .int .i64 ny, .pointer qy] 35) = V := ⟨_, rfl⟩
  obtain ⟨hM, hb6⟩ := hV V6 hV6
  have HY : Hid (MadeRow l2 d2 e2 w6.heap.size ay Ny cy ny qy Y y V6) := hM
  have HX : Hid (MadeRow l1 d1 e1 w5.heap.size ax Nx cx nx qx X x V6) := (HX.out.below hb).below hb6
  have HC : Hid (Came3 w _ _ _ d1 d2 d3 V6) := (HC.out.below hb).below hb6
  clear hb hM hb6 hV k0 k1 k2 k3 k4 k5 hV5
  obtain ⟨k0, k1, k2, k3, k4, k5⟩ := HC.out.cells
  go_wp2_with fail
  refine (of_few l3 _ d3 V6 (HA3.out.below HC.out.rest) Hp3.out).mono ?_
  rintro e w7 ⟨az, Nz, cz, nz, qz, Z, z, e3, rfl, hb, hV⟩
  obtain ⟨V7, hV7⟩ : ∃ V, w7.alloc (.cells #[.slice az Nz cz, .int .i64 nz, .pointer qz] 35) = V := ⟨_, rfl⟩
  obtain ⟨hM, hb7⟩ := hV V7 hV7
  have HZ : Hid (MadeRow l3 d3 e3 w7.heap.size az Nz cz nz qz Z z V7) := hM
  have HY : Hid (MadeRow l2 d2 e2 w6.heap.size ay Ny cy ny qy Y y V7) := (HY.out.below hb).below hb7
  have HX : Hid (MadeRow l1 d1 e1 w5.heap.size ax Nx cx nx qx X x V7) := (HX.out.below hb).below hb7
  have HC : Hid (Came3 w _ _ _ d1 d2 d3 V7) := (HC.out.below hb).below hb7
  clear hb hM hb7 hV k0 k1 k2 k3 k4 k5 hV6
  go_wp2_with fail
  refine (parse_any s V7 (by omega)).mono ?_
  have Hkl : Hid ((limbs ((parseZ s.data.toList).getD 0).natAbs).length ≤ 300) := Nat.le_trans (parse_len _) (by simp; omega)
  generalize errOf (parseZ s.data.toList) = ek at *
  generalize (parseZ s.data.toList).getD 0 = k at *
  rintro e w8 ⟨r, rfl, hB, hb⟩
  obtain ⟨nk, qk, rfl⟩ := hB.shape
  obtain ⟨V8, hV8⟩ : ∃ V, w8.alloc (.cells #[.int .i64 nk, .pointer qk] 33) = V := ⟨_, rfl⟩
  obtain ⟨hO8, hb8⟩ := new_obj w8 _ hV8
  have HZ : Hid (MadeRow l3 d3 e3 w7.heap.size az Nz cz nz qz Z z V8) := (HZ.out.below hb).below hb8
  have HY : Hid (MadeRow l2 d2 e2 w6.heap.size ay Ny cy ny qy Y y V8) := (HY.out.below hb).below hb8
  have HX : Hid (MadeRow l1 d1 e1 w5.heap.size ax Nx cx nx qx X x V8) := (HX.out.below hb).below hb8
  have HC : Hid (Came3 w _ _ _ d1 d2 d3 V8) := (HC.out.below hb).below hb8
  have HB : Hid (BigAt V8 (.agg #[.int .i64 nk, .pointer qk]) k) := hB.below hb8
  have HO8 : Hid (V8.heap[w8.heap.size]? = some (.cells #[.int .i64 nk, .pointer qk] 33)) := hO8
  have HNu : Hid (∀ e w', Calls Tryz.prog 11 #[.int .i64 e] w' fun e' w'' => e' = .returned (.int .i64 e) ∧ w'' = w') := fun e w' => num_any e w'
  clear hb hB hb8 hO8 hV7 hs
  by_cases h1 : e1 = 0
  case neg =>
    have hb1 : (e1 == 0) = false := beq_eq_false_iff_ne.2 h1
    go_wp2_with (first | (go_at_call 11; refine calls_at (HNu.out e1 _) (by with_reducible rfl) (by with_reducible rfl) ?_; rintro e w9 ⟨rfl, hww⟩; rw [hww]))
    go_ret
    exact ⟨rfl, HC.out.rest⟩
  subst h1
  by_cases h2 : e2 = 0
  case neg =>
    have hb1 : (e2 == 0) = false := beq_eq_false_iff_ne.2 h2
    go_wp2_with (first | (go_at_call 11; first | refine calls_at (HNu.out 0 _) (by with_reducible rfl) (by with_reducible rfl) ?_ | refine calls_at (HNu.out e2 _) (by with_reducible rfl) (by with_reducible rfl) ?_); (rintro e w9 ⟨rfl, hww⟩; rw [hww]))
    go_ret
    exact ⟨rfl, HC.out.rest⟩
  subst h2
  by_cases h3 : e3 = 0
  case neg =>
    have hb1 : (e3 == 0) = false := beq_eq_false_iff_ne.2 h3
    go_wp2_with (first | (go_at_call 11; first | refine calls_at (HNu.out 0 _) (by with_reducible rfl) (by with_reducible rfl) ?_ | refine calls_at (HNu.out e3 _) (by with_reducible rfl) (by with_reducible rfl) ?_); (rintro e w9 ⟨rfl, hww⟩; rw [hww]))
    go_ret
    exact ⟨rfl, HC.out.rest⟩
  subst h3
  have Gx : Hid (Gd 3000 3002 X x) := HX.out.good rfl
  have Gy : Hid (Gd 3000 3002 Y y) := HY.out.good rfl
  have Gz : Hid (Gd 3000 3002 Z z) := HZ.out.good rfl
  go_wp2_with (first | (go_at_call 11; refine calls_at (HNu.out 0 _) (by with_reducible rfl) (by with_reducible rfl) ?_; rintro e w9 ⟨rfl, hww⟩; rw [hww]))
  have HW : Hid (RowKit.Below V8.heap.size V8 V8.drew) := (Below.refl _ _).drew
  have HTv : Hid (∀ w', RowKit.Below V8.heap.size V8 w' → Tab w') := fun w' hb => HT.out.under (HC.out.rest.trans (hb.mono HC.out.rest.size))
  have HXY : Hid (∀ w', RowKit.Below V8.heap.size V8 w' → Calls Tryz.prog 21 #[.agg #[.slice ax Nx cx, .int .i64 nx, .pointer qx], .agg #[.slice ay Ny cy, .int .i64 ny, .pointer qy]] w' (AddO w' X x Y y 6000 3004)) := fun w' hb => add_gd _ _ X Y x y w' (HX.out.pb.below hb) (HY.out.pb.below hb) Gx.out Gy.out (by decide) (by decide) (by decide) (by decide)
  have HYX : Hid (∀ w', RowKit.Below V8.heap.size V8 w' → Calls Tryz.prog 21 #[.agg #[.slice ay Ny cy, .int .i64 ny, .pointer qy], .agg #[.slice ax Nx cx, .int .i64 nx, .pointer qx]] w' (AddO w' Y y X x 6000 3004)) := fun w' hb => add_gd _ _ Y X y x w' (HY.out.pb.below hb) (HX.out.pb.below hb) Gy.out Gx.out (by decide) (by decide) (by decide) (by decide)
  have HYZ : Hid (∀ w', RowKit.Below V8.heap.size V8 w' → Calls Tryz.prog 21 #[.agg #[.slice ay Ny cy, .int .i64 ny, .pointer qy], .agg #[.slice az Nz cz, .int .i64 nz, .pointer qz]] w' (AddO w' Y y Z z 6000 3004)) := fun w' hb => add_gd _ _ Y Z y z w' (HY.out.pb.below hb) (HZ.out.pb.below hb) Gy.out Gz.out (by decide) (by decide) (by decide) (by decide)
  have HX0 : Hid (∀ w', RowKit.Below V8.heap.size V8 w' → Calls Tryz.prog 21 #[.agg #[.slice ax Nx cx, .int .i64 nx, .pointer qx], .agg #[.slice none 0 0, .int .i64 0, .pointer none]] w' (AddO w' X x [] 0 6000 3004)) := fun w' hb => add_gd _ _ X [] x 0 w' (HX.out.pb.below hb) (PbAt.zero w') Gx.out (Gd.zero 3000 3002) (by decide) (by decide) (by decide) (by decide)
  have HSx : Hid (∀ w', RowKit.Below V8.heap.size V8 w' → Calls Tryz.prog 25 #[.agg #[.slice ax Nx cx, .int .i64 nx, .pointer qx]] w' fun e w'' => ∃ r, e = .returned r ∧ PbAt w'' r (satK X x) x ∧ RowKit.Below w'.heap.size w' w'') := fun w' hb => sat_gd _ X x w' (HX.out.pb.below hb) Gx.out (by decide) (by decide)
  have HSs : Hid (∀ w' r, PbAt w' r (satK X x) x → Calls Tryz.prog 25 #[r] w' fun e w'' => ∃ r, e = .returned r ∧ PbAt w'' r (satK X x) x ∧ RowKit.Below w'.heap.size w' w'') := fun w' r h => sat2_gd r X x w' h Gx.out (by decide) (by decide)
  have HSm : Hid (∀ w' r r' A B a b, RowKit.Below V8.heap.size V8 w' → PbAt w' r A a → PbAt w' r' B b → A = B ∧ a = b → Gd 9000 3006 A a → Calls Tryz.prog 12 #[r, r'] w' fun e w'' => e = .returned (.bool true) ∧ RowKit.Below w'.heap.size w' w'') := fun w' r r' A B a b hb h h' he g => same_gd r r' A B a b w' h h' he (Nat.le_trans g.len (by decide)) (g.mem (by decide)) (Nat.le_trans g.dg (by decide)) (HTv.out w' hb)
  have HSt : Hid (∀ w' r r', RowKit.Below V8.heap.size V8 w' → PbAt w' r (satK X x) x → PbAt w' r' (satK X x) x → Calls Tryz.prog 12 #[r, r'] w' fun e w'' => e = .returned (.bool true) ∧ RowKit.Below w'.heap.size w' w'') := fun w' r r' hb h h' => same_gd r r' _ _ _ _ w' h h' ⟨rfl, rfl⟩ (Nat.le_trans (sat_abs Gx.out).2 (by decide)) (sat_mem Gx.out (by decide)) (Nat.le_trans Gx.out.dg (by decide)) (HTv.out w' hb)
  have HAl : Hid (∀ w', RowKit.Below V8.heap.size V8 w' → w'.cell? ⟨w5.heap.size, 0, none⟩ = some (.slice ax Nx cx) ∧ w'.cell? ⟨w5.heap.size, 1, none⟩ = some (.int .i64 nx) ∧ w'.cell? ⟨w5.heap.size, 2, none⟩ = some (.pointer qx) ∧ w'.cell? ⟨w6.heap.size, 0, none⟩ = some (.slice ay Ny cy) ∧ w'.cell? ⟨w6.heap.size, 1, none⟩ = some (.int .i64 ny) ∧ w'.cell? ⟨w6.heap.size, 2, none⟩ = some (.pointer qy)) := fun w' hb => by
    obtain ⟨x0, x1, x2⟩ := (HX.out.below hb).cells
    obtain ⟨y0, y1, y2⟩ := (HY.out.below hb).cells
    exact ⟨x0, x1, x2, y0, y1, y2⟩
  refine wp_region_T (fun w' => w'.cell? ⟨w5.heap.size, 0, none⟩ = some (.slice ax Nx cx) ∧ w'.cell? ⟨w5.heap.size, 1, none⟩ = some (.int .i64 nx) ∧ w'.cell? ⟨w5.heap.size, 2, none⟩ = some (.pointer qx) ∧ w'.cell? ⟨w6.heap.size, 0, none⟩ = some (.slice ay Ny cy) ∧ w'.cell? ⟨w6.heap.size, 1, none⟩ = some (.int .i64 ny) ∧ w'.cell? ⟨w6.heap.size, 2, none⟩ = some (.pointer qy)) (fun _ => True) [] (by kernel_rfl) ⟨HAl.out _ HW.out, trivial⟩ (fun hHeld => ?_)
  refine wpAnyT_takeB (i := 0) (oi := ⟨some 75, .load 35 (.tmp 9), _, _, _, _⟩) (v := ?vR11c1x0) rfl (by kernel_rfl) (by kernel_rfl) (by kernel_rfl) (by kernel_rfl) (fun _ _ _ h => h) (Or.inl ⟨by rfl, ?hyR11c1x0⟩) (by assumption) ?restR11c1x0
  case hyR11c1x0 => (intro w hSw; (try dsimp only at hSw); go_simp; try (with_reducible rfl))
  try simp only [Act.put, List.setIfInBounds_toArray, List.set_cons_zero, List.set_cons_succ]
  refine wpAnyT_takeB (i := 1) (oi := ⟨some 76, .load 35 (.tmp 11), _, _, _, _⟩) (v := ?vR11c1x1) rfl (by kernel_rfl) (by kernel_rfl) (by kernel_rfl) (by kernel_rfl) (fun _ _ _ h => h) (Or.inl ⟨by rfl, ?hyR11c1x1⟩) (by assumption) ?restR11c1x1
  case hyR11c1x1 => (intro w hSw; (try dsimp only at hSw); go_simp; try (with_reducible rfl))
  try simp only [Act.put, List.setIfInBounds_toArray, List.set_cons_zero, List.set_cons_succ]
  refine wpAnyT_takeB (i := 3) (oi := ⟨some 78, .load 35 (.tmp 11), _, _, _, _⟩) (v := ?vR11c1x3) rfl (by kernel_rfl) (by kernel_rfl) (by kernel_rfl) (by kernel_rfl) (fun _ _ _ h => h) (Or.inl ⟨by rfl, ?hyR11c1x3⟩) (by assumption) ?restR11c1x3
  case hyR11c1x3 => (intro w hSw; (try dsimp only at hSw); go_simp; try (with_reducible rfl))
  try simp only [Act.put, List.setIfInBounds_toArray, List.set_cons_zero, List.set_cons_succ]
  refine wpAnyT_takeB (i := 4) (oi := ⟨some 79, .load 35 (.tmp 9), _, _, _, _⟩) (v := ?vR11c1x4) rfl (by kernel_rfl) (by kernel_rfl) (by kernel_rfl) (by kernel_rfl) (fun _ _ _ h => h) (Or.inl ⟨by rfl, ?hyR11c1x4⟩) (by assumption) ?restR11c1x4
  case hyR11c1x4 => (intro w hSw; (try dsimp only at hSw); go_simp; try (with_reducible rfl))
  try simp only [Act.put, List.setIfInBounds_toArray, List.set_cons_zero, List.set_cons_succ]
  refine wpAnyT_one (i := 2) (o := ⟨some 77, .call { callee := .value (.func 21), args := #[(.tmp 75), (.tmp 76)], argTypes := #[35, 35] }, _, _, _, _⟩) (by kernel_rfl) rfl (fun K hK => ?_)
  go_simp
  refine calls_at (HXY.out V8.drew HW.out) (by with_reducible rfl) (by with_reducible rfl) ?_
  rintro e g20 ⟨rxy, Kxy, Dxy, rfl, hf, hp, hg, hb⟩
  have Hxy : Hid (Pm.IsForm _ _ Kxy Dxy ∧ PbAt g20 rxy Kxy Dxy ∧ Gd _ _ Kxy Dxy) := ⟨hf, hp, hg⟩
  have HW : Hid (RowKit.Below V8.heap.size V8 g20) := HW.out.trans (hb.mono HW.out.size)
  clear hf hp hg hb
  go_wp2_with fail
  refine hK.out _ _ ⟨HAl.out _ HW.out, fun _ => trivial⟩ ?_
  have hHeld := (⟨HAl.out _ HW.out, trivial⟩ : _ ∧ True)
  clear hK K
  try simp only [Act.put, List.setIfInBounds_toArray, List.set_cons_zero, List.set_cons_succ]
  refine wpAnyT_one (i := 5) (o := ⟨some 80, .call { callee := .value (.func 21), args := #[(.tmp 78), (.tmp 79)], argTypes := #[35, 35] }, _, _, _, _⟩) (by kernel_rfl) rfl (fun K hK => ?_)
  go_simp
  refine calls_at (HYX.out g20 HW.out) (by with_reducible rfl) (by with_reducible rfl) ?_
  rintro e g21 ⟨ryx, Kyx, Dyx, rfl, hf, hp, hg, hb⟩
  have Hyx : Hid (Pm.IsForm _ _ Kyx Dyx ∧ PbAt g21 ryx Kyx Dyx ∧ Gd _ _ Kyx Dyx) := ⟨hf, hp, hg⟩
  have Hxy : Hid (Pm.IsForm _ _ Kxy Dxy ∧ PbAt g21 rxy Kxy Dxy ∧ Gd _ _ Kxy Dxy) := ⟨Hxy.out.1, Hxy.out.2.1.below hb, Hxy.out.2.2⟩
  have HW : Hid (RowKit.Below V8.heap.size V8 g21) := HW.out.trans (hb.mono HW.out.size)
  clear hf hp hg hb
  go_wp2_with fail
  refine hK.out _ _ ⟨HAl.out _ HW.out, fun _ => trivial⟩ ?_
  have hHeld := (⟨HAl.out _ HW.out, trivial⟩ : _ ∧ True)
  clear hK K
  try simp only [Act.put, List.setIfInBounds_toArray, List.set_cons_zero, List.set_cons_succ]
  refine wpAnyT_one (i := 6) (o := ⟨some 81, .call { callee := .value (.func 12), args := #[(.tmp 77), (.tmp 80)], argTypes := #[35, 35] }, _, _, _, _⟩) (by kernel_rfl) rfl (fun K hK => ?_)
  go_simp
  refine calls_at (HSm.out g21 _ _ _ _ _ _ HW.out Hxy.out.2.1 Hyx.out.2.1 (sum_swap Hxy.out.1 Hyx.out.1) (Hxy.out.2.2.mono (by decide) (by decide))) (by with_reducible rfl) (by with_reducible rfl) ?_
  rintro e g22 ⟨rfl, hb⟩

  have HW : Hid (RowKit.Below V8.heap.size V8 g22) := HW.out.trans (hb.mono HW.out.size)
  clear hb
  go_wp2_with fail
  refine hK.out _ _ ⟨HAl.out _ HW.out, fun _ => trivial⟩ ?_
  have hHeld := (⟨HAl.out _ HW.out, trivial⟩ : _ ∧ True)
  clear hK K
  try simp only [Act.put, List.setIfInBounds_toArray, List.set_cons_zero, List.set_cons_succ]
  refine wpAnyT_takeB (i := 7) (oi := ⟨some 82, .unOp .not 4 (.tmp 81), _, _, _, _⟩) (v := ?vR11c1x7) rfl (by kernel_rfl) (by kernel_rfl) (by kernel_rfl) (by kernel_rfl) (fun _ _ _ h => h) (Or.inl ⟨by rfl, ?hyR11c1x7⟩) (by assumption) ?restR11c1x7
  case hyR11c1x7 => (intro w hSw; (try dsimp only at hSw); go_simp; try (with_reducible rfl))
  try simp only [Act.put, List.setIfInBounds_toArray, List.set_cons_zero, List.set_cons_succ]
  refine wpAnyT_takeB (i := 8) (oi := ⟨some 83, .move (.tmp 82), _, _, _, _⟩) (v := ?vR11c1x8) rfl (by kernel_rfl) (by kernel_rfl) (by kernel_rfl) (by kernel_rfl) (fun _ _ _ h => h) (Or.inl ⟨by rfl, ?hyR11c1x8⟩) (by assumption) ?restR11c1x8
  case hyR11c1x8 => (intro w hSw; (try dsimp only at hSw); go_simp; try (with_reducible rfl))
  try simp only [Act.put, List.setIfInBounds_toArray, List.set_cons_zero, List.set_cons_succ]
  refine wpAnyT_takeB (i := 9) (oi := ⟨some 84, .load 35 (.tmp 9), _, _, _, _⟩) (v := ?vR11c1x9) rfl (by kernel_rfl) (by kernel_rfl) (by kernel_rfl) (by kernel_rfl) (fun _ _ _ h => h) (Or.inl ⟨by rfl, ?hyR11c1x9⟩) (by assumption) ?restR11c1x9
  case hyR11c1x9 => (intro w hSw; (try dsimp only at hSw); go_simp; try (with_reducible rfl))
  try simp only [Act.put, List.setIfInBounds_toArray, List.set_cons_zero, List.set_cons_succ]
  refine wpAnyT_takeB (i := 12) (oi := ⟨some 87, .load 35 (.tmp 9), _, _, _, _⟩) (v := ?vR11c1x12) rfl (by kernel_rfl) (by kernel_rfl) (by kernel_rfl) (by kernel_rfl) (fun _ _ _ h => h) (Or.inl ⟨by rfl, ?hyR11c1x12⟩) (by assumption) ?restR11c1x12
  case hyR11c1x12 => (intro w hSw; (try dsimp only at hSw); go_simp; try (with_reducible rfl))
  try simp only [Act.put, List.setIfInBounds_toArray, List.set_cons_zero, List.set_cons_succ]
  refine wpAnyT_one (i := 10) (o := ⟨some 85, .call { callee := .value (.func 25), args := #[(.tmp 84)], argTypes := #[35] }, _, _, _, _⟩) (by kernel_rfl) rfl (fun K hK => ?_)
  go_simp
  refine calls_at (HSx.out g22 HW.out) (by with_reducible rfl) (by with_reducible rfl) ?_
  rintro e g23 ⟨rs1, rfl, hp, hb⟩
  have Hs1 : Hid (PbAt g23 rs1 (satK X x) x) := hp
  have HW : Hid (RowKit.Below V8.heap.size V8 g23) := HW.out.trans (hb.mono HW.out.size)
  clear hp hb
  go_wp2_with fail
  refine hK.out _ _ ⟨HAl.out _ HW.out, fun _ => trivial⟩ ?_
  have hHeld := (⟨HAl.out _ HW.out, trivial⟩ : _ ∧ True)
  clear hK K
  try simp only [Act.put, List.setIfInBounds_toArray, List.set_cons_zero, List.set_cons_succ]
  refine wpAnyT_one (i := 11) (o := ⟨some 86, .call { callee := .value (.func 25), args := #[(.tmp 85)], argTypes := #[35] }, _, _, _, _⟩) (by kernel_rfl) rfl (fun K hK => ?_)
  go_simp
  refine calls_at (HSs.out g23 _ Hs1.out) (by with_reducible rfl) (by with_reducible rfl) ?_
  rintro e g24 ⟨rs2, rfl, hp, hb⟩
  have Hs2 : Hid (PbAt g24 rs2 (satK X x) x) := hp
  have HW : Hid (RowKit.Below V8.heap.size V8 g24) := HW.out.trans (hb.mono HW.out.size)
  clear hp hb
  go_wp2_with fail
  refine hK.out _ _ ⟨HAl.out _ HW.out, fun _ => trivial⟩ ?_
  have hHeld := (⟨HAl.out _ HW.out, trivial⟩ : _ ∧ True)
  clear hK K
  try simp only [Act.put, List.setIfInBounds_toArray, List.set_cons_zero, List.set_cons_succ]
  refine wpAnyT_one (i := 13) (o := ⟨some 88, .call { callee := .value (.func 25), args := #[(.tmp 87)], argTypes := #[35] }, _, _, _, _⟩) (by kernel_rfl) rfl (fun K hK => ?_)
  go_simp
  refine calls_at (HSx.out g24 HW.out) (by with_reducible rfl) (by with_reducible rfl) ?_
  rintro e g25 ⟨rs3, rfl, hp, hb⟩
  have Hs3 : Hid (PbAt g25 rs3 (satK X x) x) := hp
  have Hs2 : Hid (PbAt g25 rs2 (satK X x) x) := Hs2.out.below hb
  have HW : Hid (RowKit.Below V8.heap.size V8 g25) := HW.out.trans (hb.mono HW.out.size)
  clear hp hb
  go_wp2_with fail
  refine hK.out _ _ ⟨HAl.out _ HW.out, fun _ => trivial⟩ ?_
  have hHeld := (⟨HAl.out _ HW.out, trivial⟩ : _ ∧ True)
  clear hK K
  try simp only [Act.put, List.setIfInBounds_toArray, List.set_cons_zero, List.set_cons_succ]
  refine wpAnyT_one (i := 14) (o := ⟨some 89, .call { callee := .value (.func 12), args := #[(.tmp 86), (.tmp 88)], argTypes := #[35, 35] }, _, _, _, _⟩) (by kernel_rfl) rfl (fun K hK => ?_)
  go_simp
  refine calls_at (HSt.out g25 _ _ HW.out Hs2.out Hs3.out) (by with_reducible rfl) (by with_reducible rfl) ?_
  rintro e g26 ⟨rfl, hb⟩

  have HW : Hid (RowKit.Below V8.heap.size V8 g26) := HW.out.trans (hb.mono HW.out.size)
  clear hb
  go_wp2_with fail
  refine hK.out _ _ ⟨HAl.out _ HW.out, fun _ => trivial⟩ ?_
  have hHeld := (⟨HAl.out _ HW.out, trivial⟩ : _ ∧ True)
  clear hK K
  try simp only [Act.put, List.setIfInBounds_toArray, List.set_cons_zero, List.set_cons_succ]
  refine wpAnyT_takeB (i := 15) (oi := ⟨some 90, .unOp .not 4 (.tmp 89), _, _, _, _⟩) (v := ?vR11c1x15) rfl (by kernel_rfl) (by kernel_rfl) (by kernel_rfl) (by kernel_rfl) (fun _ _ _ h => h) (Or.inl ⟨by rfl, ?hyR11c1x15⟩) (by assumption) ?restR11c1x15
  case hyR11c1x15 => (intro w hSw; (try dsimp only at hSw); go_simp; try (with_reducible rfl))
  try simp only [Act.put, List.setIfInBounds_toArray, List.set_cons_zero, List.set_cons_succ]
  refine wpAnyT_takeB (i := 16) (oi := ⟨some 91, .pick (.tmp 83) ((.const (.bool true))) (.tmp 90), _, _, _, _⟩) (v := ?vR11c1x16) rfl (by kernel_rfl) (by kernel_rfl) (by kernel_rfl) (by kernel_rfl) (fun _ _ _ h => h) (Or.inl ⟨by rfl, ?hyR11c1x16⟩) (by assumption) ?restR11c1x16
  case hyR11c1x16 => (intro w hSw; (try dsimp only at hSw); go_simp; try (with_reducible rfl))
  try simp only [Act.put, List.setIfInBounds_toArray, List.set_cons_zero, List.set_cons_succ]
  refine wpAnyT_takeB (i := 17) (oi := ⟨some 92, .move (.tmp 91), _, _, _, _⟩) (v := ?vR11c1x17) rfl (by kernel_rfl) (by kernel_rfl) (by kernel_rfl) (by kernel_rfl) (fun _ _ _ h => h) (Or.inl ⟨by rfl, ?hyR11c1x17⟩) (by assumption) ?restR11c1x17
  case hyR11c1x17 => (intro w hSw; (try dsimp only at hSw); go_simp; try (with_reducible rfl))
  try simp only [Act.put, List.setIfInBounds_toArray, List.set_cons_zero, List.set_cons_succ]
  refine wpAnyT_takeB (i := 18) (oi := ⟨some 93, .load 35 (.tmp 9), _, _, _, _⟩) (v := ?vR11c1x18) rfl (by kernel_rfl) (by kernel_rfl) (by kernel_rfl) (by kernel_rfl) (fun _ _ _ h => h) (Or.inl ⟨by rfl, ?hyR11c1x18⟩) (by assumption) ?restR11c1x18
  case hyR11c1x18 => (intro w hSw; (try dsimp only at hSw); go_simp; try (with_reducible rfl))
  try simp only [Act.put, List.setIfInBounds_toArray, List.set_cons_zero, List.set_cons_succ]
  refine wpAnyT_takeB (i := 19) (oi := ⟨some 94, .build 35 #[], _, _, _, _⟩) (v := ?vR11c1x19) rfl (by kernel_rfl) (by kernel_rfl) (by kernel_rfl) (by kernel_rfl) (fun _ _ _ h => h) (Or.inl ⟨by rfl, ?hyR11c1x19⟩) (by assumption) ?restR11c1x19
  case hyR11c1x19 => (intro w hSw; (try dsimp only at hSw); go_simp; try (with_reducible rfl))
  try simp only [Act.put, List.setIfInBounds_toArray, List.set_cons_zero, List.set_cons_succ]
  refine wpAnyT_takeB (i := 21) (oi := ⟨some 96, .load 35 (.tmp 9), _, _, _, _⟩) (v := ?vR11c1x21) rfl (by kernel_rfl) (by kernel_rfl) (by kernel_rfl) (by kernel_rfl) (fun _ _ _ h => h) (Or.inl ⟨by rfl, ?hyR11c1x21⟩) (by assumption) ?restR11c1x21
  case hyR11c1x21 => (intro w hSw; (try dsimp only at hSw); go_simp; try (with_reducible rfl))
  try simp only [Act.put, List.setIfInBounds_toArray, List.set_cons_zero, List.set_cons_succ]
  refine wpAnyT_one (i := 20) (o := ⟨some 95, .call { callee := .value (.func 21), args := #[(.tmp 93), (.tmp 94)], argTypes := #[35, 35] }, _, _, _, _⟩) (by kernel_rfl) rfl (fun K hK => ?_)
  go_simp
  refine calls_at (HX0.out g26 HW.out) (by with_reducible rfl) (by with_reducible rfl) ?_
  rintro e g27 ⟨rx0, Kx0, Dx0, rfl, hf, hp, hg, hb⟩
  have Hx0 : Hid (Pm.IsForm _ _ Kx0 Dx0 ∧ PbAt g27 rx0 Kx0 Dx0 ∧ Gd _ _ Kx0 Dx0) := ⟨hf, hp, hg⟩
  have HW : Hid (RowKit.Below V8.heap.size V8 g27) := HW.out.trans (hb.mono HW.out.size)
  clear hf hp hg hb
  go_wp2_with fail
  refine hK.out _ _ ⟨HAl.out _ HW.out, fun _ => trivial⟩ ?_
  have hHeld := (⟨HAl.out _ HW.out, trivial⟩ : _ ∧ True)
  clear hK K
  try simp only [Act.put, List.setIfInBounds_toArray, List.set_cons_zero, List.set_cons_succ]
  refine wpAnyT_one (i := 22) (o := ⟨some 97, .call { callee := .value (.func 12), args := #[(.tmp 95), (.tmp 96)], argTypes := #[35, 35] }, _, _, _, _⟩) (by kernel_rfl) rfl (fun K hK => ?_)
  go_simp
  refine calls_at (HSm.out g27 _ _ _ _ _ _ HW.out Hx0.out.2.1 (HX.out.pb.below HW.out) (sum_zero Gx.out Hx0.out.1) (Hx0.out.2.2.mono (by decide) (by decide))) (by with_reducible rfl) (by with_reducible rfl) ?_
  rintro e g28 ⟨rfl, hb⟩

  have HW : Hid (RowKit.Below V8.heap.size V8 g28) := HW.out.trans (hb.mono HW.out.size)
  clear hb
  go_wp2_with fail
  refine hK.out _ _ ⟨HAl.out _ HW.out, fun _ => trivial⟩ ?_
  have hHeld := (⟨HAl.out _ HW.out, trivial⟩ : _ ∧ True)
  clear hK K
  try simp only [Act.put, List.setIfInBounds_toArray, List.set_cons_zero, List.set_cons_succ]
  refine wpAnyT_takeB (i := 23) (oi := ⟨some 98, .unOp .not 4 (.tmp 97), _, _, _, _⟩) (v := ?vR11c1x23) rfl (by kernel_rfl) (by kernel_rfl) (by kernel_rfl) (by kernel_rfl) (fun _ _ _ h => h) (Or.inl ⟨by rfl, ?hyR11c1x23⟩) (by assumption) ?restR11c1x23
  case hyR11c1x23 => (intro w hSw; (try dsimp only at hSw); go_simp; try (with_reducible rfl))
  try simp only [Act.put, List.setIfInBounds_toArray, List.set_cons_zero, List.set_cons_succ]
  refine wpAnyT_takeB (i := 24) (oi := ⟨some 99, .pick (.tmp 92) ((.const (.bool true))) (.tmp 98), _, _, _, _⟩) (v := ?vR11c1x24) rfl (by kernel_rfl) (by kernel_rfl) (by kernel_rfl) (by kernel_rfl) (fun _ _ _ h => h) (Or.inl ⟨by rfl, ?hyR11c1x24⟩) (by assumption) ?restR11c1x24
  case hyR11c1x24 => (intro w hSw; (try dsimp only at hSw); go_simp; try (with_reducible rfl))
  try simp only [Act.put, List.setIfInBounds_toArray, List.set_cons_zero, List.set_cons_succ]
  refine wpAnyT_done (by kernel_rfl) ?_ _
  clear hHeld HAl HXY HYX HX0 HSx HSs HSt Hxy Hyx Hs1 Hs2 Hs3 Hx0
  go_wp2_with fail
  have HTx : Hid (∀ w', RowKit.Below V8.heap.size V8 w' → Calls Tryz.prog 28 #[.agg #[.slice ax Nx cx, .int .i64 nx, .pointer qx]] w' fun e w'' => ∃ r, e = .returned r ∧ BigAt w'' r (Pm.total X) ∧ RowKit.Below w'.heap.size w' w'') := fun w' hb => total_gd _ X x w' (HX.out.pb.below hb) Gx.out (by decide) (by decide)
  have HTy : Hid (∀ w', RowKit.Below V8.heap.size V8 w' → Calls Tryz.prog 28 #[.agg #[.slice ay Ny cy, .int .i64 ny, .pointer qy]] w' fun e w'' => ∃ r, e = .returned r ∧ BigAt w'' r (Pm.total Y) ∧ RowKit.Below w'.heap.size w' w'') := fun w' hb => total_gd _ Y y w' (HY.out.pb.below hb) Gy.out (by decide) (by decide)
  have HTz : Hid (∀ w', RowKit.Below V8.heap.size V8 w' → Calls Tryz.prog 28 #[.agg #[.slice az Nz cz, .int .i64 nz, .pointer qz]] w' fun e w'' => ∃ r, e = .returned r ∧ BigAt w'' r (Pm.total Z) ∧ RowKit.Below w'.heap.size w' w'') := fun w' hb => total_gd _ Z z w' (HZ.out.pb.below hb) Gz.out (by decide) (by decide)
  have HAxy : Hid (∀ w' r r', BigAt w' r (Pm.total X) → BigAt w' r' (Pm.total Y) → Calls Tryz.prog 29 #[r, r'] w' fun e w'' => ∃ r, e = .returned r ∧ BigAt w'' r (Pm.total X + Pm.total Y) ∧ RowKit.Below w'.heap.size w' w'') := fun w' r r' h h' => add_big _ _ r r' w' h h' (Nat.le_trans Gx.out.total (by decide)) (Nat.le_trans Gy.out.total (by decide))
  have HAr : Hid (∀ w' r r', BigAt w' r (Pm.total X + Pm.total Y) → BigAt w' r' (Pm.total Z) → Calls Tryz.prog 29 #[r, r'] w' fun e w'' => ∃ r, e = .returned r ∧ BigAt w'' r (Pm.total X + Pm.total Y + Pm.total Z) ∧ RowKit.Below w'.heap.size w' w'') := fun w' r r' h h' => add_big _ _ r r' w' h h' (Nat.le_trans (sumI_len Gx.out.total Gy.out.total) (by decide)) (Nat.le_trans Gz.out.total (by decide))
  have HAl : Hid (∀ w', RowKit.Below V8.heap.size V8 w' → w'.cell? ⟨w5.heap.size, 0, none⟩ = some (.slice ax Nx cx) ∧ w'.cell? ⟨w5.heap.size, 1, none⟩ = some (.int .i64 nx) ∧ w'.cell? ⟨w5.heap.size, 2, none⟩ = some (.pointer qx) ∧ w'.cell? ⟨w6.heap.size, 0, none⟩ = some (.slice ay Ny cy) ∧ w'.cell? ⟨w6.heap.size, 1, none⟩ = some (.int .i64 ny) ∧ w'.cell? ⟨w6.heap.size, 2, none⟩ = some (.pointer qy) ∧ w'.cell? ⟨w7.heap.size, 0, none⟩ = some (.slice az Nz cz) ∧ w'.cell? ⟨w7.heap.size, 1, none⟩ = some (.int .i64 nz) ∧ w'.cell? ⟨w7.heap.size, 2, none⟩ = some (.pointer qz)) := fun w' hb => by
    obtain ⟨x0, x1, x2⟩ := (HX.out.below hb).cells
    obtain ⟨y0, y1, y2⟩ := (HY.out.below hb).cells
    obtain ⟨z0, z1, z2⟩ := (HZ.out.below hb).cells
    exact ⟨x0, x1, x2, y0, y1, y2, z0, z1, z2⟩
  go_cut [17] from 22 to 166 (fun s17 wx => ∃ (B : Nat) (nr : Int) (qr : Option Addr), s17 = .pointer (some ⟨B, 0, none⟩) ∧ Hid (wx.cell? ⟨B, 0, none⟩ = some (.int .i64 nr) ∧ wx.cell? ⟨B, 1, none⟩ = some (.pointer qr) ∧ BigAt wx (.agg #[.int .i64 nr, .pointer qr]) (Pm.total X + Pm.total Y + Pm.total Z) ∧ B < wx.heap.size ∧ RowKit.Below V8.heap.size V8 wx))
  case first =>
    clear HSm HYZ HT HF1 HF2 HF3 HA1 HA2 HA3 Gx Gy Gz HB Hkl HNu Hp1 Hp2 Hp3 HTv HO8
    have HW : Hid (RowKit.Below V8.heap.size V8 g28.drew) := HW.out.trans ((Below.refl _ _).drew.mono HW.out.size)
    refine wp_region_T (fun w' => w'.cell? ⟨w5.heap.size, 0, none⟩ = some (.slice ax Nx cx) ∧ w'.cell? ⟨w5.heap.size, 1, none⟩ = some (.int .i64 nx) ∧ w'.cell? ⟨w5.heap.size, 2, none⟩ = some (.pointer qx) ∧ w'.cell? ⟨w6.heap.size, 0, none⟩ = some (.slice ay Ny cy) ∧ w'.cell? ⟨w6.heap.size, 1, none⟩ = some (.int .i64 ny) ∧ w'.cell? ⟨w6.heap.size, 2, none⟩ = some (.pointer qy) ∧ w'.cell? ⟨w7.heap.size, 0, none⟩ = some (.slice az Nz cz) ∧ w'.cell? ⟨w7.heap.size, 1, none⟩ = some (.int .i64 nz) ∧ w'.cell? ⟨w7.heap.size, 2, none⟩ = some (.pointer qz)) (fun _ => True) [9] (by kernel_rfl) ⟨HAl.out _ HW.out, trivial⟩ (fun hHeld => ?_)
    generalize g28.drew = U at HW hHeld ⊢
    refine wpAnyT_takeB (i := 0) (oi := ⟨some 100, .load 35 (.tmp 9), _, _, _, _⟩) (v := ?vq1) rfl (by kernel_rfl) (by kernel_rfl) (by kernel_rfl) (by kernel_rfl) (fun _ _ _ h => h) (Or.inl ⟨by rfl, ?hyq1⟩) (by assumption) ?restq1
    case hyq1 => (intro w hSw; (try dsimp only at hSw); go_simp; try (with_reducible rfl))
    try simp only [Act.put, List.setIfInBounds_toArray, List.set_cons_zero, List.set_cons_succ]
    refine wpAnyT_takeB (i := 2) (oi := ⟨some 102, .load 35 (.tmp 11), _, _, _, _⟩) (v := ?vq2) rfl (by kernel_rfl) (by kernel_rfl) (by kernel_rfl) (by kernel_rfl) (fun _ _ _ h => h) (Or.inl ⟨by rfl, ?hyq2⟩) (by assumption) ?restq2
    case hyq2 => (intro w hSw; (try dsimp only at hSw); go_simp; try (with_reducible rfl))
    try simp only [Act.put, List.setIfInBounds_toArray, List.set_cons_zero, List.set_cons_succ]
    refine wpAnyT_takeB (i := 5) (oi := ⟨some 105, .load 35 (.tmp 13), _, _, _, _⟩) (v := ?vq3) rfl (by kernel_rfl) (by kernel_rfl) (by kernel_rfl) (by kernel_rfl) (fun _ _ _ h => h) (Or.inl ⟨by rfl, ?hyq3⟩) (by assumption) ?restq3
    case hyq3 => (intro w hSw; (try dsimp only at hSw); go_simp; try (with_reducible rfl))
    try simp only [Act.put, List.setIfInBounds_toArray, List.set_cons_zero, List.set_cons_succ]
    refine wpAnyT_two (i := 1) (j := 8) (o := ⟨some 101, .call { callee := .value (.func 28), args := #[(.tmp 100)], argTypes := #[35] }, _, _, _, _⟩) (o' := ⟨some 17, .alloc 33, _, _, _, _⟩) (by kernel_rfl) rfl rfl (fun Kq hK => ?_) (fun Kq hK => ?_)
    · go_simp
      refine calls_at (HTx.out U HW.out) (by with_reducible rfl) (by with_reducible rfl) ?_
      rintro e h101 ⟨rtx, rfl, hp, hb⟩
      have Htx : Hid (BigAt h101 rtx (Pm.total X)) := hp
      have HW : Hid (RowKit.Below V8.heap.size V8 h101) := HW.out.trans (hb.mono HW.out.size)
      clear hp hb
      go_wp2_with fail
      refine hK.out _ _ ⟨HAl.out _ HW.out, fun _ => trivial⟩ ?_
      have hHeld := (⟨HAl.out _ HW.out, trivial⟩ : _ ∧ True)
      clear hK Kq
      try simp only [Act.put, List.setIfInBounds_toArray, List.set_cons_zero, List.set_cons_succ]
      refine wpAnyT_two (i := 3) (j := 8) (o := ⟨some 103, .call { callee := .value (.func 28), args := #[(.tmp 102)], argTypes := #[35] }, _, _, _, _⟩) (o' := ⟨some 17, .alloc 33, _, _, _, _⟩) (by kernel_rfl) rfl rfl (fun Kq hK => ?_) (fun Kq hK => ?_)
      · go_simp
        refine calls_at (HTy.out h101 HW.out) (by with_reducible rfl) (by with_reducible rfl) ?_
        rintro e h102 ⟨rty, rfl, hp, hb⟩
        have Hty : Hid (BigAt h102 rty (Pm.total Y)) := hp
        have Htx : Hid (BigAt h102 rtx (Pm.total X)) := Htx.out.below hb
        have HW : Hid (RowKit.Below V8.heap.size V8 h102) := HW.out.trans (hb.mono HW.out.size)
        clear hp hb
        go_wp2_with fail
        refine hK.out _ _ ⟨HAl.out _ HW.out, fun _ => trivial⟩ ?_
        have hHeld := (⟨HAl.out _ HW.out, trivial⟩ : _ ∧ True)
        clear hK Kq
        try simp only [Act.put, List.setIfInBounds_toArray, List.set_cons_zero, List.set_cons_succ]
        refine wpAnyT_two (i := 4) (j := 8) (o := ⟨some 104, .call { callee := .value (.func 29), args := #[(.tmp 101), (.tmp 103)], argTypes := #[33, 33] }, _, _, _, _⟩) (o' := ⟨some 17, .alloc 33, _, _, _, _⟩) (by kernel_rfl) rfl rfl (fun Kq hK => ?_) (fun Kq hK => ?_)
        · go_simp
          refine calls_at (HAxy.out h102 _ _ Htx.out Hty.out) (by with_reducible rfl) (by with_reducible rfl) ?_
          rintro e h103 ⟨rtxy, rfl, hp, hb⟩
          have Htxy : Hid (BigAt h103 rtxy (Pm.total X + Pm.total Y)) := hp
          have Htx : Hid (BigAt h103 rtx (Pm.total X)) := Htx.out.below hb
          have Hty : Hid (BigAt h103 rty (Pm.total Y)) := Hty.out.below hb
          have HW : Hid (RowKit.Below V8.heap.size V8 h103) := HW.out.trans (hb.mono HW.out.size)
          clear hp hb
          go_wp2_with fail
          refine hK.out _ _ ⟨HAl.out _ HW.out, fun _ => trivial⟩ ?_
          have hHeld := (⟨HAl.out _ HW.out, trivial⟩ : _ ∧ True)
          clear hK Kq
          try simp only [Act.put, List.setIfInBounds_toArray, List.set_cons_zero, List.set_cons_succ]
          refine wpAnyT_two (i := 6) (j := 8) (o := ⟨some 106, .call { callee := .value (.func 28), args := #[(.tmp 105)], argTypes := #[35] }, _, _, _, _⟩) (o' := ⟨some 17, .alloc 33, _, _, _, _⟩) (by kernel_rfl) rfl rfl (fun Kq hK => ?_) (fun Kq hK => ?_)
          · go_simp
            refine calls_at (HTz.out h103 HW.out) (by with_reducible rfl) (by with_reducible rfl) ?_
            rintro e h104 ⟨rtz, rfl, hp, hb⟩
            have Htz : Hid (BigAt h104 rtz (Pm.total Z)) := hp
            have Htxy : Hid (BigAt h104 rtxy (Pm.total X + Pm.total Y)) := Htxy.out.below hb
            have HW : Hid (RowKit.Below V8.heap.size V8 h104) := HW.out.trans (hb.mono HW.out.size)
            clear hp hb
            go_wp2_with fail
            refine hK.out _ _ ⟨HAl.out _ HW.out, fun _ => trivial⟩ ?_
            have hHeld := (⟨HAl.out _ HW.out, trivial⟩ : _ ∧ True)
            clear hK Kq
            try simp only [Act.put, List.setIfInBounds_toArray, List.set_cons_zero, List.set_cons_succ]
            refine wpAnyT_two (i := 7) (j := 8) (o := ⟨some 107, .call { callee := .value (.func 29), args := #[(.tmp 104), (.tmp 106)], argTypes := #[33, 33] }, _, _, _, _⟩) (o' := ⟨some 17, .alloc 33, _, _, _, _⟩) (by kernel_rfl) rfl rfl (fun Kq hK => ?_) (fun Kq hK => ?_)
            · go_simp
              refine calls_at (HAr.out h104 _ _ Htxy.out Htz.out) (by with_reducible rfl) (by with_reducible rfl) ?_
              rintro e h105 ⟨rtr, rfl, hp, hb⟩
              have Htr : Hid (BigAt h105 rtr (Pm.total X + Pm.total Y + Pm.total Z)) := hp
              have Htxy : Hid (BigAt h105 rtxy (Pm.total X + Pm.total Y)) := Htxy.out.below hb
              have Htz : Hid (BigAt h105 rtz (Pm.total Z)) := Htz.out.below hb
              have HW : Hid (RowKit.Below V8.heap.size V8 h105) := HW.out.trans (hb.mono HW.out.size)
              clear hp hb
              go_wp2_with fail
              refine hK.out _ _ ⟨HAl.out _ HW.out, fun _ => trivial⟩ ?_
              have hHeld := (⟨HAl.out _ HW.out, trivial⟩ : _ ∧ True)
              clear hK Kq
              try simp only [Act.put, List.setIfInBounds_toArray, List.set_cons_zero, List.set_cons_succ]
              refine wpAnyT_one (i := 8) (o := ⟨some 17, .alloc 33, _, _, _, _⟩) (by kernel_rfl) rfl (fun Kq hK => ?_)
              go_simp
              have HGe : Hid (V8.heap.size ≤ h105.heap.size) := HW.out.size
              obtain ⟨h106, hVn⟩ : ∃ V, World.alloc h105 (.cells #[.int .i64 0, .pointer none] 33) = V := ⟨_, rfl⟩
              obtain ⟨hO, hb⟩ := new_obj h105 _ hVn
              rw [hVn]
              have HZb : Hid (h106.heap[h105.heap.size]? = some (.cells #[.int .i64 0, .pointer none] 33)) := hO
              have HW : Hid (RowKit.Below V8.heap.size V8 h106) := HW.out.trans (hb.mono HW.out.size)
              have Htr : Hid (BigAt h106 rtr (Pm.total X + Pm.total Y + Pm.total Z)) := Htr.out.below hb
              clear hO hb hVn
              refine hK.out _ _ ⟨HAl.out _ HW.out, fun _ => trivial⟩ ?_
              have hHeld := (⟨HAl.out _ HW.out, trivial⟩ : _ ∧ True)
              clear hK Kq
              try simp only [Act.put, List.setIfInBounds_toArray, List.set_cons_zero, List.set_cons_succ]
              obtain ⟨nr, qr, rfl⟩ := Htr.out.shape
              obtain ⟨f0, f1, f2, f3⟩ := box_facts HZb.out
              obtain ⟨Xr, hXr⟩ : ∃ X, (h106.setCell ⟨h105.heap.size, 0, none⟩ (.int .i64 nr)).setCell ⟨h105.heap.size, 1, none⟩ (.pointer qr) = X := ⟨_, rfl⟩
              obtain ⟨y0, y1, hBX, hbX⟩ := num_ret HZb.out Htr.out hXr
              have HWX : Hid (RowKit.Below V8.heap.size V8 Xr) := hbX _ _ HGe.out HW.out
              have HRel : Hid (Xr.cell? ⟨h105.heap.size, 0, none⟩ = some (.int .i64 nr) ∧ Xr.cell? ⟨h105.heap.size, 1, none⟩ = some (.pointer qr) ∧ BigAt Xr (.agg #[.int .i64 nr, .pointer qr]) (Pm.total X + Pm.total Y + Pm.total Z) ∧ h105.heap.size < Xr.heap.size ∧ RowKit.Below V8.heap.size V8 Xr) := ⟨y0, y1, hBX, by rw [← hXr]; simpa [World.setCell] using (Array.getElem?_eq_some_iff.1 HZb.out).1, HWX.out⟩
              have HX9 : Hid ((h106.setCell ⟨h105.heap.size, 0, none⟩ (.int .i64 nr)).setCell ⟨h105.heap.size, 1, none⟩ (.pointer qr) = Xr) := hXr
              clear hXr y0 y1 hBX hbX
              refine wpAnyT_late (i := 9) (o := ⟨none, .store 33 (.tmp 17) (.tmp 107), _, _, _, _⟩) (by kernel_rfl) rfl (by kernel_rfl) (fun Kq hK => ?_)
              go_simp
              rw [HX9.out]
              refine hK.out _ _ (HAl.out _ HWX.out) ?_
              clear hK Kq f0 f1 f2 f3
              try simp only [Act.put, List.setIfInBounds_toArray, List.set_cons_zero, List.set_cons_succ]
              refine wpAnyT_done (by kernel_rfl) ?_ _
              go_wp2_with fail
              go_meet
              case rel => exact ⟨_, nr, qr, rfl, HRel⟩
            · go_simp
              have HGe : Hid (V8.heap.size ≤ h104.heap.size) := HW.out.size
              obtain ⟨h107, hVn⟩ : ∃ V, World.alloc h104 (.cells #[.int .i64 0, .pointer none] 33) = V := ⟨_, rfl⟩
              obtain ⟨hO, hb⟩ := new_obj h104 _ hVn
              rw [hVn]
              have HZb : Hid (h107.heap[h104.heap.size]? = some (.cells #[.int .i64 0, .pointer none] 33)) := hO
              have HW : Hid (RowKit.Below V8.heap.size V8 h107) := HW.out.trans (hb.mono HW.out.size)
              have Htxy : Hid (BigAt h107 rtxy (Pm.total X + Pm.total Y)) := Htxy.out.below hb
              have Htz : Hid (BigAt h107 rtz (Pm.total Z)) := Htz.out.below hb
              clear hO hb hVn
              refine hK.out _ _ ⟨HAl.out _ HW.out, fun _ => trivial⟩ ?_
              have hHeld := (⟨HAl.out _ HW.out, trivial⟩ : _ ∧ True)
              clear hK Kq
              try simp only [Act.put, List.setIfInBounds_toArray, List.set_cons_zero, List.set_cons_succ]
              refine wpAnyT_one (i := 7) (o := ⟨some 107, .call { callee := .value (.func 29), args := #[(.tmp 104), (.tmp 106)], argTypes := #[33, 33] }, _, _, _, _⟩) (by kernel_rfl) rfl (fun Kq hK => ?_)
              go_simp
              refine calls_at (HAr.out h107 _ _ Htxy.out Htz.out) (by with_reducible rfl) (by with_reducible rfl) ?_
              rintro e h108 ⟨rtr, rfl, hp, hb⟩
              have Htr : Hid (BigAt h108 rtr (Pm.total X + Pm.total Y + Pm.total Z)) := hp
              have Htxy : Hid (BigAt h108 rtxy (Pm.total X + Pm.total Y)) := Htxy.out.below hb
              have Htz : Hid (BigAt h108 rtz (Pm.total Z)) := Htz.out.below hb
              have HZb : Hid (h108.heap[h104.heap.size]? = some (.cells #[.int .i64 0, .pointer none] 33)) := (hb.block _ (Array.getElem?_eq_some_iff.1 HZb.out).1).trans HZb.out
              have HW : Hid (RowKit.Below V8.heap.size V8 h108) := HW.out.trans (hb.mono HW.out.size)
              clear hp hb
              go_wp2_with fail
              refine hK.out _ _ ⟨HAl.out _ HW.out, fun _ => trivial⟩ ?_
              have hHeld := (⟨HAl.out _ HW.out, trivial⟩ : _ ∧ True)
              clear hK Kq
              try simp only [Act.put, List.setIfInBounds_toArray, List.set_cons_zero, List.set_cons_succ]
              obtain ⟨nr, qr, rfl⟩ := Htr.out.shape
              obtain ⟨f0, f1, f2, f3⟩ := box_facts HZb.out
              obtain ⟨Xr, hXr⟩ : ∃ X, (h108.setCell ⟨h104.heap.size, 0, none⟩ (.int .i64 nr)).setCell ⟨h104.heap.size, 1, none⟩ (.pointer qr) = X := ⟨_, rfl⟩
              obtain ⟨y0, y1, hBX, hbX⟩ := num_ret HZb.out Htr.out hXr
              have HWX : Hid (RowKit.Below V8.heap.size V8 Xr) := hbX _ _ HGe.out HW.out
              have HRel : Hid (Xr.cell? ⟨h104.heap.size, 0, none⟩ = some (.int .i64 nr) ∧ Xr.cell? ⟨h104.heap.size, 1, none⟩ = some (.pointer qr) ∧ BigAt Xr (.agg #[.int .i64 nr, .pointer qr]) (Pm.total X + Pm.total Y + Pm.total Z) ∧ h104.heap.size < Xr.heap.size ∧ RowKit.Below V8.heap.size V8 Xr) := ⟨y0, y1, hBX, by rw [← hXr]; simpa [World.setCell] using (Array.getElem?_eq_some_iff.1 HZb.out).1, HWX.out⟩
              have HX9 : Hid ((h108.setCell ⟨h104.heap.size, 0, none⟩ (.int .i64 nr)).setCell ⟨h104.heap.size, 1, none⟩ (.pointer qr) = Xr) := hXr
              clear hXr y0 y1 hBX hbX
              refine wpAnyT_late (i := 9) (o := ⟨none, .store 33 (.tmp 17) (.tmp 107), _, _, _, _⟩) (by kernel_rfl) rfl (by kernel_rfl) (fun Kq hK => ?_)
              go_simp
              rw [HX9.out]
              refine hK.out _ _ (HAl.out _ HWX.out) ?_
              clear hK Kq f0 f1 f2 f3
              try simp only [Act.put, List.setIfInBounds_toArray, List.set_cons_zero, List.set_cons_succ]
              refine wpAnyT_done (by kernel_rfl) ?_ _
              go_wp2_with fail
              go_meet
              case rel => exact ⟨_, nr, qr, rfl, HRel⟩
          · go_simp
            have HGe : Hid (V8.heap.size ≤ h103.heap.size) := HW.out.size
            obtain ⟨h109, hVn⟩ : ∃ V, World.alloc h103 (.cells #[.int .i64 0, .pointer none] 33) = V := ⟨_, rfl⟩
            obtain ⟨hO, hb⟩ := new_obj h103 _ hVn
            rw [hVn]
            have HZb : Hid (h109.heap[h103.heap.size]? = some (.cells #[.int .i64 0, .pointer none] 33)) := hO
            have HW : Hid (RowKit.Below V8.heap.size V8 h109) := HW.out.trans (hb.mono HW.out.size)
            have Htxy : Hid (BigAt h109 rtxy (Pm.total X + Pm.total Y)) := Htxy.out.below hb
            clear hO hb hVn
            refine hK.out _ _ ⟨HAl.out _ HW.out, fun _ => trivial⟩ ?_
            have hHeld := (⟨HAl.out _ HW.out, trivial⟩ : _ ∧ True)
            clear hK Kq
            try simp only [Act.put, List.setIfInBounds_toArray, List.set_cons_zero, List.set_cons_succ]
            refine wpAnyT_one (i := 6) (o := ⟨some 106, .call { callee := .value (.func 28), args := #[(.tmp 105)], argTypes := #[35] }, _, _, _, _⟩) (by kernel_rfl) rfl (fun Kq hK => ?_)
            go_simp
            refine calls_at (HTz.out h109 HW.out) (by with_reducible rfl) (by with_reducible rfl) ?_
            rintro e h110 ⟨rtz, rfl, hp, hb⟩
            have Htz : Hid (BigAt h110 rtz (Pm.total Z)) := hp
            have Htxy : Hid (BigAt h110 rtxy (Pm.total X + Pm.total Y)) := Htxy.out.below hb
            have HZb : Hid (h110.heap[h103.heap.size]? = some (.cells #[.int .i64 0, .pointer none] 33)) := (hb.block _ (Array.getElem?_eq_some_iff.1 HZb.out).1).trans HZb.out
            have HW : Hid (RowKit.Below V8.heap.size V8 h110) := HW.out.trans (hb.mono HW.out.size)
            clear hp hb
            go_wp2_with fail
            refine hK.out _ _ ⟨HAl.out _ HW.out, fun _ => trivial⟩ ?_
            have hHeld := (⟨HAl.out _ HW.out, trivial⟩ : _ ∧ True)
            clear hK Kq
            try simp only [Act.put, List.setIfInBounds_toArray, List.set_cons_zero, List.set_cons_succ]
            refine wpAnyT_one (i := 7) (o := ⟨some 107, .call { callee := .value (.func 29), args := #[(.tmp 104), (.tmp 106)], argTypes := #[33, 33] }, _, _, _, _⟩) (by kernel_rfl) rfl (fun Kq hK => ?_)
            go_simp
            refine calls_at (HAr.out h110 _ _ Htxy.out Htz.out) (by with_reducible rfl) (by with_reducible rfl) ?_
            rintro e h111 ⟨rtr, rfl, hp, hb⟩
            have Htr : Hid (BigAt h111 rtr (Pm.total X + Pm.total Y + Pm.total Z)) := hp
            have Htxy : Hid (BigAt h111 rtxy (Pm.total X + Pm.total Y)) := Htxy.out.below hb
            have Htz : Hid (BigAt h111 rtz (Pm.total Z)) := Htz.out.below hb
            have HZb : Hid (h111.heap[h103.heap.size]? = some (.cells #[.int .i64 0, .pointer none] 33)) := (hb.block _ (Array.getElem?_eq_some_iff.1 HZb.out).1).trans HZb.out
            have HW : Hid (RowKit.Below V8.heap.size V8 h111) := HW.out.trans (hb.mono HW.out.size)
            clear hp hb
            go_wp2_with fail
            refine hK.out _ _ ⟨HAl.out _ HW.out, fun _ => trivial⟩ ?_
            have hHeld := (⟨HAl.out _ HW.out, trivial⟩ : _ ∧ True)
            clear hK Kq
            try simp only [Act.put, List.setIfInBounds_toArray, List.set_cons_zero, List.set_cons_succ]
            obtain ⟨nr, qr, rfl⟩ := Htr.out.shape
            obtain ⟨f0, f1, f2, f3⟩ := box_facts HZb.out
            obtain ⟨Xr, hXr⟩ : ∃ X, (h111.setCell ⟨h103.heap.size, 0, none⟩ (.int .i64 nr)).setCell ⟨h103.heap.size, 1, none⟩ (.pointer qr) = X := ⟨_, rfl⟩
            obtain ⟨y0, y1, hBX, hbX⟩ := num_ret HZb.out Htr.out hXr
            have HWX : Hid (RowKit.Below V8.heap.size V8 Xr) := hbX _ _ HGe.out HW.out
            have HRel : Hid (Xr.cell? ⟨h103.heap.size, 0, none⟩ = some (.int .i64 nr) ∧ Xr.cell? ⟨h103.heap.size, 1, none⟩ = some (.pointer qr) ∧ BigAt Xr (.agg #[.int .i64 nr, .pointer qr]) (Pm.total X + Pm.total Y + Pm.total Z) ∧ h103.heap.size < Xr.heap.size ∧ RowKit.Below V8.heap.size V8 Xr) := ⟨y0, y1, hBX, by rw [← hXr]; simpa [World.setCell] using (Array.getElem?_eq_some_iff.1 HZb.out).1, HWX.out⟩
            have HX9 : Hid ((h111.setCell ⟨h103.heap.size, 0, none⟩ (.int .i64 nr)).setCell ⟨h103.heap.size, 1, none⟩ (.pointer qr) = Xr) := hXr
            clear hXr y0 y1 hBX hbX
            refine wpAnyT_late (i := 9) (o := ⟨none, .store 33 (.tmp 17) (.tmp 107), _, _, _, _⟩) (by kernel_rfl) rfl (by kernel_rfl) (fun Kq hK => ?_)
            go_simp
            rw [HX9.out]
            refine hK.out _ _ (HAl.out _ HWX.out) ?_
            clear hK Kq f0 f1 f2 f3
            try simp only [Act.put, List.setIfInBounds_toArray, List.set_cons_zero, List.set_cons_succ]
            refine wpAnyT_done (by kernel_rfl) ?_ _
            go_wp2_with fail
            go_meet
            case rel => exact ⟨_, nr, qr, rfl, HRel⟩
        · go_simp
          have HGe : Hid (V8.heap.size ≤ h102.heap.size) := HW.out.size
          obtain ⟨h112, hVn⟩ : ∃ V, World.alloc h102 (.cells #[.int .i64 0, .pointer none] 33) = V := ⟨_, rfl⟩
          obtain ⟨hO, hb⟩ := new_obj h102 _ hVn
          rw [hVn]
          have HZb : Hid (h112.heap[h102.heap.size]? = some (.cells #[.int .i64 0, .pointer none] 33)) := hO
          have HW : Hid (RowKit.Below V8.heap.size V8 h112) := HW.out.trans (hb.mono HW.out.size)
          have Htx : Hid (BigAt h112 rtx (Pm.total X)) := Htx.out.below hb
          have Hty : Hid (BigAt h112 rty (Pm.total Y)) := Hty.out.below hb
          clear hO hb hVn
          refine hK.out _ _ ⟨HAl.out _ HW.out, fun _ => trivial⟩ ?_
          have hHeld := (⟨HAl.out _ HW.out, trivial⟩ : _ ∧ True)
          clear hK Kq
          try simp only [Act.put, List.setIfInBounds_toArray, List.set_cons_zero, List.set_cons_succ]
          refine wpAnyT_one (i := 4) (o := ⟨some 104, .call { callee := .value (.func 29), args := #[(.tmp 101), (.tmp 103)], argTypes := #[33, 33] }, _, _, _, _⟩) (by kernel_rfl) rfl (fun Kq hK => ?_)
          go_simp
          refine calls_at (HAxy.out h112 _ _ Htx.out Hty.out) (by with_reducible rfl) (by with_reducible rfl) ?_
          rintro e h113 ⟨rtxy, rfl, hp, hb⟩
          have Htxy : Hid (BigAt h113 rtxy (Pm.total X + Pm.total Y)) := hp
          have Htx : Hid (BigAt h113 rtx (Pm.total X)) := Htx.out.below hb
          have Hty : Hid (BigAt h113 rty (Pm.total Y)) := Hty.out.below hb
          have HZb : Hid (h113.heap[h102.heap.size]? = some (.cells #[.int .i64 0, .pointer none] 33)) := (hb.block _ (Array.getElem?_eq_some_iff.1 HZb.out).1).trans HZb.out
          have HW : Hid (RowKit.Below V8.heap.size V8 h113) := HW.out.trans (hb.mono HW.out.size)
          clear hp hb
          go_wp2_with fail
          refine hK.out _ _ ⟨HAl.out _ HW.out, fun _ => trivial⟩ ?_
          have hHeld := (⟨HAl.out _ HW.out, trivial⟩ : _ ∧ True)
          clear hK Kq
          try simp only [Act.put, List.setIfInBounds_toArray, List.set_cons_zero, List.set_cons_succ]
          refine wpAnyT_one (i := 6) (o := ⟨some 106, .call { callee := .value (.func 28), args := #[(.tmp 105)], argTypes := #[35] }, _, _, _, _⟩) (by kernel_rfl) rfl (fun Kq hK => ?_)
          go_simp
          refine calls_at (HTz.out h113 HW.out) (by with_reducible rfl) (by with_reducible rfl) ?_
          rintro e h114 ⟨rtz, rfl, hp, hb⟩
          have Htz : Hid (BigAt h114 rtz (Pm.total Z)) := hp
          have Htxy : Hid (BigAt h114 rtxy (Pm.total X + Pm.total Y)) := Htxy.out.below hb
          have HZb : Hid (h114.heap[h102.heap.size]? = some (.cells #[.int .i64 0, .pointer none] 33)) := (hb.block _ (Array.getElem?_eq_some_iff.1 HZb.out).1).trans HZb.out
          have HW : Hid (RowKit.Below V8.heap.size V8 h114) := HW.out.trans (hb.mono HW.out.size)
          clear hp hb
          go_wp2_with fail
          refine hK.out _ _ ⟨HAl.out _ HW.out, fun _ => trivial⟩ ?_
          have hHeld := (⟨HAl.out _ HW.out, trivial⟩ : _ ∧ True)
          clear hK Kq
          try simp only [Act.put, List.setIfInBounds_toArray, List.set_cons_zero, List.set_cons_succ]
          refine wpAnyT_one (i := 7) (o := ⟨some 107, .call { callee := .value (.func 29), args := #[(.tmp 104), (.tmp 106)], argTypes := #[33, 33] }, _, _, _, _⟩) (by kernel_rfl) rfl (fun Kq hK => ?_)
          go_simp
          refine calls_at (HAr.out h114 _ _ Htxy.out Htz.out) (by with_reducible rfl) (by with_reducible rfl) ?_
          rintro e h115 ⟨rtr, rfl, hp, hb⟩
          have Htr : Hid (BigAt h115 rtr (Pm.total X + Pm.total Y + Pm.total Z)) := hp
          have Htxy : Hid (BigAt h115 rtxy (Pm.total X + Pm.total Y)) := Htxy.out.below hb
          have Htz : Hid (BigAt h115 rtz (Pm.total Z)) := Htz.out.below hb
          have HZb : Hid (h115.heap[h102.heap.size]? = some (.cells #[.int .i64 0, .pointer none] 33)) := (hb.block _ (Array.getElem?_eq_some_iff.1 HZb.out).1).trans HZb.out
          have HW : Hid (RowKit.Below V8.heap.size V8 h115) := HW.out.trans (hb.mono HW.out.size)
          clear hp hb
          go_wp2_with fail
          refine hK.out _ _ ⟨HAl.out _ HW.out, fun _ => trivial⟩ ?_
          have hHeld := (⟨HAl.out _ HW.out, trivial⟩ : _ ∧ True)
          clear hK Kq
          try simp only [Act.put, List.setIfInBounds_toArray, List.set_cons_zero, List.set_cons_succ]
          obtain ⟨nr, qr, rfl⟩ := Htr.out.shape
          obtain ⟨f0, f1, f2, f3⟩ := box_facts HZb.out
          obtain ⟨Xr, hXr⟩ : ∃ X, (h115.setCell ⟨h102.heap.size, 0, none⟩ (.int .i64 nr)).setCell ⟨h102.heap.size, 1, none⟩ (.pointer qr) = X := ⟨_, rfl⟩
          obtain ⟨y0, y1, hBX, hbX⟩ := num_ret HZb.out Htr.out hXr
          have HWX : Hid (RowKit.Below V8.heap.size V8 Xr) := hbX _ _ HGe.out HW.out
          have HRel : Hid (Xr.cell? ⟨h102.heap.size, 0, none⟩ = some (.int .i64 nr) ∧ Xr.cell? ⟨h102.heap.size, 1, none⟩ = some (.pointer qr) ∧ BigAt Xr (.agg #[.int .i64 nr, .pointer qr]) (Pm.total X + Pm.total Y + Pm.total Z) ∧ h102.heap.size < Xr.heap.size ∧ RowKit.Below V8.heap.size V8 Xr) := ⟨y0, y1, hBX, by rw [← hXr]; simpa [World.setCell] using (Array.getElem?_eq_some_iff.1 HZb.out).1, HWX.out⟩
          have HX9 : Hid ((h115.setCell ⟨h102.heap.size, 0, none⟩ (.int .i64 nr)).setCell ⟨h102.heap.size, 1, none⟩ (.pointer qr) = Xr) := hXr
          clear hXr y0 y1 hBX hbX
          refine wpAnyT_late (i := 9) (o := ⟨none, .store 33 (.tmp 17) (.tmp 107), _, _, _, _⟩) (by kernel_rfl) rfl (by kernel_rfl) (fun Kq hK => ?_)
          go_simp
          rw [HX9.out]
          refine hK.out _ _ (HAl.out _ HWX.out) ?_
          clear hK Kq f0 f1 f2 f3
          try simp only [Act.put, List.setIfInBounds_toArray, List.set_cons_zero, List.set_cons_succ]
          refine wpAnyT_done (by kernel_rfl) ?_ _
          go_wp2_with fail
          go_meet
          case rel => exact ⟨_, nr, qr, rfl, HRel⟩
      · go_simp
        have HGe : Hid (V8.heap.size ≤ h101.heap.size) := HW.out.size
        obtain ⟨h116, hVn⟩ : ∃ V, World.alloc h101 (.cells #[.int .i64 0, .pointer none] 33) = V := ⟨_, rfl⟩
        obtain ⟨hO, hb⟩ := new_obj h101 _ hVn
        rw [hVn]
        have HZb : Hid (h116.heap[h101.heap.size]? = some (.cells #[.int .i64 0, .pointer none] 33)) := hO
        have HW : Hid (RowKit.Below V8.heap.size V8 h116) := HW.out.trans (hb.mono HW.out.size)
        have Htx : Hid (BigAt h116 rtx (Pm.total X)) := Htx.out.below hb
        clear hO hb hVn
        refine hK.out _ _ ⟨HAl.out _ HW.out, fun _ => trivial⟩ ?_
        have hHeld := (⟨HAl.out _ HW.out, trivial⟩ : _ ∧ True)
        clear hK Kq
        try simp only [Act.put, List.setIfInBounds_toArray, List.set_cons_zero, List.set_cons_succ]
        refine wpAnyT_one (i := 3) (o := ⟨some 103, .call { callee := .value (.func 28), args := #[(.tmp 102)], argTypes := #[35] }, _, _, _, _⟩) (by kernel_rfl) rfl (fun Kq hK => ?_)
        go_simp
        refine calls_at (HTy.out h116 HW.out) (by with_reducible rfl) (by with_reducible rfl) ?_
        rintro e h117 ⟨rty, rfl, hp, hb⟩
        have Hty : Hid (BigAt h117 rty (Pm.total Y)) := hp
        have Htx : Hid (BigAt h117 rtx (Pm.total X)) := Htx.out.below hb
        have HZb : Hid (h117.heap[h101.heap.size]? = some (.cells #[.int .i64 0, .pointer none] 33)) := (hb.block _ (Array.getElem?_eq_some_iff.1 HZb.out).1).trans HZb.out
        have HW : Hid (RowKit.Below V8.heap.size V8 h117) := HW.out.trans (hb.mono HW.out.size)
        clear hp hb
        go_wp2_with fail
        refine hK.out _ _ ⟨HAl.out _ HW.out, fun _ => trivial⟩ ?_
        have hHeld := (⟨HAl.out _ HW.out, trivial⟩ : _ ∧ True)
        clear hK Kq
        try simp only [Act.put, List.setIfInBounds_toArray, List.set_cons_zero, List.set_cons_succ]
        refine wpAnyT_one (i := 4) (o := ⟨some 104, .call { callee := .value (.func 29), args := #[(.tmp 101), (.tmp 103)], argTypes := #[33, 33] }, _, _, _, _⟩) (by kernel_rfl) rfl (fun Kq hK => ?_)
        go_simp
        refine calls_at (HAxy.out h117 _ _ Htx.out Hty.out) (by with_reducible rfl) (by with_reducible rfl) ?_
        rintro e h118 ⟨rtxy, rfl, hp, hb⟩
        have Htxy : Hid (BigAt h118 rtxy (Pm.total X + Pm.total Y)) := hp
        have Htx : Hid (BigAt h118 rtx (Pm.total X)) := Htx.out.below hb
        have Hty : Hid (BigAt h118 rty (Pm.total Y)) := Hty.out.below hb
        have HZb : Hid (h118.heap[h101.heap.size]? = some (.cells #[.int .i64 0, .pointer none] 33)) := (hb.block _ (Array.getElem?_eq_some_iff.1 HZb.out).1).trans HZb.out
        have HW : Hid (RowKit.Below V8.heap.size V8 h118) := HW.out.trans (hb.mono HW.out.size)
        clear hp hb
        go_wp2_with fail
        refine hK.out _ _ ⟨HAl.out _ HW.out, fun _ => trivial⟩ ?_
        have hHeld := (⟨HAl.out _ HW.out, trivial⟩ : _ ∧ True)
        clear hK Kq
        try simp only [Act.put, List.setIfInBounds_toArray, List.set_cons_zero, List.set_cons_succ]
        refine wpAnyT_one (i := 6) (o := ⟨some 106, .call { callee := .value (.func 28), args := #[(.tmp 105)], argTypes := #[35] }, _, _, _, _⟩) (by kernel_rfl) rfl (fun Kq hK => ?_)
        go_simp
        refine calls_at (HTz.out h118 HW.out) (by with_reducible rfl) (by with_reducible rfl) ?_
        rintro e h119 ⟨rtz, rfl, hp, hb⟩
        have Htz : Hid (BigAt h119 rtz (Pm.total Z)) := hp
        have Htxy : Hid (BigAt h119 rtxy (Pm.total X + Pm.total Y)) := Htxy.out.below hb
        have HZb : Hid (h119.heap[h101.heap.size]? = some (.cells #[.int .i64 0, .pointer none] 33)) := (hb.block _ (Array.getElem?_eq_some_iff.1 HZb.out).1).trans HZb.out
        have HW : Hid (RowKit.Below V8.heap.size V8 h119) := HW.out.trans (hb.mono HW.out.size)
        clear hp hb
        go_wp2_with fail
        refine hK.out _ _ ⟨HAl.out _ HW.out, fun _ => trivial⟩ ?_
        have hHeld := (⟨HAl.out _ HW.out, trivial⟩ : _ ∧ True)
        clear hK Kq
        try simp only [Act.put, List.setIfInBounds_toArray, List.set_cons_zero, List.set_cons_succ]
        refine wpAnyT_one (i := 7) (o := ⟨some 107, .call { callee := .value (.func 29), args := #[(.tmp 104), (.tmp 106)], argTypes := #[33, 33] }, _, _, _, _⟩) (by kernel_rfl) rfl (fun Kq hK => ?_)
        go_simp
        refine calls_at (HAr.out h119 _ _ Htxy.out Htz.out) (by with_reducible rfl) (by with_reducible rfl) ?_
        rintro e h120 ⟨rtr, rfl, hp, hb⟩
        have Htr : Hid (BigAt h120 rtr (Pm.total X + Pm.total Y + Pm.total Z)) := hp
        have Htxy : Hid (BigAt h120 rtxy (Pm.total X + Pm.total Y)) := Htxy.out.below hb
        have Htz : Hid (BigAt h120 rtz (Pm.total Z)) := Htz.out.below hb
        have HZb : Hid (h120.heap[h101.heap.size]? = some (.cells #[.int .i64 0, .pointer none] 33)) := (hb.block _ (Array.getElem?_eq_some_iff.1 HZb.out).1).trans HZb.out
        have HW : Hid (RowKit.Below V8.heap.size V8 h120) := HW.out.trans (hb.mono HW.out.size)
        clear hp hb
        go_wp2_with fail
        refine hK.out _ _ ⟨HAl.out _ HW.out, fun _ => trivial⟩ ?_
        have hHeld := (⟨HAl.out _ HW.out, trivial⟩ : _ ∧ True)
        clear hK Kq
        try simp only [Act.put, List.setIfInBounds_toArray, List.set_cons_zero, List.set_cons_succ]
        obtain ⟨nr, qr, rfl⟩ := Htr.out.shape
        obtain ⟨f0, f1, f2, f3⟩ := box_facts HZb.out
        obtain ⟨Xr, hXr⟩ : ∃ X, (h120.setCell ⟨h101.heap.size, 0, none⟩ (.int .i64 nr)).setCell ⟨h101.heap.size, 1, none⟩ (.pointer qr) = X := ⟨_, rfl⟩
        obtain ⟨y0, y1, hBX, hbX⟩ := num_ret HZb.out Htr.out hXr
        have HWX : Hid (RowKit.Below V8.heap.size V8 Xr) := hbX _ _ HGe.out HW.out
        have HRel : Hid (Xr.cell? ⟨h101.heap.size, 0, none⟩ = some (.int .i64 nr) ∧ Xr.cell? ⟨h101.heap.size, 1, none⟩ = some (.pointer qr) ∧ BigAt Xr (.agg #[.int .i64 nr, .pointer qr]) (Pm.total X + Pm.total Y + Pm.total Z) ∧ h101.heap.size < Xr.heap.size ∧ RowKit.Below V8.heap.size V8 Xr) := ⟨y0, y1, hBX, by rw [← hXr]; simpa [World.setCell] using (Array.getElem?_eq_some_iff.1 HZb.out).1, HWX.out⟩
        have HX9 : Hid ((h120.setCell ⟨h101.heap.size, 0, none⟩ (.int .i64 nr)).setCell ⟨h101.heap.size, 1, none⟩ (.pointer qr) = Xr) := hXr
        clear hXr y0 y1 hBX hbX
        refine wpAnyT_late (i := 9) (o := ⟨none, .store 33 (.tmp 17) (.tmp 107), _, _, _, _⟩) (by kernel_rfl) rfl (by kernel_rfl) (fun Kq hK => ?_)
        go_simp
        rw [HX9.out]
        refine hK.out _ _ (HAl.out _ HWX.out) ?_
        clear hK Kq f0 f1 f2 f3
        try simp only [Act.put, List.setIfInBounds_toArray, List.set_cons_zero, List.set_cons_succ]
        refine wpAnyT_done (by kernel_rfl) ?_ _
        go_wp2_with fail
        go_meet
        case rel => exact ⟨_, nr, qr, rfl, HRel⟩
    · go_simp
      have HGe : Hid (V8.heap.size ≤ U.heap.size) := HW.out.size
      obtain ⟨h121, hVn⟩ : ∃ V, World.alloc U (.cells #[.int .i64 0, .pointer none] 33) = V := ⟨_, rfl⟩
      obtain ⟨hO, hb⟩ := new_obj U _ hVn
      rw [hVn]
      have HZb : Hid (h121.heap[U.heap.size]? = some (.cells #[.int .i64 0, .pointer none] 33)) := hO
      have HW : Hid (RowKit.Below V8.heap.size V8 h121) := HW.out.trans (hb.mono HW.out.size)
      clear hO hb hVn
      refine hK.out _ _ ⟨HAl.out _ HW.out, fun _ => trivial⟩ ?_
      have hHeld := (⟨HAl.out _ HW.out, trivial⟩ : _ ∧ True)
      clear hK Kq
      try simp only [Act.put, List.setIfInBounds_toArray, List.set_cons_zero, List.set_cons_succ]
      refine wpAnyT_one (i := 1) (o := ⟨some 101, .call { callee := .value (.func 28), args := #[(.tmp 100)], argTypes := #[35] }, _, _, _, _⟩) (by kernel_rfl) rfl (fun Kq hK => ?_)
      go_simp
      refine calls_at (HTx.out h121 HW.out) (by with_reducible rfl) (by with_reducible rfl) ?_
      rintro e h122 ⟨rtx, rfl, hp, hb⟩
      have Htx : Hid (BigAt h122 rtx (Pm.total X)) := hp
      have HZb : Hid (h122.heap[U.heap.size]? = some (.cells #[.int .i64 0, .pointer none] 33)) := (hb.block _ (Array.getElem?_eq_some_iff.1 HZb.out).1).trans HZb.out
      have HW : Hid (RowKit.Below V8.heap.size V8 h122) := HW.out.trans (hb.mono HW.out.size)
      clear hp hb
      go_wp2_with fail
      refine hK.out _ _ ⟨HAl.out _ HW.out, fun _ => trivial⟩ ?_
      have hHeld := (⟨HAl.out _ HW.out, trivial⟩ : _ ∧ True)
      clear hK Kq
      try simp only [Act.put, List.setIfInBounds_toArray, List.set_cons_zero, List.set_cons_succ]
      refine wpAnyT_one (i := 3) (o := ⟨some 103, .call { callee := .value (.func 28), args := #[(.tmp 102)], argTypes := #[35] }, _, _, _, _⟩) (by kernel_rfl) rfl (fun Kq hK => ?_)
      go_simp
      refine calls_at (HTy.out h122 HW.out) (by with_reducible rfl) (by with_reducible rfl) ?_
      rintro e h123 ⟨rty, rfl, hp, hb⟩
      have Hty : Hid (BigAt h123 rty (Pm.total Y)) := hp
      have Htx : Hid (BigAt h123 rtx (Pm.total X)) := Htx.out.below hb
      have HZb : Hid (h123.heap[U.heap.size]? = some (.cells #[.int .i64 0, .pointer none] 33)) := (hb.block _ (Array.getElem?_eq_some_iff.1 HZb.out).1).trans HZb.out
      have HW : Hid (RowKit.Below V8.heap.size V8 h123) := HW.out.trans (hb.mono HW.out.size)
      clear hp hb
      go_wp2_with fail
      refine hK.out _ _ ⟨HAl.out _ HW.out, fun _ => trivial⟩ ?_
      have hHeld := (⟨HAl.out _ HW.out, trivial⟩ : _ ∧ True)
      clear hK Kq
      try simp only [Act.put, List.setIfInBounds_toArray, List.set_cons_zero, List.set_cons_succ]
      refine wpAnyT_one (i := 4) (o := ⟨some 104, .call { callee := .value (.func 29), args := #[(.tmp 101), (.tmp 103)], argTypes := #[33, 33] }, _, _, _, _⟩) (by kernel_rfl) rfl (fun Kq hK => ?_)
      go_simp
      refine calls_at (HAxy.out h123 _ _ Htx.out Hty.out) (by with_reducible rfl) (by with_reducible rfl) ?_
      rintro e h124 ⟨rtxy, rfl, hp, hb⟩
      have Htxy : Hid (BigAt h124 rtxy (Pm.total X + Pm.total Y)) := hp
      have Htx : Hid (BigAt h124 rtx (Pm.total X)) := Htx.out.below hb
      have Hty : Hid (BigAt h124 rty (Pm.total Y)) := Hty.out.below hb
      have HZb : Hid (h124.heap[U.heap.size]? = some (.cells #[.int .i64 0, .pointer none] 33)) := (hb.block _ (Array.getElem?_eq_some_iff.1 HZb.out).1).trans HZb.out
      have HW : Hid (RowKit.Below V8.heap.size V8 h124) := HW.out.trans (hb.mono HW.out.size)
      clear hp hb
      go_wp2_with fail
      refine hK.out _ _ ⟨HAl.out _ HW.out, fun _ => trivial⟩ ?_
      have hHeld := (⟨HAl.out _ HW.out, trivial⟩ : _ ∧ True)
      clear hK Kq
      try simp only [Act.put, List.setIfInBounds_toArray, List.set_cons_zero, List.set_cons_succ]
      refine wpAnyT_one (i := 6) (o := ⟨some 106, .call { callee := .value (.func 28), args := #[(.tmp 105)], argTypes := #[35] }, _, _, _, _⟩) (by kernel_rfl) rfl (fun Kq hK => ?_)
      go_simp
      refine calls_at (HTz.out h124 HW.out) (by with_reducible rfl) (by with_reducible rfl) ?_
      rintro e h125 ⟨rtz, rfl, hp, hb⟩
      have Htz : Hid (BigAt h125 rtz (Pm.total Z)) := hp
      have Htxy : Hid (BigAt h125 rtxy (Pm.total X + Pm.total Y)) := Htxy.out.below hb
      have HZb : Hid (h125.heap[U.heap.size]? = some (.cells #[.int .i64 0, .pointer none] 33)) := (hb.block _ (Array.getElem?_eq_some_iff.1 HZb.out).1).trans HZb.out
      have HW : Hid (RowKit.Below V8.heap.size V8 h125) := HW.out.trans (hb.mono HW.out.size)
      clear hp hb
      go_wp2_with fail
      refine hK.out _ _ ⟨HAl.out _ HW.out, fun _ => trivial⟩ ?_
      have hHeld := (⟨HAl.out _ HW.out, trivial⟩ : _ ∧ True)
      clear hK Kq
      try simp only [Act.put, List.setIfInBounds_toArray, List.set_cons_zero, List.set_cons_succ]
      refine wpAnyT_one (i := 7) (o := ⟨some 107, .call { callee := .value (.func 29), args := #[(.tmp 104), (.tmp 106)], argTypes := #[33, 33] }, _, _, _, _⟩) (by kernel_rfl) rfl (fun Kq hK => ?_)
      go_simp
      refine calls_at (HAr.out h125 _ _ Htxy.out Htz.out) (by with_reducible rfl) (by with_reducible rfl) ?_
      rintro e h126 ⟨rtr, rfl, hp, hb⟩
      have Htr : Hid (BigAt h126 rtr (Pm.total X + Pm.total Y + Pm.total Z)) := hp
      have Htxy : Hid (BigAt h126 rtxy (Pm.total X + Pm.total Y)) := Htxy.out.below hb
      have Htz : Hid (BigAt h126 rtz (Pm.total Z)) := Htz.out.below hb
      have HZb : Hid (h126.heap[U.heap.size]? = some (.cells #[.int .i64 0, .pointer none] 33)) := (hb.block _ (Array.getElem?_eq_some_iff.1 HZb.out).1).trans HZb.out
      have HW : Hid (RowKit.Below V8.heap.size V8 h126) := HW.out.trans (hb.mono HW.out.size)
      clear hp hb
      go_wp2_with fail
      refine hK.out _ _ ⟨HAl.out _ HW.out, fun _ => trivial⟩ ?_
      have hHeld := (⟨HAl.out _ HW.out, trivial⟩ : _ ∧ True)
      clear hK Kq
      try simp only [Act.put, List.setIfInBounds_toArray, List.set_cons_zero, List.set_cons_succ]
      obtain ⟨nr, qr, rfl⟩ := Htr.out.shape
      obtain ⟨f0, f1, f2, f3⟩ := box_facts HZb.out
      obtain ⟨Xr, hXr⟩ : ∃ X, (h126.setCell ⟨U.heap.size, 0, none⟩ (.int .i64 nr)).setCell ⟨U.heap.size, 1, none⟩ (.pointer qr) = X := ⟨_, rfl⟩
      obtain ⟨y0, y1, hBX, hbX⟩ := num_ret HZb.out Htr.out hXr
      have HWX : Hid (RowKit.Below V8.heap.size V8 Xr) := hbX _ _ HGe.out HW.out
      have HRel : Hid (Xr.cell? ⟨U.heap.size, 0, none⟩ = some (.int .i64 nr) ∧ Xr.cell? ⟨U.heap.size, 1, none⟩ = some (.pointer qr) ∧ BigAt Xr (.agg #[.int .i64 nr, .pointer qr]) (Pm.total X + Pm.total Y + Pm.total Z) ∧ U.heap.size < Xr.heap.size ∧ RowKit.Below V8.heap.size V8 Xr) := ⟨y0, y1, hBX, by rw [← hXr]; simpa [World.setCell] using (Array.getElem?_eq_some_iff.1 HZb.out).1, HWX.out⟩
      have HX9 : Hid ((h126.setCell ⟨U.heap.size, 0, none⟩ (.int .i64 nr)).setCell ⟨U.heap.size, 1, none⟩ (.pointer qr) = Xr) := hXr
      clear hXr y0 y1 hBX hbX
      refine wpAnyT_late (i := 9) (o := ⟨none, .store 33 (.tmp 17) (.tmp 107), _, _, _, _⟩) (by kernel_rfl) rfl (by kernel_rfl) (fun Kq hK => ?_)
      go_simp
      rw [HX9.out]
      refine hK.out _ _ (HAl.out _ HWX.out) ?_
      clear hK Kq f0 f1 f2 f3
      try simp only [Act.put, List.setIfInBounds_toArray, List.set_cons_zero, List.set_cons_succ]
      refine wpAnyT_done (by kernel_rfl) ?_ _
      go_wp2_with fail
      go_meet
      case rel => exact ⟨_, nr, qr, rfl, HRel⟩
  case rest =>
  obtain ⟨B, nr, qr, rfl, hRoom⟩ := hcut
  have HVb : Hid (∀ w', RowKit.Below wc.heap.size wc w' → RowKit.Below V8.heap.size V8 w') := fun w' hb => hRoom.out.2.2.2.2.trans (hb.mono hRoom.out.2.2.2.2.size)
  have HRm : Hid (∀ w', RowKit.Below wc.heap.size wc w' → BigAt w' (.agg #[.int .i64 nr, .pointer qr]) (Pm.total X + Pm.total Y + Pm.total Z)) := fun w' hb => hRoom.out.2.2.1.below hb
  have HDx : Hid (∀ w', RowKit.Below V8.heap.size V8 w' → Calls Tryz.prog 19 #[.agg #[.slice ax Nx cx, .int .i64 nx, .pointer qx]] w' fun e w'' => ∃ r, e = .returned r ∧ BigAt w'' r (x) ∧ RowKit.Below w'.heap.size w' w'') := fun w' hb => degree_any _ X x w' (HX.out.pb.below hb)
  have HDy : Hid (∀ w', RowKit.Below V8.heap.size V8 w' → Calls Tryz.prog 19 #[.agg #[.slice ay Ny cy, .int .i64 ny, .pointer qy]] w' fun e w'' => ∃ r, e = .returned r ∧ BigAt w'' r (y) ∧ RowKit.Below w'.heap.size w' w'') := fun w' hb => degree_any _ Y y w' (HY.out.pb.below hb)
  have HDz : Hid (∀ w', RowKit.Below V8.heap.size V8 w' → Calls Tryz.prog 19 #[.agg #[.slice az Nz cz, .int .i64 nz, .pointer qz]] w' fun e w'' => ∃ r, e = .returned r ∧ BigAt w'' r (z) ∧ RowKit.Below w'.heap.size w' w'') := fun w' hb => degree_any _ Z z w' (HZ.out.pb.below hb)
  obtain ⟨ux, hcx⟩ : ∃ c, cmpI x (Pm.total X + Pm.total Y + Pm.total Z) = c := ⟨_, rfl⟩
  have HCx : Hid (∀ w' r, RowKit.Below wc.heap.size wc w' → BigAt w' r x → Calls Tryz.prog 30 #[r, .agg #[.int .i64 nr, .pointer qr]] w' fun e w'' => e = .returned (.int .i64 ux) ∧ RowKit.Below w'.heap.size w' w'') := fun w' r hb h => by
    have h1 := cmp_big x (Pm.total X + Pm.total Y + Pm.total Z) r _ w' h (HRm.out w' hb) (Nat.le_trans Gx.out.dg (by decide))
    rw [hcx] at h1
    exact h1
  have Hcx : Hid (0 ≤ ux → Pm.total X + Pm.total Y + Pm.total Z ≤ x) := fun h => by
    rcases Int.lt_or_le x (Pm.total X + Pm.total Y + Pm.total Z) with h1 | h1
    · rw [cmpI_lt h1] at hcx; omega
    · exact h1
  clear hcx
  obtain ⟨uy, hcy⟩ : ∃ c, cmpI y (Pm.total X + Pm.total Y + Pm.total Z) = c := ⟨_, rfl⟩
  have HCy : Hid (∀ w' r, RowKit.Below wc.heap.size wc w' → BigAt w' r y → Calls Tryz.prog 30 #[r, .agg #[.int .i64 nr, .pointer qr]] w' fun e w'' => e = .returned (.int .i64 uy) ∧ RowKit.Below w'.heap.size w' w'') := fun w' r hb h => by
    have h1 := cmp_big y (Pm.total X + Pm.total Y + Pm.total Z) r _ w' h (HRm.out w' hb) (Nat.le_trans Gy.out.dg (by decide))
    rw [hcy] at h1
    exact h1
  have Hcy : Hid (0 ≤ uy → Pm.total X + Pm.total Y + Pm.total Z ≤ y) := fun h => by
    rcases Int.lt_or_le y (Pm.total X + Pm.total Y + Pm.total Z) with h1 | h1
    · rw [cmpI_lt h1] at hcy; omega
    · exact h1
  clear hcy
  obtain ⟨uz, hcz⟩ : ∃ c, cmpI z (Pm.total X + Pm.total Y + Pm.total Z) = c := ⟨_, rfl⟩
  have HCz : Hid (∀ w' r, RowKit.Below wc.heap.size wc w' → BigAt w' r z → Calls Tryz.prog 30 #[r, .agg #[.int .i64 nr, .pointer qr]] w' fun e w'' => e = .returned (.int .i64 uz) ∧ RowKit.Below w'.heap.size w' w'') := fun w' r hb h => by
    have h1 := cmp_big z (Pm.total X + Pm.total Y + Pm.total Z) r _ w' h (HRm.out w' hb) (Nat.le_trans Gz.out.dg (by decide))
    rw [hcz] at h1
    exact h1
  have Hcz : Hid (0 ≤ uz → Pm.total X + Pm.total Y + Pm.total Z ≤ z) := fun h => by
    rcases Int.lt_or_le z (Pm.total X + Pm.total Y + Pm.total Z) with h1 | h1
    · rw [cmpI_lt h1] at hcz; omega
    · exact h1
  clear hcz
  have HAl : Hid (∀ w', RowKit.Below wc.heap.size wc w' → w'.cell? ⟨w5.heap.size, 0, none⟩ = some (.slice ax Nx cx) ∧ w'.cell? ⟨w5.heap.size, 1, none⟩ = some (.int .i64 nx) ∧ w'.cell? ⟨w5.heap.size, 2, none⟩ = some (.pointer qx) ∧ w'.cell? ⟨w6.heap.size, 0, none⟩ = some (.slice ay Ny cy) ∧ w'.cell? ⟨w6.heap.size, 1, none⟩ = some (.int .i64 ny) ∧ w'.cell? ⟨w6.heap.size, 2, none⟩ = some (.pointer qy) ∧ w'.cell? ⟨w7.heap.size, 0, none⟩ = some (.slice az Nz cz) ∧ w'.cell? ⟨w7.heap.size, 1, none⟩ = some (.int .i64 nz) ∧ w'.cell? ⟨w7.heap.size, 2, none⟩ = some (.pointer qz) ∧ w'.cell? ⟨B, 0, none⟩ = some (.int .i64 nr) ∧ w'.cell? ⟨B, 1, none⟩ = some (.pointer qr)) := fun w' hb => by
    obtain ⟨x0, x1, x2, y0, y1, y2, z0, z1, z2⟩ := HAl.out w' (HVb.out w' hb)
    exact ⟨x0, x1, x2, y0, y1, y2, z0, z1, z2, (hb.cell (p := ⟨B, 0, none⟩) hRoom.out.2.2.2.1).trans hRoom.out.1, (hb.cell (p := ⟨B, 1, none⟩) hRoom.out.2.2.2.1).trans hRoom.out.2.1⟩
  clear HTx HTy HTz HAxy HAr
  go_upto_region 14 with fail
  go_cut [140] from 22 to 166 (fun s140 wx => s140 = .bool false ∧ Hid (RowKit.Below V8.heap.size V8 wx))
  case first =>
    have HW : Hid (RowKit.Below wc.heap.size wc wc.drew) := (Below.refl _ _).drew
    refine wp_region_T (fun w' => w'.cell? ⟨w5.heap.size, 0, none⟩ = some (.slice ax Nx cx) ∧ w'.cell? ⟨w5.heap.size, 1, none⟩ = some (.int .i64 nx) ∧ w'.cell? ⟨w5.heap.size, 2, none⟩ = some (.pointer qx) ∧ w'.cell? ⟨w6.heap.size, 0, none⟩ = some (.slice ay Ny cy) ∧ w'.cell? ⟨w6.heap.size, 1, none⟩ = some (.int .i64 ny) ∧ w'.cell? ⟨w6.heap.size, 2, none⟩ = some (.pointer qy) ∧ w'.cell? ⟨w7.heap.size, 0, none⟩ = some (.slice az Nz cz) ∧ w'.cell? ⟨w7.heap.size, 1, none⟩ = some (.int .i64 nz) ∧ w'.cell? ⟨w7.heap.size, 2, none⟩ = some (.pointer qz) ∧ w'.cell? ⟨B, 0, none⟩ = some (.int .i64 nr) ∧ w'.cell? ⟨B, 1, none⟩ = some (.pointer qr)) (fun _ => True) [] (by kernel_rfl) ⟨HAl.out _ HW.out, trivial⟩ (fun hHeld => ?_)
    generalize wc.drew = U at HW hHeld ⊢
    have HXY : Hid (∀ w', RowKit.Below V8.heap.size V8 w' → Calls Tryz.prog 21 #[.agg #[.slice ax Nx cx, .int .i64 nx, .pointer qx], .agg #[.slice ay Ny cy, .int .i64 ny, .pointer qy]] w' (AddO w' X x Y y 6000 3004)) := fun w' hb => add_gd _ _ X Y x y w' (HX.out.pb.below hb) (HY.out.pb.below hb) Gx.out Gy.out (by decide) (by decide) (by decide) (by decide)
    have HPZ : Hid (∀ w' r P p, RowKit.Below V8.heap.size V8 w' → PbAt w' r P p → Gd 6000 3004 P p → Calls Tryz.prog 21 #[r, .agg #[.slice az Nz cz, .int .i64 nz, .pointer qz]] w' (AddO w' P p Z z 9000 3006)) := fun w' r P p hb h g => add_gd _ _ P Z p z w' h (HZ.out.pb.below hb) g Gz.out (by decide) (by decide) (by decide) (by decide)
    have HXQ : Hid (∀ w' r P p, RowKit.Below V8.heap.size V8 w' → PbAt w' r P p → Gd 6000 3004 P p → Calls Tryz.prog 21 #[.agg #[.slice ax Nx cx, .int .i64 nx, .pointer qx], r] w' (AddO w' X x P p 9000 3006)) := fun w' r P p hb h g => add_gd _ _ X P x p w' (HX.out.pb.below hb) h Gx.out g (by decide) (by decide) (by decide) (by decide)
    by_cases hx : 0 ≤ ux
    case neg =>
      refine wpAnyT_takeB (i := 0) (oi := ⟨some 108, .load 35 (.tmp 9), _, _, _, _⟩) (v := ?vq4) rfl (by kernel_rfl) (by kernel_rfl) (by kernel_rfl) (by kernel_rfl) (fun _ _ _ h => h) (Or.inl ⟨by rfl, ?hyq4⟩) (by assumption) ?restq4
      case hyq4 => (intro w hSw; (try dsimp only at hSw); go_simp; try (with_reducible rfl))
      try simp only [Act.put, List.setIfInBounds_toArray, List.set_cons_zero, List.set_cons_succ]
      refine wpAnyT_takeB (i := 2) (oi := ⟨some 110, .load 33 (.tmp 17), _, _, _, _⟩) (v := ?vq5) rfl (by kernel_rfl) (by kernel_rfl) (by kernel_rfl) (by kernel_rfl) (fun _ _ _ h => h) (Or.inl ⟨by rfl, ?hyq5⟩) (by assumption) ?restq5
      case hyq5 => (intro w hSw; (try dsimp only at hSw); go_simp; try (with_reducible rfl))
      try simp only [Act.put, List.setIfInBounds_toArray, List.set_cons_zero, List.set_cons_succ]
      refine wpAnyT_one (i := 1) (o := ⟨some 109, .call { callee := .value (.func 19), args := #[(.tmp 108)], argTypes := #[35] }, _, _, _, _⟩) (by kernel_rfl) rfl (fun Kq hK => ?_)
      go_simp
      refine calls_at (HDx.out U (HVb.out _ HW.out)) (by with_reducible rfl) (by with_reducible rfl) ?_
      rintro e h127 ⟨rd, rfl, hp, hb⟩
      have Hrd : Hid (BigAt h127 rd x) := hp
      have HW : Hid (RowKit.Below wc.heap.size wc h127) := HW.out.trans (hb.mono HW.out.size)
      clear hp hb
      go_wp2_with fail
      refine hK.out _ _ ⟨HAl.out _ HW.out, fun _ => trivial⟩ ?_
      have hHeld := (⟨HAl.out _ HW.out, trivial⟩ : _ ∧ True)
      clear hK Kq
      try simp only [Act.put, List.setIfInBounds_toArray, List.set_cons_zero, List.set_cons_succ]
      refine wpAnyT_one (i := 3) (o := ⟨some 111, .call { callee := .value (.func 30), args := #[(.tmp 109), (.tmp 110)], argTypes := #[33, 33] }, _, _, _, _⟩) (by kernel_rfl) rfl (fun Kq hK => ?_)
      go_simp
      refine calls_at (HCx.out h127 _ HW.out Hrd.out) (by with_reducible rfl) (by with_reducible rfl) ?_
      rintro e h128 ⟨rfl, hb⟩
      have HW : Hid (RowKit.Below wc.heap.size wc h128) := HW.out.trans (hb.mono HW.out.size)
      clear hb
      go_wp2_with fail
      refine hK.out _ _ ⟨HAl.out _ HW.out, fun _ => trivial⟩ ?_
      have hHeld := (⟨HAl.out _ HW.out, trivial⟩ : _ ∧ True)
      clear hK Kq
      try simp only [Act.put, List.setIfInBounds_toArray, List.set_cons_zero, List.set_cons_succ]
      refine wpAnyT_takeB (i := 4) (oi := ⟨some 112, .binOp .geq 3 (.tmp 111) (.const (.int .i64 0)) 3, _, _, _, _⟩) (v := .bool false) rfl (by kernel_rfl) (by kernel_rfl) (by kernel_rfl) (by kernel_rfl) (fun _ _ _ h => h) (Or.inl ⟨by rfl, ?hyq6⟩) (by assumption) ?restq6
      case hyq6 => (intro w hSw; go_simp; try simp [hx]; try (with_reducible rfl))
      try simp only [Act.put, List.setIfInBounds_toArray, List.set_cons_zero, List.set_cons_succ]
      refine wpAnyT_takeB (i := 5) (oi := ⟨some 113, .move (.tmp 112), _, _, _, _⟩) (v := ?vq7) rfl (by kernel_rfl) (by kernel_rfl) (by kernel_rfl) (by kernel_rfl) (fun _ _ _ h => h) (Or.inl ⟨by rfl, ?hyq7⟩) (by assumption) ?restq7
      case hyq7 => (intro w hSw; (try dsimp only at hSw); go_simp; try (with_reducible rfl))
      try simp only [Act.put, List.setIfInBounds_toArray, List.set_cons_zero, List.set_cons_succ]
      refine wpAnyT_takeB (i := 6) (oi := ⟨some 114, .load 35 (.tmp 11), _, _, _, _⟩) (v := undef) rfl (by kernel_rfl) (by kernel_rfl) (by kernel_rfl) (by kernel_rfl) (fun _ _ _ h => h) (Or.inr ⟨by rfl, rfl⟩) (by assumption) ?restq8
      try simp only [Act.put, List.setIfInBounds_toArray, List.set_cons_zero, List.set_cons_succ]
      refine wpAnyT_takeB (i := 8) (oi := ⟨some 116, .load 33 (.tmp 17), _, _, _, _⟩) (v := undef) rfl (by kernel_rfl) (by kernel_rfl) (by kernel_rfl) (by kernel_rfl) (fun _ _ _ h => h) (Or.inr ⟨by rfl, rfl⟩) (by assumption) ?restq9
      try simp only [Act.put, List.setIfInBounds_toArray, List.set_cons_zero, List.set_cons_succ]
      refine wpAnyT_one (i := 7) (o := ⟨some 115, .call { callee := .value (.func 19), args := #[(.tmp 114)], argTypes := #[35] }, _, _, _, _⟩) (by kernel_rfl) rfl (fun Kq hK => ?_)
      go_simp
      refine hK.out _ _ ⟨HAl.out _ HW.out, fun _ => trivial⟩ ?_
      clear hK Kq
      try simp only [Act.put, List.setIfInBounds_toArray, List.set_cons_zero, List.set_cons_succ]
      refine wpAnyT_one (i := 9) (o := ⟨some 117, .call { callee := .value (.func 30), args := #[(.tmp 115), (.tmp 116)], argTypes := #[33, 33] }, _, _, _, _⟩) (by kernel_rfl) rfl (fun Kq hK => ?_)
      go_simp
      refine hK.out _ _ ⟨HAl.out _ HW.out, fun _ => trivial⟩ ?_
      clear hK Kq
      try simp only [Act.put, List.setIfInBounds_toArray, List.set_cons_zero, List.set_cons_succ]
      refine wpAnyT_takeB (i := 10) (oi := ⟨some 118, .binOp .geq 3 (.tmp 117) (.const (.int .i64 0)) 3, _, _, _, _⟩) (v := undef) rfl (by kernel_rfl) (by kernel_rfl) (by kernel_rfl) (by kernel_rfl) (fun _ _ _ h => h) (Or.inr ⟨by rfl, rfl⟩) (by assumption) ?restq10
      try simp only [Act.put, List.setIfInBounds_toArray, List.set_cons_zero, List.set_cons_succ]
      refine wpAnyT_takeB (i := 11) (oi := ⟨some 119, .pick (.tmp 113) (.tmp 118) (.const (.bool false)), _, _, _, _⟩) (v := ?vq11) rfl (by kernel_rfl) (by kernel_rfl) (by kernel_rfl) (by kernel_rfl) (fun _ _ _ h => h) (Or.inl ⟨by rfl, ?hyq11⟩) (by assumption) ?restq11
      case hyq11 => (intro w hSw; (try dsimp only at hSw); go_simp; try (with_reducible rfl))
      try simp only [Act.put, List.setIfInBounds_toArray, List.set_cons_zero, List.set_cons_succ]
      refine wpAnyT_takeB (i := 12) (oi := ⟨some 120, .move (.tmp 119), _, _, _, _⟩) (v := ?vq12) rfl (by kernel_rfl) (by kernel_rfl) (by kernel_rfl) (by kernel_rfl) (fun _ _ _ h => h) (Or.inl ⟨by rfl, ?hyq12⟩) (by assumption) ?restq12
      case hyq12 => (intro w hSw; (try dsimp only at hSw); go_simp; try (with_reducible rfl))
      try simp only [Act.put, List.setIfInBounds_toArray, List.set_cons_zero, List.set_cons_succ]
      refine wpAnyT_takeB (i := 13) (oi := ⟨some 121, .load 35 (.tmp 13), _, _, _, _⟩) (v := undef) rfl (by kernel_rfl) (by kernel_rfl) (by kernel_rfl) (by kernel_rfl) (fun _ _ _ h => h) (Or.inr ⟨by rfl, rfl⟩) (by assumption) ?restq13
      try simp only [Act.put, List.setIfInBounds_toArray, List.set_cons_zero, List.set_cons_succ]
      refine wpAnyT_takeB (i := 15) (oi := ⟨some 123, .load 33 (.tmp 17), _, _, _, _⟩) (v := undef) rfl (by kernel_rfl) (by kernel_rfl) (by kernel_rfl) (by kernel_rfl) (fun _ _ _ h => h) (Or.inr ⟨by rfl, rfl⟩) (by assumption) ?restq14
      try simp only [Act.put, List.setIfInBounds_toArray, List.set_cons_zero, List.set_cons_succ]
      refine wpAnyT_one (i := 14) (o := ⟨some 122, .call { callee := .value (.func 19), args := #[(.tmp 121)], argTypes := #[35] }, _, _, _, _⟩) (by kernel_rfl) rfl (fun Kq hK => ?_)
      go_simp
      refine hK.out _ _ ⟨HAl.out _ HW.out, fun _ => trivial⟩ ?_
      clear hK Kq
      try simp only [Act.put, List.setIfInBounds_toArray, List.set_cons_zero, List.set_cons_succ]
      refine wpAnyT_one (i := 16) (o := ⟨some 124, .call { callee := .value (.func 30), args := #[(.tmp 122), (.tmp 123)], argTypes := #[33, 33] }, _, _, _, _⟩) (by kernel_rfl) rfl (fun Kq hK => ?_)
      go_simp
      refine hK.out _ _ ⟨HAl.out _ HW.out, fun _ => trivial⟩ ?_
      clear hK Kq
      try simp only [Act.put, List.setIfInBounds_toArray, List.set_cons_zero, List.set_cons_succ]
      refine wpAnyT_takeB (i := 17) (oi := ⟨some 125, .binOp .geq 3 (.tmp 124) (.const (.int .i64 0)) 3, _, _, _, _⟩) (v := undef) rfl (by kernel_rfl) (by kernel_rfl) (by kernel_rfl) (by kernel_rfl) (fun _ _ _ h => h) (Or.inr ⟨by rfl, rfl⟩) (by assumption) ?restq15
      try simp only [Act.put, List.setIfInBounds_toArray, List.set_cons_zero, List.set_cons_succ]
      refine wpAnyT_takeB (i := 18) (oi := ⟨some 126, .pick (.tmp 120) (.tmp 125) (.const (.bool false)), _, _, _, _⟩) (v := ?vq16) rfl (by kernel_rfl) (by kernel_rfl) (by kernel_rfl) (by kernel_rfl) (fun _ _ _ h => h) (Or.inl ⟨by rfl, ?hyq16⟩) (by assumption) ?restq16
      case hyq16 => (intro w hSw; (try dsimp only at hSw); go_simp; try (with_reducible rfl))
      try simp only [Act.put, List.setIfInBounds_toArray, List.set_cons_zero, List.set_cons_succ]
      refine wpAnyT_takeB (i := 19) (oi := ⟨some 127, .move (.tmp 126), _, _, _, _⟩) (v := ?vq17) rfl (by kernel_rfl) (by kernel_rfl) (by kernel_rfl) (by kernel_rfl) (fun _ _ _ h => h) (Or.inl ⟨by rfl, ?hyq17⟩) (by assumption) ?restq17
      case hyq17 => (intro w hSw; (try dsimp only at hSw); go_simp; try (with_reducible rfl))
      try simp only [Act.put, List.setIfInBounds_toArray, List.set_cons_zero, List.set_cons_succ]
      refine wpAnyT_takeB (i := 20) (oi := ⟨some 128, .load 35 (.tmp 9), _, _, _, _⟩) (v := undef) rfl (by kernel_rfl) (by kernel_rfl) (by kernel_rfl) (by kernel_rfl) (fun _ _ _ h => h) (Or.inr ⟨by rfl, rfl⟩) (by assumption) ?restq18
      try simp only [Act.put, List.setIfInBounds_toArray, List.set_cons_zero, List.set_cons_succ]
      refine wpAnyT_takeB (i := 21) (oi := ⟨some 129, .load 35 (.tmp 11), _, _, _, _⟩) (v := undef) rfl (by kernel_rfl) (by kernel_rfl) (by kernel_rfl) (by kernel_rfl) (fun _ _ _ h => h) (Or.inr ⟨by rfl, rfl⟩) (by assumption) ?restq19
      try simp only [Act.put, List.setIfInBounds_toArray, List.set_cons_zero, List.set_cons_succ]
      refine wpAnyT_takeB (i := 23) (oi := ⟨some 131, .load 35 (.tmp 13), _, _, _, _⟩) (v := undef) rfl (by kernel_rfl) (by kernel_rfl) (by kernel_rfl) (by kernel_rfl) (fun _ _ _ h => h) (Or.inr ⟨by rfl, rfl⟩) (by assumption) ?restq20
      try simp only [Act.put, List.setIfInBounds_toArray, List.set_cons_zero, List.set_cons_succ]
      refine wpAnyT_takeB (i := 25) (oi := ⟨some 133, .load 35 (.tmp 9), _, _, _, _⟩) (v := undef) rfl (by kernel_rfl) (by kernel_rfl) (by kernel_rfl) (by kernel_rfl) (fun _ _ _ h => h) (Or.inr ⟨by rfl, rfl⟩) (by assumption) ?restq21
      try simp only [Act.put, List.setIfInBounds_toArray, List.set_cons_zero, List.set_cons_succ]
      refine wpAnyT_takeB (i := 26) (oi := ⟨some 134, .load 35 (.tmp 11), _, _, _, _⟩) (v := undef) rfl (by kernel_rfl) (by kernel_rfl) (by kernel_rfl) (by kernel_rfl) (fun _ _ _ h => h) (Or.inr ⟨by rfl, rfl⟩) (by assumption) ?restq22
      try simp only [Act.put, List.setIfInBounds_toArray, List.set_cons_zero, List.set_cons_succ]
      refine wpAnyT_takeB (i := 27) (oi := ⟨some 135, .load 35 (.tmp 13), _, _, _, _⟩) (v := undef) rfl (by kernel_rfl) (by kernel_rfl) (by kernel_rfl) (by kernel_rfl) (fun _ _ _ h => h) (Or.inr ⟨by rfl, rfl⟩) (by assumption) ?restq23
      try simp only [Act.put, List.setIfInBounds_toArray, List.set_cons_zero, List.set_cons_succ]
      refine wpAnyT_one (i := 22) (o := ⟨some 130, .call { callee := .value (.func 21), args := #[(.tmp 128), (.tmp 129)], argTypes := #[35, 35] }, _, _, _, _⟩) (by kernel_rfl) rfl (fun Kq hK => ?_)
      go_simp
      refine hK.out _ _ ⟨HAl.out _ HW.out, fun _ => trivial⟩ ?_
      clear hK Kq
      try simp only [Act.put, List.setIfInBounds_toArray, List.set_cons_zero, List.set_cons_succ]
      refine wpAnyT_one (i := 24) (o := ⟨some 132, .call { callee := .value (.func 21), args := #[(.tmp 130), (.tmp 131)], argTypes := #[35, 35] }, _, _, _, _⟩) (by kernel_rfl) rfl (fun Kq hK => ?_)
      go_simp
      refine hK.out _ _ ⟨HAl.out _ HW.out, fun _ => trivial⟩ ?_
      clear hK Kq
      try simp only [Act.put, List.setIfInBounds_toArray, List.set_cons_zero, List.set_cons_succ]
      refine wpAnyT_one (i := 28) (o := ⟨some 136, .call { callee := .value (.func 21), args := #[(.tmp 134), (.tmp 135)], argTypes := #[35, 35] }, _, _, _, _⟩) (by kernel_rfl) rfl (fun Kq hK => ?_)
      go_simp
      refine hK.out _ _ ⟨HAl.out _ HW.out, fun _ => trivial⟩ ?_
      clear hK Kq
      try simp only [Act.put, List.setIfInBounds_toArray, List.set_cons_zero, List.set_cons_succ]
      refine wpAnyT_one (i := 29) (o := ⟨some 137, .call { callee := .value (.func 21), args := #[(.tmp 133), (.tmp 136)], argTypes := #[35, 35] }, _, _, _, _⟩) (by kernel_rfl) rfl (fun Kq hK => ?_)
      go_simp
      refine hK.out _ _ ⟨HAl.out _ HW.out, fun _ => trivial⟩ ?_
      clear hK Kq
      try simp only [Act.put, List.setIfInBounds_toArray, List.set_cons_zero, List.set_cons_succ]
      refine wpAnyT_one (i := 30) (o := ⟨some 138, .call { callee := .value (.func 12), args := #[(.tmp 132), (.tmp 137)], argTypes := #[35, 35] }, _, _, _, _⟩) (by kernel_rfl) rfl (fun Kq hK => ?_)
      go_simp
      refine hK.out _ _ ⟨HAl.out _ HW.out, fun _ => trivial⟩ ?_
      clear hK Kq
      try simp only [Act.put, List.setIfInBounds_toArray, List.set_cons_zero, List.set_cons_succ]
      refine wpAnyT_takeB (i := 31) (oi := ⟨some 139, .unOp .not 4 (.tmp 138), _, _, _, _⟩) (v := undef) rfl (by kernel_rfl) (by kernel_rfl) (by kernel_rfl) (by kernel_rfl) (fun _ _ _ h => h) (Or.inr ⟨by rfl, rfl⟩) (by assumption) ?restq24
      try simp only [Act.put, List.setIfInBounds_toArray, List.set_cons_zero, List.set_cons_succ]
      refine wpAnyT_takeB (i := 32) (oi := ⟨some 140, .pick (.tmp 127) (.tmp 139) (.const (.bool false)), _, _, _, _⟩) (v := ?vq25) rfl (by kernel_rfl) (by kernel_rfl) (by kernel_rfl) (by kernel_rfl) (fun _ _ _ h => h) (Or.inl ⟨by rfl, ?hyq25⟩) (by assumption) ?restq25
      case hyq25 => (intro w hSw; (try dsimp only at hSw); go_simp; try (with_reducible rfl))
      try simp only [Act.put, List.setIfInBounds_toArray, List.set_cons_zero, List.set_cons_succ]
      refine wpAnyT_done (by kernel_rfl) ?_ _
      go_wp2_with fail
      go_meet
      case rel => exact ⟨rfl, HVb.out _ HW.out⟩
    by_cases hy : 0 ≤ uy
    case neg =>
      refine wpAnyT_takeB (i := 0) (oi := ⟨some 108, .load 35 (.tmp 9), _, _, _, _⟩) (v := ?vq26) rfl (by kernel_rfl) (by kernel_rfl) (by kernel_rfl) (by kernel_rfl) (fun _ _ _ h => h) (Or.inl ⟨by rfl, ?hyq26⟩) (by assumption) ?restq26
      case hyq26 => (intro w hSw; (try dsimp only at hSw); go_simp; try (with_reducible rfl))
      try simp only [Act.put, List.setIfInBounds_toArray, List.set_cons_zero, List.set_cons_succ]
      refine wpAnyT_takeB (i := 2) (oi := ⟨some 110, .load 33 (.tmp 17), _, _, _, _⟩) (v := ?vq27) rfl (by kernel_rfl) (by kernel_rfl) (by kernel_rfl) (by kernel_rfl) (fun _ _ _ h => h) (Or.inl ⟨by rfl, ?hyq27⟩) (by assumption) ?restq27
      case hyq27 => (intro w hSw; (try dsimp only at hSw); go_simp; try (with_reducible rfl))
      try simp only [Act.put, List.setIfInBounds_toArray, List.set_cons_zero, List.set_cons_succ]
      refine wpAnyT_one (i := 1) (o := ⟨some 109, .call { callee := .value (.func 19), args := #[(.tmp 108)], argTypes := #[35] }, _, _, _, _⟩) (by kernel_rfl) rfl (fun Kq hK => ?_)
      go_simp
      refine calls_at (HDx.out U (HVb.out _ HW.out)) (by with_reducible rfl) (by with_reducible rfl) ?_
      rintro e h129 ⟨rd, rfl, hp, hb⟩
      have Hrd : Hid (BigAt h129 rd x) := hp
      have HW : Hid (RowKit.Below wc.heap.size wc h129) := HW.out.trans (hb.mono HW.out.size)
      clear hp hb
      go_wp2_with fail
      refine hK.out _ _ ⟨HAl.out _ HW.out, fun _ => trivial⟩ ?_
      have hHeld := (⟨HAl.out _ HW.out, trivial⟩ : _ ∧ True)
      clear hK Kq
      try simp only [Act.put, List.setIfInBounds_toArray, List.set_cons_zero, List.set_cons_succ]
      refine wpAnyT_one (i := 3) (o := ⟨some 111, .call { callee := .value (.func 30), args := #[(.tmp 109), (.tmp 110)], argTypes := #[33, 33] }, _, _, _, _⟩) (by kernel_rfl) rfl (fun Kq hK => ?_)
      go_simp
      refine calls_at (HCx.out h129 _ HW.out Hrd.out) (by with_reducible rfl) (by with_reducible rfl) ?_
      rintro e h130 ⟨rfl, hb⟩
      have HW : Hid (RowKit.Below wc.heap.size wc h130) := HW.out.trans (hb.mono HW.out.size)
      clear hb
      go_wp2_with fail
      refine hK.out _ _ ⟨HAl.out _ HW.out, fun _ => trivial⟩ ?_
      have hHeld := (⟨HAl.out _ HW.out, trivial⟩ : _ ∧ True)
      clear hK Kq
      try simp only [Act.put, List.setIfInBounds_toArray, List.set_cons_zero, List.set_cons_succ]
      refine wpAnyT_takeB (i := 4) (oi := ⟨some 112, .binOp .geq 3 (.tmp 111) (.const (.int .i64 0)) 3, _, _, _, _⟩) (v := .bool true) rfl (by kernel_rfl) (by kernel_rfl) (by kernel_rfl) (by kernel_rfl) (fun _ _ _ h => h) (Or.inl ⟨by rfl, ?hyq28⟩) (by assumption) ?restq28
      case hyq28 => (intro w hSw; go_simp; try simp [hx]; try (with_reducible rfl))
      try simp only [Act.put, List.setIfInBounds_toArray, List.set_cons_zero, List.set_cons_succ]
      refine wpAnyT_takeB (i := 5) (oi := ⟨some 113, .move (.tmp 112), _, _, _, _⟩) (v := ?vq29) rfl (by kernel_rfl) (by kernel_rfl) (by kernel_rfl) (by kernel_rfl) (fun _ _ _ h => h) (Or.inl ⟨by rfl, ?hyq29⟩) (by assumption) ?restq29
      case hyq29 => (intro w hSw; (try dsimp only at hSw); go_simp; try (with_reducible rfl))
      try simp only [Act.put, List.setIfInBounds_toArray, List.set_cons_zero, List.set_cons_succ]
      refine wpAnyT_takeB (i := 6) (oi := ⟨some 114, .load 35 (.tmp 11), _, _, _, _⟩) (v := ?vq30) rfl (by kernel_rfl) (by kernel_rfl) (by kernel_rfl) (by kernel_rfl) (fun _ _ _ h => h) (Or.inl ⟨by rfl, ?hyq30⟩) (by assumption) ?restq30
      case hyq30 => (intro w hSw; (try dsimp only at hSw); go_simp; try (with_reducible rfl))
      try simp only [Act.put, List.setIfInBounds_toArray, List.set_cons_zero, List.set_cons_succ]
      refine wpAnyT_takeB (i := 8) (oi := ⟨some 116, .load 33 (.tmp 17), _, _, _, _⟩) (v := ?vq31) rfl (by kernel_rfl) (by kernel_rfl) (by kernel_rfl) (by kernel_rfl) (fun _ _ _ h => h) (Or.inl ⟨by rfl, ?hyq31⟩) (by assumption) ?restq31
      case hyq31 => (intro w hSw; (try dsimp only at hSw); go_simp; try (with_reducible rfl))
      try simp only [Act.put, List.setIfInBounds_toArray, List.set_cons_zero, List.set_cons_succ]
      refine wpAnyT_one (i := 7) (o := ⟨some 115, .call { callee := .value (.func 19), args := #[(.tmp 114)], argTypes := #[35] }, _, _, _, _⟩) (by kernel_rfl) rfl (fun Kq hK => ?_)
      go_simp
      refine calls_at (HDy.out h130 (HVb.out _ HW.out)) (by with_reducible rfl) (by with_reducible rfl) ?_
      rintro e h131 ⟨rd, rfl, hp, hb⟩
      have Hrd : Hid (BigAt h131 rd y) := hp
      have HW : Hid (RowKit.Below wc.heap.size wc h131) := HW.out.trans (hb.mono HW.out.size)
      clear hp hb
      go_wp2_with fail
      refine hK.out _ _ ⟨HAl.out _ HW.out, fun _ => trivial⟩ ?_
      have hHeld := (⟨HAl.out _ HW.out, trivial⟩ : _ ∧ True)
      clear hK Kq
      try simp only [Act.put, List.setIfInBounds_toArray, List.set_cons_zero, List.set_cons_succ]
      refine wpAnyT_one (i := 9) (o := ⟨some 117, .call { callee := .value (.func 30), args := #[(.tmp 115), (.tmp 116)], argTypes := #[33, 33] }, _, _, _, _⟩) (by kernel_rfl) rfl (fun Kq hK => ?_)
      go_simp
      refine calls_at (HCy.out h131 _ HW.out Hrd.out) (by with_reducible rfl) (by with_reducible rfl) ?_
      rintro e h132 ⟨rfl, hb⟩
      have HW : Hid (RowKit.Below wc.heap.size wc h132) := HW.out.trans (hb.mono HW.out.size)
      clear hb
      go_wp2_with fail
      refine hK.out _ _ ⟨HAl.out _ HW.out, fun _ => trivial⟩ ?_
      have hHeld := (⟨HAl.out _ HW.out, trivial⟩ : _ ∧ True)
      clear hK Kq
      try simp only [Act.put, List.setIfInBounds_toArray, List.set_cons_zero, List.set_cons_succ]
      refine wpAnyT_takeB (i := 10) (oi := ⟨some 118, .binOp .geq 3 (.tmp 117) (.const (.int .i64 0)) 3, _, _, _, _⟩) (v := .bool false) rfl (by kernel_rfl) (by kernel_rfl) (by kernel_rfl) (by kernel_rfl) (fun _ _ _ h => h) (Or.inl ⟨by rfl, ?hyq32⟩) (by assumption) ?restq32
      case hyq32 => (intro w hSw; go_simp; try simp [hy]; try (with_reducible rfl))
      try simp only [Act.put, List.setIfInBounds_toArray, List.set_cons_zero, List.set_cons_succ]
      refine wpAnyT_takeB (i := 11) (oi := ⟨some 119, .pick (.tmp 113) (.tmp 118) (.const (.bool false)), _, _, _, _⟩) (v := ?vq33) rfl (by kernel_rfl) (by kernel_rfl) (by kernel_rfl) (by kernel_rfl) (fun _ _ _ h => h) (Or.inl ⟨by rfl, ?hyq33⟩) (by assumption) ?restq33
      case hyq33 => (intro w hSw; (try dsimp only at hSw); go_simp; try (with_reducible rfl))
      try simp only [Act.put, List.setIfInBounds_toArray, List.set_cons_zero, List.set_cons_succ]
      refine wpAnyT_takeB (i := 12) (oi := ⟨some 120, .move (.tmp 119), _, _, _, _⟩) (v := ?vq34) rfl (by kernel_rfl) (by kernel_rfl) (by kernel_rfl) (by kernel_rfl) (fun _ _ _ h => h) (Or.inl ⟨by rfl, ?hyq34⟩) (by assumption) ?restq34
      case hyq34 => (intro w hSw; (try dsimp only at hSw); go_simp; try (with_reducible rfl))
      try simp only [Act.put, List.setIfInBounds_toArray, List.set_cons_zero, List.set_cons_succ]
      refine wpAnyT_takeB (i := 13) (oi := ⟨some 121, .load 35 (.tmp 13), _, _, _, _⟩) (v := undef) rfl (by kernel_rfl) (by kernel_rfl) (by kernel_rfl) (by kernel_rfl) (fun _ _ _ h => h) (Or.inr ⟨by rfl, rfl⟩) (by assumption) ?restq35
      try simp only [Act.put, List.setIfInBounds_toArray, List.set_cons_zero, List.set_cons_succ]
      refine wpAnyT_takeB (i := 15) (oi := ⟨some 123, .load 33 (.tmp 17), _, _, _, _⟩) (v := undef) rfl (by kernel_rfl) (by kernel_rfl) (by kernel_rfl) (by kernel_rfl) (fun _ _ _ h => h) (Or.inr ⟨by rfl, rfl⟩) (by assumption) ?restq36
      try simp only [Act.put, List.setIfInBounds_toArray, List.set_cons_zero, List.set_cons_succ]
      refine wpAnyT_one (i := 14) (o := ⟨some 122, .call { callee := .value (.func 19), args := #[(.tmp 121)], argTypes := #[35] }, _, _, _, _⟩) (by kernel_rfl) rfl (fun Kq hK => ?_)
      go_simp
      refine hK.out _ _ ⟨HAl.out _ HW.out, fun _ => trivial⟩ ?_
      clear hK Kq
      try simp only [Act.put, List.setIfInBounds_toArray, List.set_cons_zero, List.set_cons_succ]
      refine wpAnyT_one (i := 16) (o := ⟨some 124, .call { callee := .value (.func 30), args := #[(.tmp 122), (.tmp 123)], argTypes := #[33, 33] }, _, _, _, _⟩) (by kernel_rfl) rfl (fun Kq hK => ?_)
      go_simp
      refine hK.out _ _ ⟨HAl.out _ HW.out, fun _ => trivial⟩ ?_
      clear hK Kq
      try simp only [Act.put, List.setIfInBounds_toArray, List.set_cons_zero, List.set_cons_succ]
      refine wpAnyT_takeB (i := 17) (oi := ⟨some 125, .binOp .geq 3 (.tmp 124) (.const (.int .i64 0)) 3, _, _, _, _⟩) (v := undef) rfl (by kernel_rfl) (by kernel_rfl) (by kernel_rfl) (by kernel_rfl) (fun _ _ _ h => h) (Or.inr ⟨by rfl, rfl⟩) (by assumption) ?restq37
      try simp only [Act.put, List.setIfInBounds_toArray, List.set_cons_zero, List.set_cons_succ]
      refine wpAnyT_takeB (i := 18) (oi := ⟨some 126, .pick (.tmp 120) (.tmp 125) (.const (.bool false)), _, _, _, _⟩) (v := ?vq38) rfl (by kernel_rfl) (by kernel_rfl) (by kernel_rfl) (by kernel_rfl) (fun _ _ _ h => h) (Or.inl ⟨by rfl, ?hyq38⟩) (by assumption) ?restq38
      case hyq38 => (intro w hSw; (try dsimp only at hSw); go_simp; try (with_reducible rfl))
      try simp only [Act.put, List.setIfInBounds_toArray, List.set_cons_zero, List.set_cons_succ]
      refine wpAnyT_takeB (i := 19) (oi := ⟨some 127, .move (.tmp 126), _, _, _, _⟩) (v := ?vq39) rfl (by kernel_rfl) (by kernel_rfl) (by kernel_rfl) (by kernel_rfl) (fun _ _ _ h => h) (Or.inl ⟨by rfl, ?hyq39⟩) (by assumption) ?restq39
      case hyq39 => (intro w hSw; (try dsimp only at hSw); go_simp; try (with_reducible rfl))
      try simp only [Act.put, List.setIfInBounds_toArray, List.set_cons_zero, List.set_cons_succ]
      refine wpAnyT_takeB (i := 20) (oi := ⟨some 128, .load 35 (.tmp 9), _, _, _, _⟩) (v := undef) rfl (by kernel_rfl) (by kernel_rfl) (by kernel_rfl) (by kernel_rfl) (fun _ _ _ h => h) (Or.inr ⟨by rfl, rfl⟩) (by assumption) ?restq40
      try simp only [Act.put, List.setIfInBounds_toArray, List.set_cons_zero, List.set_cons_succ]
      refine wpAnyT_takeB (i := 21) (oi := ⟨some 129, .load 35 (.tmp 11), _, _, _, _⟩) (v := undef) rfl (by kernel_rfl) (by kernel_rfl) (by kernel_rfl) (by kernel_rfl) (fun _ _ _ h => h) (Or.inr ⟨by rfl, rfl⟩) (by assumption) ?restq41
      try simp only [Act.put, List.setIfInBounds_toArray, List.set_cons_zero, List.set_cons_succ]
      refine wpAnyT_takeB (i := 23) (oi := ⟨some 131, .load 35 (.tmp 13), _, _, _, _⟩) (v := undef) rfl (by kernel_rfl) (by kernel_rfl) (by kernel_rfl) (by kernel_rfl) (fun _ _ _ h => h) (Or.inr ⟨by rfl, rfl⟩) (by assumption) ?restq42
      try simp only [Act.put, List.setIfInBounds_toArray, List.set_cons_zero, List.set_cons_succ]
      refine wpAnyT_takeB (i := 25) (oi := ⟨some 133, .load 35 (.tmp 9), _, _, _, _⟩) (v := undef) rfl (by kernel_rfl) (by kernel_rfl) (by kernel_rfl) (by kernel_rfl) (fun _ _ _ h => h) (Or.inr ⟨by rfl, rfl⟩) (by assumption) ?restq43
      try simp only [Act.put, List.setIfInBounds_toArray, List.set_cons_zero, List.set_cons_succ]
      refine wpAnyT_takeB (i := 26) (oi := ⟨some 134, .load 35 (.tmp 11), _, _, _, _⟩) (v := undef) rfl (by kernel_rfl) (by kernel_rfl) (by kernel_rfl) (by kernel_rfl) (fun _ _ _ h => h) (Or.inr ⟨by rfl, rfl⟩) (by assumption) ?restq44
      try simp only [Act.put, List.setIfInBounds_toArray, List.set_cons_zero, List.set_cons_succ]
      refine wpAnyT_takeB (i := 27) (oi := ⟨some 135, .load 35 (.tmp 13), _, _, _, _⟩) (v := undef) rfl (by kernel_rfl) (by kernel_rfl) (by kernel_rfl) (by kernel_rfl) (fun _ _ _ h => h) (Or.inr ⟨by rfl, rfl⟩) (by assumption) ?restq45
      try simp only [Act.put, List.setIfInBounds_toArray, List.set_cons_zero, List.set_cons_succ]
      refine wpAnyT_one (i := 22) (o := ⟨some 130, .call { callee := .value (.func 21), args := #[(.tmp 128), (.tmp 129)], argTypes := #[35, 35] }, _, _, _, _⟩) (by kernel_rfl) rfl (fun Kq hK => ?_)
      go_simp
      refine hK.out _ _ ⟨HAl.out _ HW.out, fun _ => trivial⟩ ?_
      clear hK Kq
      try simp only [Act.put, List.setIfInBounds_toArray, List.set_cons_zero, List.set_cons_succ]
      refine wpAnyT_one (i := 24) (o := ⟨some 132, .call { callee := .value (.func 21), args := #[(.tmp 130), (.tmp 131)], argTypes := #[35, 35] }, _, _, _, _⟩) (by kernel_rfl) rfl (fun Kq hK => ?_)
      go_simp
      refine hK.out _ _ ⟨HAl.out _ HW.out, fun _ => trivial⟩ ?_
      clear hK Kq
      try simp only [Act.put, List.setIfInBounds_toArray, List.set_cons_zero, List.set_cons_succ]
      refine wpAnyT_one (i := 28) (o := ⟨some 136, .call { callee := .value (.func 21), args := #[(.tmp 134), (.tmp 135)], argTypes := #[35, 35] }, _, _, _, _⟩) (by kernel_rfl) rfl (fun Kq hK => ?_)
      go_simp
      refine hK.out _ _ ⟨HAl.out _ HW.out, fun _ => trivial⟩ ?_
      clear hK Kq
      try simp only [Act.put, List.setIfInBounds_toArray, List.set_cons_zero, List.set_cons_succ]
      refine wpAnyT_one (i := 29) (o := ⟨some 137, .call { callee := .value (.func 21), args := #[(.tmp 133), (.tmp 136)], argTypes := #[35, 35] }, _, _, _, _⟩) (by kernel_rfl) rfl (fun Kq hK => ?_)
      go_simp
      refine hK.out _ _ ⟨HAl.out _ HW.out, fun _ => trivial⟩ ?_
      clear hK Kq
      try simp only [Act.put, List.setIfInBounds_toArray, List.set_cons_zero, List.set_cons_succ]
      refine wpAnyT_one (i := 30) (o := ⟨some 138, .call { callee := .value (.func 12), args := #[(.tmp 132), (.tmp 137)], argTypes := #[35, 35] }, _, _, _, _⟩) (by kernel_rfl) rfl (fun Kq hK => ?_)
      go_simp
      refine hK.out _ _ ⟨HAl.out _ HW.out, fun _ => trivial⟩ ?_
      clear hK Kq
      try simp only [Act.put, List.setIfInBounds_toArray, List.set_cons_zero, List.set_cons_succ]
      refine wpAnyT_takeB (i := 31) (oi := ⟨some 139, .unOp .not 4 (.tmp 138), _, _, _, _⟩) (v := undef) rfl (by kernel_rfl) (by kernel_rfl) (by kernel_rfl) (by kernel_rfl) (fun _ _ _ h => h) (Or.inr ⟨by rfl, rfl⟩) (by assumption) ?restq46
      try simp only [Act.put, List.setIfInBounds_toArray, List.set_cons_zero, List.set_cons_succ]
      refine wpAnyT_takeB (i := 32) (oi := ⟨some 140, .pick (.tmp 127) (.tmp 139) (.const (.bool false)), _, _, _, _⟩) (v := ?vq47) rfl (by kernel_rfl) (by kernel_rfl) (by kernel_rfl) (by kernel_rfl) (fun _ _ _ h => h) (Or.inl ⟨by rfl, ?hyq47⟩) (by assumption) ?restq47
      case hyq47 => (intro w hSw; (try dsimp only at hSw); go_simp; try (with_reducible rfl))
      try simp only [Act.put, List.setIfInBounds_toArray, List.set_cons_zero, List.set_cons_succ]
      refine wpAnyT_done (by kernel_rfl) ?_ _
      go_wp2_with fail
      go_meet
      case rel => exact ⟨rfl, HVb.out _ HW.out⟩
    by_cases hz : 0 ≤ uz
    case neg =>
      refine wpAnyT_takeB (i := 0) (oi := ⟨some 108, .load 35 (.tmp 9), _, _, _, _⟩) (v := ?vq48) rfl (by kernel_rfl) (by kernel_rfl) (by kernel_rfl) (by kernel_rfl) (fun _ _ _ h => h) (Or.inl ⟨by rfl, ?hyq48⟩) (by assumption) ?restq48
      case hyq48 => (intro w hSw; (try dsimp only at hSw); go_simp; try (with_reducible rfl))
      try simp only [Act.put, List.setIfInBounds_toArray, List.set_cons_zero, List.set_cons_succ]
      refine wpAnyT_takeB (i := 2) (oi := ⟨some 110, .load 33 (.tmp 17), _, _, _, _⟩) (v := ?vq49) rfl (by kernel_rfl) (by kernel_rfl) (by kernel_rfl) (by kernel_rfl) (fun _ _ _ h => h) (Or.inl ⟨by rfl, ?hyq49⟩) (by assumption) ?restq49
      case hyq49 => (intro w hSw; (try dsimp only at hSw); go_simp; try (with_reducible rfl))
      try simp only [Act.put, List.setIfInBounds_toArray, List.set_cons_zero, List.set_cons_succ]
      refine wpAnyT_one (i := 1) (o := ⟨some 109, .call { callee := .value (.func 19), args := #[(.tmp 108)], argTypes := #[35] }, _, _, _, _⟩) (by kernel_rfl) rfl (fun Kq hK => ?_)
      go_simp
      refine calls_at (HDx.out U (HVb.out _ HW.out)) (by with_reducible rfl) (by with_reducible rfl) ?_
      rintro e h133 ⟨rd, rfl, hp, hb⟩
      have Hrd : Hid (BigAt h133 rd x) := hp
      have HW : Hid (RowKit.Below wc.heap.size wc h133) := HW.out.trans (hb.mono HW.out.size)
      clear hp hb
      go_wp2_with fail
      refine hK.out _ _ ⟨HAl.out _ HW.out, fun _ => trivial⟩ ?_
      have hHeld := (⟨HAl.out _ HW.out, trivial⟩ : _ ∧ True)
      clear hK Kq
      try simp only [Act.put, List.setIfInBounds_toArray, List.set_cons_zero, List.set_cons_succ]
      refine wpAnyT_one (i := 3) (o := ⟨some 111, .call { callee := .value (.func 30), args := #[(.tmp 109), (.tmp 110)], argTypes := #[33, 33] }, _, _, _, _⟩) (by kernel_rfl) rfl (fun Kq hK => ?_)
      go_simp
      refine calls_at (HCx.out h133 _ HW.out Hrd.out) (by with_reducible rfl) (by with_reducible rfl) ?_
      rintro e h134 ⟨rfl, hb⟩
      have HW : Hid (RowKit.Below wc.heap.size wc h134) := HW.out.trans (hb.mono HW.out.size)
      clear hb
      go_wp2_with fail
      refine hK.out _ _ ⟨HAl.out _ HW.out, fun _ => trivial⟩ ?_
      have hHeld := (⟨HAl.out _ HW.out, trivial⟩ : _ ∧ True)
      clear hK Kq
      try simp only [Act.put, List.setIfInBounds_toArray, List.set_cons_zero, List.set_cons_succ]
      refine wpAnyT_takeB (i := 4) (oi := ⟨some 112, .binOp .geq 3 (.tmp 111) (.const (.int .i64 0)) 3, _, _, _, _⟩) (v := .bool true) rfl (by kernel_rfl) (by kernel_rfl) (by kernel_rfl) (by kernel_rfl) (fun _ _ _ h => h) (Or.inl ⟨by rfl, ?hyq50⟩) (by assumption) ?restq50
      case hyq50 => (intro w hSw; go_simp; try simp [hx]; try (with_reducible rfl))
      try simp only [Act.put, List.setIfInBounds_toArray, List.set_cons_zero, List.set_cons_succ]
      refine wpAnyT_takeB (i := 5) (oi := ⟨some 113, .move (.tmp 112), _, _, _, _⟩) (v := ?vq51) rfl (by kernel_rfl) (by kernel_rfl) (by kernel_rfl) (by kernel_rfl) (fun _ _ _ h => h) (Or.inl ⟨by rfl, ?hyq51⟩) (by assumption) ?restq51
      case hyq51 => (intro w hSw; (try dsimp only at hSw); go_simp; try (with_reducible rfl))
      try simp only [Act.put, List.setIfInBounds_toArray, List.set_cons_zero, List.set_cons_succ]
      refine wpAnyT_takeB (i := 6) (oi := ⟨some 114, .load 35 (.tmp 11), _, _, _, _⟩) (v := ?vq52) rfl (by kernel_rfl) (by kernel_rfl) (by kernel_rfl) (by kernel_rfl) (fun _ _ _ h => h) (Or.inl ⟨by rfl, ?hyq52⟩) (by assumption) ?restq52
      case hyq52 => (intro w hSw; (try dsimp only at hSw); go_simp; try (with_reducible rfl))
      try simp only [Act.put, List.setIfInBounds_toArray, List.set_cons_zero, List.set_cons_succ]
      refine wpAnyT_takeB (i := 8) (oi := ⟨some 116, .load 33 (.tmp 17), _, _, _, _⟩) (v := ?vq53) rfl (by kernel_rfl) (by kernel_rfl) (by kernel_rfl) (by kernel_rfl) (fun _ _ _ h => h) (Or.inl ⟨by rfl, ?hyq53⟩) (by assumption) ?restq53
      case hyq53 => (intro w hSw; (try dsimp only at hSw); go_simp; try (with_reducible rfl))
      try simp only [Act.put, List.setIfInBounds_toArray, List.set_cons_zero, List.set_cons_succ]
      refine wpAnyT_one (i := 7) (o := ⟨some 115, .call { callee := .value (.func 19), args := #[(.tmp 114)], argTypes := #[35] }, _, _, _, _⟩) (by kernel_rfl) rfl (fun Kq hK => ?_)
      go_simp
      refine calls_at (HDy.out h134 (HVb.out _ HW.out)) (by with_reducible rfl) (by with_reducible rfl) ?_
      rintro e h135 ⟨rd, rfl, hp, hb⟩
      have Hrd : Hid (BigAt h135 rd y) := hp
      have HW : Hid (RowKit.Below wc.heap.size wc h135) := HW.out.trans (hb.mono HW.out.size)
      clear hp hb
      go_wp2_with fail
      refine hK.out _ _ ⟨HAl.out _ HW.out, fun _ => trivial⟩ ?_
      have hHeld := (⟨HAl.out _ HW.out, trivial⟩ : _ ∧ True)
      clear hK Kq
      try simp only [Act.put, List.setIfInBounds_toArray, List.set_cons_zero, List.set_cons_succ]
      refine wpAnyT_one (i := 9) (o := ⟨some 117, .call { callee := .value (.func 30), args := #[(.tmp 115), (.tmp 116)], argTypes := #[33, 33] }, _, _, _, _⟩) (by kernel_rfl) rfl (fun Kq hK => ?_)
      go_simp
      refine calls_at (HCy.out h135 _ HW.out Hrd.out) (by with_reducible rfl) (by with_reducible rfl) ?_
      rintro e h136 ⟨rfl, hb⟩
      have HW : Hid (RowKit.Below wc.heap.size wc h136) := HW.out.trans (hb.mono HW.out.size)
      clear hb
      go_wp2_with fail
      refine hK.out _ _ ⟨HAl.out _ HW.out, fun _ => trivial⟩ ?_
      have hHeld := (⟨HAl.out _ HW.out, trivial⟩ : _ ∧ True)
      clear hK Kq
      try simp only [Act.put, List.setIfInBounds_toArray, List.set_cons_zero, List.set_cons_succ]
      refine wpAnyT_takeB (i := 10) (oi := ⟨some 118, .binOp .geq 3 (.tmp 117) (.const (.int .i64 0)) 3, _, _, _, _⟩) (v := .bool true) rfl (by kernel_rfl) (by kernel_rfl) (by kernel_rfl) (by kernel_rfl) (fun _ _ _ h => h) (Or.inl ⟨by rfl, ?hyq54⟩) (by assumption) ?restq54
      case hyq54 => (intro w hSw; go_simp; try simp [hy]; try (with_reducible rfl))
      try simp only [Act.put, List.setIfInBounds_toArray, List.set_cons_zero, List.set_cons_succ]
      refine wpAnyT_takeB (i := 11) (oi := ⟨some 119, .pick (.tmp 113) (.tmp 118) (.const (.bool false)), _, _, _, _⟩) (v := ?vq55) rfl (by kernel_rfl) (by kernel_rfl) (by kernel_rfl) (by kernel_rfl) (fun _ _ _ h => h) (Or.inl ⟨by rfl, ?hyq55⟩) (by assumption) ?restq55
      case hyq55 => (intro w hSw; (try dsimp only at hSw); go_simp; try (with_reducible rfl))
      try simp only [Act.put, List.setIfInBounds_toArray, List.set_cons_zero, List.set_cons_succ]
      refine wpAnyT_takeB (i := 12) (oi := ⟨some 120, .move (.tmp 119), _, _, _, _⟩) (v := ?vq56) rfl (by kernel_rfl) (by kernel_rfl) (by kernel_rfl) (by kernel_rfl) (fun _ _ _ h => h) (Or.inl ⟨by rfl, ?hyq56⟩) (by assumption) ?restq56
      case hyq56 => (intro w hSw; (try dsimp only at hSw); go_simp; try (with_reducible rfl))
      try simp only [Act.put, List.setIfInBounds_toArray, List.set_cons_zero, List.set_cons_succ]
      refine wpAnyT_takeB (i := 13) (oi := ⟨some 121, .load 35 (.tmp 13), _, _, _, _⟩) (v := ?vq57) rfl (by kernel_rfl) (by kernel_rfl) (by kernel_rfl) (by kernel_rfl) (fun _ _ _ h => h) (Or.inl ⟨by rfl, ?hyq57⟩) (by assumption) ?restq57
      case hyq57 => (intro w hSw; (try dsimp only at hSw); go_simp; try (with_reducible rfl))
      try simp only [Act.put, List.setIfInBounds_toArray, List.set_cons_zero, List.set_cons_succ]
      refine wpAnyT_takeB (i := 15) (oi := ⟨some 123, .load 33 (.tmp 17), _, _, _, _⟩) (v := ?vq58) rfl (by kernel_rfl) (by kernel_rfl) (by kernel_rfl) (by kernel_rfl) (fun _ _ _ h => h) (Or.inl ⟨by rfl, ?hyq58⟩) (by assumption) ?restq58
      case hyq58 => (intro w hSw; (try dsimp only at hSw); go_simp; try (with_reducible rfl))
      try simp only [Act.put, List.setIfInBounds_toArray, List.set_cons_zero, List.set_cons_succ]
      refine wpAnyT_one (i := 14) (o := ⟨some 122, .call { callee := .value (.func 19), args := #[(.tmp 121)], argTypes := #[35] }, _, _, _, _⟩) (by kernel_rfl) rfl (fun Kq hK => ?_)
      go_simp
      refine calls_at (HDz.out h136 (HVb.out _ HW.out)) (by with_reducible rfl) (by with_reducible rfl) ?_
      rintro e h137 ⟨rd, rfl, hp, hb⟩
      have Hrd : Hid (BigAt h137 rd z) := hp
      have HW : Hid (RowKit.Below wc.heap.size wc h137) := HW.out.trans (hb.mono HW.out.size)
      clear hp hb
      go_wp2_with fail
      refine hK.out _ _ ⟨HAl.out _ HW.out, fun _ => trivial⟩ ?_
      have hHeld := (⟨HAl.out _ HW.out, trivial⟩ : _ ∧ True)
      clear hK Kq
      try simp only [Act.put, List.setIfInBounds_toArray, List.set_cons_zero, List.set_cons_succ]
      refine wpAnyT_one (i := 16) (o := ⟨some 124, .call { callee := .value (.func 30), args := #[(.tmp 122), (.tmp 123)], argTypes := #[33, 33] }, _, _, _, _⟩) (by kernel_rfl) rfl (fun Kq hK => ?_)
      go_simp
      refine calls_at (HCz.out h137 _ HW.out Hrd.out) (by with_reducible rfl) (by with_reducible rfl) ?_
      rintro e h138 ⟨rfl, hb⟩
      have HW : Hid (RowKit.Below wc.heap.size wc h138) := HW.out.trans (hb.mono HW.out.size)
      clear hb
      go_wp2_with fail
      refine hK.out _ _ ⟨HAl.out _ HW.out, fun _ => trivial⟩ ?_
      have hHeld := (⟨HAl.out _ HW.out, trivial⟩ : _ ∧ True)
      clear hK Kq
      try simp only [Act.put, List.setIfInBounds_toArray, List.set_cons_zero, List.set_cons_succ]
      refine wpAnyT_takeB (i := 17) (oi := ⟨some 125, .binOp .geq 3 (.tmp 124) (.const (.int .i64 0)) 3, _, _, _, _⟩) (v := .bool false) rfl (by kernel_rfl) (by kernel_rfl) (by kernel_rfl) (by kernel_rfl) (fun _ _ _ h => h) (Or.inl ⟨by rfl, ?hyq59⟩) (by assumption) ?restq59
      case hyq59 => (intro w hSw; go_simp; try simp [hz]; try (with_reducible rfl))
      try simp only [Act.put, List.setIfInBounds_toArray, List.set_cons_zero, List.set_cons_succ]
      refine wpAnyT_takeB (i := 18) (oi := ⟨some 126, .pick (.tmp 120) (.tmp 125) (.const (.bool false)), _, _, _, _⟩) (v := ?vq60) rfl (by kernel_rfl) (by kernel_rfl) (by kernel_rfl) (by kernel_rfl) (fun _ _ _ h => h) (Or.inl ⟨by rfl, ?hyq60⟩) (by assumption) ?restq60
      case hyq60 => (intro w hSw; (try dsimp only at hSw); go_simp; try (with_reducible rfl))
      try simp only [Act.put, List.setIfInBounds_toArray, List.set_cons_zero, List.set_cons_succ]
      refine wpAnyT_takeB (i := 19) (oi := ⟨some 127, .move (.tmp 126), _, _, _, _⟩) (v := ?vq61) rfl (by kernel_rfl) (by kernel_rfl) (by kernel_rfl) (by kernel_rfl) (fun _ _ _ h => h) (Or.inl ⟨by rfl, ?hyq61⟩) (by assumption) ?restq61
      case hyq61 => (intro w hSw; (try dsimp only at hSw); go_simp; try (with_reducible rfl))
      try simp only [Act.put, List.setIfInBounds_toArray, List.set_cons_zero, List.set_cons_succ]
      refine wpAnyT_takeB (i := 20) (oi := ⟨some 128, .load 35 (.tmp 9), _, _, _, _⟩) (v := undef) rfl (by kernel_rfl) (by kernel_rfl) (by kernel_rfl) (by kernel_rfl) (fun _ _ _ h => h) (Or.inr ⟨by rfl, rfl⟩) (by assumption) ?restq62
      try simp only [Act.put, List.setIfInBounds_toArray, List.set_cons_zero, List.set_cons_succ]
      refine wpAnyT_takeB (i := 21) (oi := ⟨some 129, .load 35 (.tmp 11), _, _, _, _⟩) (v := undef) rfl (by kernel_rfl) (by kernel_rfl) (by kernel_rfl) (by kernel_rfl) (fun _ _ _ h => h) (Or.inr ⟨by rfl, rfl⟩) (by assumption) ?restq63
      try simp only [Act.put, List.setIfInBounds_toArray, List.set_cons_zero, List.set_cons_succ]
      refine wpAnyT_takeB (i := 23) (oi := ⟨some 131, .load 35 (.tmp 13), _, _, _, _⟩) (v := undef) rfl (by kernel_rfl) (by kernel_rfl) (by kernel_rfl) (by kernel_rfl) (fun _ _ _ h => h) (Or.inr ⟨by rfl, rfl⟩) (by assumption) ?restq64
      try simp only [Act.put, List.setIfInBounds_toArray, List.set_cons_zero, List.set_cons_succ]
      refine wpAnyT_takeB (i := 25) (oi := ⟨some 133, .load 35 (.tmp 9), _, _, _, _⟩) (v := undef) rfl (by kernel_rfl) (by kernel_rfl) (by kernel_rfl) (by kernel_rfl) (fun _ _ _ h => h) (Or.inr ⟨by rfl, rfl⟩) (by assumption) ?restq65
      try simp only [Act.put, List.setIfInBounds_toArray, List.set_cons_zero, List.set_cons_succ]
      refine wpAnyT_takeB (i := 26) (oi := ⟨some 134, .load 35 (.tmp 11), _, _, _, _⟩) (v := undef) rfl (by kernel_rfl) (by kernel_rfl) (by kernel_rfl) (by kernel_rfl) (fun _ _ _ h => h) (Or.inr ⟨by rfl, rfl⟩) (by assumption) ?restq66
      try simp only [Act.put, List.setIfInBounds_toArray, List.set_cons_zero, List.set_cons_succ]
      refine wpAnyT_takeB (i := 27) (oi := ⟨some 135, .load 35 (.tmp 13), _, _, _, _⟩) (v := undef) rfl (by kernel_rfl) (by kernel_rfl) (by kernel_rfl) (by kernel_rfl) (fun _ _ _ h => h) (Or.inr ⟨by rfl, rfl⟩) (by assumption) ?restq67
      try simp only [Act.put, List.setIfInBounds_toArray, List.set_cons_zero, List.set_cons_succ]
      refine wpAnyT_one (i := 22) (o := ⟨some 130, .call { callee := .value (.func 21), args := #[(.tmp 128), (.tmp 129)], argTypes := #[35, 35] }, _, _, _, _⟩) (by kernel_rfl) rfl (fun Kq hK => ?_)
      go_simp
      refine hK.out _ _ ⟨HAl.out _ HW.out, fun _ => trivial⟩ ?_
      clear hK Kq
      try simp only [Act.put, List.setIfInBounds_toArray, List.set_cons_zero, List.set_cons_succ]
      refine wpAnyT_one (i := 24) (o := ⟨some 132, .call { callee := .value (.func 21), args := #[(.tmp 130), (.tmp 131)], argTypes := #[35, 35] }, _, _, _, _⟩) (by kernel_rfl) rfl (fun Kq hK => ?_)
      go_simp
      refine hK.out _ _ ⟨HAl.out _ HW.out, fun _ => trivial⟩ ?_
      clear hK Kq
      try simp only [Act.put, List.setIfInBounds_toArray, List.set_cons_zero, List.set_cons_succ]
      refine wpAnyT_one (i := 28) (o := ⟨some 136, .call { callee := .value (.func 21), args := #[(.tmp 134), (.tmp 135)], argTypes := #[35, 35] }, _, _, _, _⟩) (by kernel_rfl) rfl (fun Kq hK => ?_)
      go_simp
      refine hK.out _ _ ⟨HAl.out _ HW.out, fun _ => trivial⟩ ?_
      clear hK Kq
      try simp only [Act.put, List.setIfInBounds_toArray, List.set_cons_zero, List.set_cons_succ]
      refine wpAnyT_one (i := 29) (o := ⟨some 137, .call { callee := .value (.func 21), args := #[(.tmp 133), (.tmp 136)], argTypes := #[35, 35] }, _, _, _, _⟩) (by kernel_rfl) rfl (fun Kq hK => ?_)
      go_simp
      refine hK.out _ _ ⟨HAl.out _ HW.out, fun _ => trivial⟩ ?_
      clear hK Kq
      try simp only [Act.put, List.setIfInBounds_toArray, List.set_cons_zero, List.set_cons_succ]
      refine wpAnyT_one (i := 30) (o := ⟨some 138, .call { callee := .value (.func 12), args := #[(.tmp 132), (.tmp 137)], argTypes := #[35, 35] }, _, _, _, _⟩) (by kernel_rfl) rfl (fun Kq hK => ?_)
      go_simp
      refine hK.out _ _ ⟨HAl.out _ HW.out, fun _ => trivial⟩ ?_
      clear hK Kq
      try simp only [Act.put, List.setIfInBounds_toArray, List.set_cons_zero, List.set_cons_succ]
      refine wpAnyT_takeB (i := 31) (oi := ⟨some 139, .unOp .not 4 (.tmp 138), _, _, _, _⟩) (v := undef) rfl (by kernel_rfl) (by kernel_rfl) (by kernel_rfl) (by kernel_rfl) (fun _ _ _ h => h) (Or.inr ⟨by rfl, rfl⟩) (by assumption) ?restq68
      try simp only [Act.put, List.setIfInBounds_toArray, List.set_cons_zero, List.set_cons_succ]
      refine wpAnyT_takeB (i := 32) (oi := ⟨some 140, .pick (.tmp 127) (.tmp 139) (.const (.bool false)), _, _, _, _⟩) (v := ?vq69) rfl (by kernel_rfl) (by kernel_rfl) (by kernel_rfl) (by kernel_rfl) (fun _ _ _ h => h) (Or.inl ⟨by rfl, ?hyq69⟩) (by assumption) ?restq69
      case hyq69 => (intro w hSw; (try dsimp only at hSw); go_simp; try (with_reducible rfl))
      try simp only [Act.put, List.setIfInBounds_toArray, List.set_cons_zero, List.set_cons_succ]
      refine wpAnyT_done (by kernel_rfl) ?_ _
      go_wp2_with fail
      go_meet
      case rel => exact ⟨rfl, HVb.out _ HW.out⟩
    refine wpAnyT_takeB (i := 0) (oi := ⟨some 108, .load 35 (.tmp 9), _, _, _, _⟩) (v := ?vq70) rfl (by kernel_rfl) (by kernel_rfl) (by kernel_rfl) (by kernel_rfl) (fun _ _ _ h => h) (Or.inl ⟨by rfl, ?hyq70⟩) (by assumption) ?restq70
    case hyq70 => (intro w hSw; (try dsimp only at hSw); go_simp; try (with_reducible rfl))
    try simp only [Act.put, List.setIfInBounds_toArray, List.set_cons_zero, List.set_cons_succ]
    refine wpAnyT_takeB (i := 2) (oi := ⟨some 110, .load 33 (.tmp 17), _, _, _, _⟩) (v := ?vq71) rfl (by kernel_rfl) (by kernel_rfl) (by kernel_rfl) (by kernel_rfl) (fun _ _ _ h => h) (Or.inl ⟨by rfl, ?hyq71⟩) (by assumption) ?restq71
    case hyq71 => (intro w hSw; (try dsimp only at hSw); go_simp; try (with_reducible rfl))
    try simp only [Act.put, List.setIfInBounds_toArray, List.set_cons_zero, List.set_cons_succ]
    refine wpAnyT_one (i := 1) (o := ⟨some 109, .call { callee := .value (.func 19), args := #[(.tmp 108)], argTypes := #[35] }, _, _, _, _⟩) (by kernel_rfl) rfl (fun Kq hK => ?_)
    go_simp
    refine calls_at (HDx.out U (HVb.out _ HW.out)) (by with_reducible rfl) (by with_reducible rfl) ?_
    rintro e h139 ⟨rd, rfl, hp, hb⟩
    have Hrd : Hid (BigAt h139 rd x) := hp
    have HW : Hid (RowKit.Below wc.heap.size wc h139) := HW.out.trans (hb.mono HW.out.size)
    clear hp hb
    go_wp2_with fail
    refine hK.out _ _ ⟨HAl.out _ HW.out, fun _ => trivial⟩ ?_
    have hHeld := (⟨HAl.out _ HW.out, trivial⟩ : _ ∧ True)
    clear hK Kq
    try simp only [Act.put, List.setIfInBounds_toArray, List.set_cons_zero, List.set_cons_succ]
    refine wpAnyT_one (i := 3) (o := ⟨some 111, .call { callee := .value (.func 30), args := #[(.tmp 109), (.tmp 110)], argTypes := #[33, 33] }, _, _, _, _⟩) (by kernel_rfl) rfl (fun Kq hK => ?_)
    go_simp
    refine calls_at (HCx.out h139 _ HW.out Hrd.out) (by with_reducible rfl) (by with_reducible rfl) ?_
    rintro e h140 ⟨rfl, hb⟩
    have HW : Hid (RowKit.Below wc.heap.size wc h140) := HW.out.trans (hb.mono HW.out.size)
    clear hb
    go_wp2_with fail
    refine hK.out _ _ ⟨HAl.out _ HW.out, fun _ => trivial⟩ ?_
    have hHeld := (⟨HAl.out _ HW.out, trivial⟩ : _ ∧ True)
    clear hK Kq
    try simp only [Act.put, List.setIfInBounds_toArray, List.set_cons_zero, List.set_cons_succ]
    refine wpAnyT_takeB (i := 4) (oi := ⟨some 112, .binOp .geq 3 (.tmp 111) (.const (.int .i64 0)) 3, _, _, _, _⟩) (v := .bool true) rfl (by kernel_rfl) (by kernel_rfl) (by kernel_rfl) (by kernel_rfl) (fun _ _ _ h => h) (Or.inl ⟨by rfl, ?hyq72⟩) (by assumption) ?restq72
    case hyq72 => (intro w hSw; go_simp; try simp [hx]; try (with_reducible rfl))
    try simp only [Act.put, List.setIfInBounds_toArray, List.set_cons_zero, List.set_cons_succ]
    refine wpAnyT_takeB (i := 5) (oi := ⟨some 113, .move (.tmp 112), _, _, _, _⟩) (v := ?vq73) rfl (by kernel_rfl) (by kernel_rfl) (by kernel_rfl) (by kernel_rfl) (fun _ _ _ h => h) (Or.inl ⟨by rfl, ?hyq73⟩) (by assumption) ?restq73
    case hyq73 => (intro w hSw; (try dsimp only at hSw); go_simp; try (with_reducible rfl))
    try simp only [Act.put, List.setIfInBounds_toArray, List.set_cons_zero, List.set_cons_succ]
    refine wpAnyT_takeB (i := 6) (oi := ⟨some 114, .load 35 (.tmp 11), _, _, _, _⟩) (v := ?vq74) rfl (by kernel_rfl) (by kernel_rfl) (by kernel_rfl) (by kernel_rfl) (fun _ _ _ h => h) (Or.inl ⟨by rfl, ?hyq74⟩) (by assumption) ?restq74
    case hyq74 => (intro w hSw; (try dsimp only at hSw); go_simp; try (with_reducible rfl))
    try simp only [Act.put, List.setIfInBounds_toArray, List.set_cons_zero, List.set_cons_succ]
    refine wpAnyT_takeB (i := 8) (oi := ⟨some 116, .load 33 (.tmp 17), _, _, _, _⟩) (v := ?vq75) rfl (by kernel_rfl) (by kernel_rfl) (by kernel_rfl) (by kernel_rfl) (fun _ _ _ h => h) (Or.inl ⟨by rfl, ?hyq75⟩) (by assumption) ?restq75
    case hyq75 => (intro w hSw; (try dsimp only at hSw); go_simp; try (with_reducible rfl))
    try simp only [Act.put, List.setIfInBounds_toArray, List.set_cons_zero, List.set_cons_succ]
    refine wpAnyT_one (i := 7) (o := ⟨some 115, .call { callee := .value (.func 19), args := #[(.tmp 114)], argTypes := #[35] }, _, _, _, _⟩) (by kernel_rfl) rfl (fun Kq hK => ?_)
    go_simp
    refine calls_at (HDy.out h140 (HVb.out _ HW.out)) (by with_reducible rfl) (by with_reducible rfl) ?_
    rintro e h141 ⟨rd, rfl, hp, hb⟩
    have Hrd : Hid (BigAt h141 rd y) := hp
    have HW : Hid (RowKit.Below wc.heap.size wc h141) := HW.out.trans (hb.mono HW.out.size)
    clear hp hb
    go_wp2_with fail
    refine hK.out _ _ ⟨HAl.out _ HW.out, fun _ => trivial⟩ ?_
    have hHeld := (⟨HAl.out _ HW.out, trivial⟩ : _ ∧ True)
    clear hK Kq
    try simp only [Act.put, List.setIfInBounds_toArray, List.set_cons_zero, List.set_cons_succ]
    refine wpAnyT_one (i := 9) (o := ⟨some 117, .call { callee := .value (.func 30), args := #[(.tmp 115), (.tmp 116)], argTypes := #[33, 33] }, _, _, _, _⟩) (by kernel_rfl) rfl (fun Kq hK => ?_)
    go_simp
    refine calls_at (HCy.out h141 _ HW.out Hrd.out) (by with_reducible rfl) (by with_reducible rfl) ?_
    rintro e h142 ⟨rfl, hb⟩
    have HW : Hid (RowKit.Below wc.heap.size wc h142) := HW.out.trans (hb.mono HW.out.size)
    clear hb
    go_wp2_with fail
    refine hK.out _ _ ⟨HAl.out _ HW.out, fun _ => trivial⟩ ?_
    have hHeld := (⟨HAl.out _ HW.out, trivial⟩ : _ ∧ True)
    clear hK Kq
    try simp only [Act.put, List.setIfInBounds_toArray, List.set_cons_zero, List.set_cons_succ]
    refine wpAnyT_takeB (i := 10) (oi := ⟨some 118, .binOp .geq 3 (.tmp 117) (.const (.int .i64 0)) 3, _, _, _, _⟩) (v := .bool true) rfl (by kernel_rfl) (by kernel_rfl) (by kernel_rfl) (by kernel_rfl) (fun _ _ _ h => h) (Or.inl ⟨by rfl, ?hyq76⟩) (by assumption) ?restq76
    case hyq76 => (intro w hSw; go_simp; try simp [hy]; try (with_reducible rfl))
    try simp only [Act.put, List.setIfInBounds_toArray, List.set_cons_zero, List.set_cons_succ]
    refine wpAnyT_takeB (i := 11) (oi := ⟨some 119, .pick (.tmp 113) (.tmp 118) (.const (.bool false)), _, _, _, _⟩) (v := ?vq77) rfl (by kernel_rfl) (by kernel_rfl) (by kernel_rfl) (by kernel_rfl) (fun _ _ _ h => h) (Or.inl ⟨by rfl, ?hyq77⟩) (by assumption) ?restq77
    case hyq77 => (intro w hSw; (try dsimp only at hSw); go_simp; try (with_reducible rfl))
    try simp only [Act.put, List.setIfInBounds_toArray, List.set_cons_zero, List.set_cons_succ]
    refine wpAnyT_takeB (i := 12) (oi := ⟨some 120, .move (.tmp 119), _, _, _, _⟩) (v := ?vq78) rfl (by kernel_rfl) (by kernel_rfl) (by kernel_rfl) (by kernel_rfl) (fun _ _ _ h => h) (Or.inl ⟨by rfl, ?hyq78⟩) (by assumption) ?restq78
    case hyq78 => (intro w hSw; (try dsimp only at hSw); go_simp; try (with_reducible rfl))
    try simp only [Act.put, List.setIfInBounds_toArray, List.set_cons_zero, List.set_cons_succ]
    refine wpAnyT_takeB (i := 13) (oi := ⟨some 121, .load 35 (.tmp 13), _, _, _, _⟩) (v := ?vq79) rfl (by kernel_rfl) (by kernel_rfl) (by kernel_rfl) (by kernel_rfl) (fun _ _ _ h => h) (Or.inl ⟨by rfl, ?hyq79⟩) (by assumption) ?restq79
    case hyq79 => (intro w hSw; (try dsimp only at hSw); go_simp; try (with_reducible rfl))
    try simp only [Act.put, List.setIfInBounds_toArray, List.set_cons_zero, List.set_cons_succ]
    refine wpAnyT_takeB (i := 15) (oi := ⟨some 123, .load 33 (.tmp 17), _, _, _, _⟩) (v := ?vq80) rfl (by kernel_rfl) (by kernel_rfl) (by kernel_rfl) (by kernel_rfl) (fun _ _ _ h => h) (Or.inl ⟨by rfl, ?hyq80⟩) (by assumption) ?restq80
    case hyq80 => (intro w hSw; (try dsimp only at hSw); go_simp; try (with_reducible rfl))
    try simp only [Act.put, List.setIfInBounds_toArray, List.set_cons_zero, List.set_cons_succ]
    refine wpAnyT_one (i := 14) (o := ⟨some 122, .call { callee := .value (.func 19), args := #[(.tmp 121)], argTypes := #[35] }, _, _, _, _⟩) (by kernel_rfl) rfl (fun Kq hK => ?_)
    go_simp
    refine calls_at (HDz.out h142 (HVb.out _ HW.out)) (by with_reducible rfl) (by with_reducible rfl) ?_
    rintro e h143 ⟨rd, rfl, hp, hb⟩
    have Hrd : Hid (BigAt h143 rd z) := hp
    have HW : Hid (RowKit.Below wc.heap.size wc h143) := HW.out.trans (hb.mono HW.out.size)
    clear hp hb
    go_wp2_with fail
    refine hK.out _ _ ⟨HAl.out _ HW.out, fun _ => trivial⟩ ?_
    have hHeld := (⟨HAl.out _ HW.out, trivial⟩ : _ ∧ True)
    clear hK Kq
    try simp only [Act.put, List.setIfInBounds_toArray, List.set_cons_zero, List.set_cons_succ]
    refine wpAnyT_one (i := 16) (o := ⟨some 124, .call { callee := .value (.func 30), args := #[(.tmp 122), (.tmp 123)], argTypes := #[33, 33] }, _, _, _, _⟩) (by kernel_rfl) rfl (fun Kq hK => ?_)
    go_simp
    refine calls_at (HCz.out h143 _ HW.out Hrd.out) (by with_reducible rfl) (by with_reducible rfl) ?_
    rintro e h144 ⟨rfl, hb⟩
    have HW : Hid (RowKit.Below wc.heap.size wc h144) := HW.out.trans (hb.mono HW.out.size)
    clear hb
    go_wp2_with fail
    refine hK.out _ _ ⟨HAl.out _ HW.out, fun _ => trivial⟩ ?_
    have hHeld := (⟨HAl.out _ HW.out, trivial⟩ : _ ∧ True)
    clear hK Kq
    try simp only [Act.put, List.setIfInBounds_toArray, List.set_cons_zero, List.set_cons_succ]
    refine wpAnyT_takeB (i := 17) (oi := ⟨some 125, .binOp .geq 3 (.tmp 124) (.const (.int .i64 0)) 3, _, _, _, _⟩) (v := .bool true) rfl (by kernel_rfl) (by kernel_rfl) (by kernel_rfl) (by kernel_rfl) (fun _ _ _ h => h) (Or.inl ⟨by rfl, ?hyq81⟩) (by assumption) ?restq81
    case hyq81 => (intro w hSw; go_simp; try simp [hz]; try (with_reducible rfl))
    try simp only [Act.put, List.setIfInBounds_toArray, List.set_cons_zero, List.set_cons_succ]
    refine wpAnyT_takeB (i := 18) (oi := ⟨some 126, .pick (.tmp 120) (.tmp 125) (.const (.bool false)), _, _, _, _⟩) (v := ?vq82) rfl (by kernel_rfl) (by kernel_rfl) (by kernel_rfl) (by kernel_rfl) (fun _ _ _ h => h) (Or.inl ⟨by rfl, ?hyq82⟩) (by assumption) ?restq82
    case hyq82 => (intro w hSw; (try dsimp only at hSw); go_simp; try (with_reducible rfl))
    try simp only [Act.put, List.setIfInBounds_toArray, List.set_cons_zero, List.set_cons_succ]
    refine wpAnyT_takeB (i := 19) (oi := ⟨some 127, .move (.tmp 126), _, _, _, _⟩) (v := ?vq83) rfl (by kernel_rfl) (by kernel_rfl) (by kernel_rfl) (by kernel_rfl) (fun _ _ _ h => h) (Or.inl ⟨by rfl, ?hyq83⟩) (by assumption) ?restq83
    case hyq83 => (intro w hSw; (try dsimp only at hSw); go_simp; try (with_reducible rfl))
    try simp only [Act.put, List.setIfInBounds_toArray, List.set_cons_zero, List.set_cons_succ]
    refine wpAnyT_takeB (i := 20) (oi := ⟨some 128, .load 35 (.tmp 9), _, _, _, _⟩) (v := ?vq84) rfl (by kernel_rfl) (by kernel_rfl) (by kernel_rfl) (by kernel_rfl) (fun _ _ _ h => h) (Or.inl ⟨by rfl, ?hyq84⟩) (by assumption) ?restq84
    case hyq84 => (intro w hSw; (try dsimp only at hSw); go_simp; try (with_reducible rfl))
    try simp only [Act.put, List.setIfInBounds_toArray, List.set_cons_zero, List.set_cons_succ]
    refine wpAnyT_takeB (i := 21) (oi := ⟨some 129, .load 35 (.tmp 11), _, _, _, _⟩) (v := ?vq85) rfl (by kernel_rfl) (by kernel_rfl) (by kernel_rfl) (by kernel_rfl) (fun _ _ _ h => h) (Or.inl ⟨by rfl, ?hyq85⟩) (by assumption) ?restq85
    case hyq85 => (intro w hSw; (try dsimp only at hSw); go_simp; try (with_reducible rfl))
    try simp only [Act.put, List.setIfInBounds_toArray, List.set_cons_zero, List.set_cons_succ]
    refine wpAnyT_takeB (i := 23) (oi := ⟨some 131, .load 35 (.tmp 13), _, _, _, _⟩) (v := ?vq86) rfl (by kernel_rfl) (by kernel_rfl) (by kernel_rfl) (by kernel_rfl) (fun _ _ _ h => h) (Or.inl ⟨by rfl, ?hyq86⟩) (by assumption) ?restq86
    case hyq86 => (intro w hSw; (try dsimp only at hSw); go_simp; try (with_reducible rfl))
    try simp only [Act.put, List.setIfInBounds_toArray, List.set_cons_zero, List.set_cons_succ]
    refine wpAnyT_takeB (i := 25) (oi := ⟨some 133, .load 35 (.tmp 9), _, _, _, _⟩) (v := ?vq87) rfl (by kernel_rfl) (by kernel_rfl) (by kernel_rfl) (by kernel_rfl) (fun _ _ _ h => h) (Or.inl ⟨by rfl, ?hyq87⟩) (by assumption) ?restq87
    case hyq87 => (intro w hSw; (try dsimp only at hSw); go_simp; try (with_reducible rfl))
    try simp only [Act.put, List.setIfInBounds_toArray, List.set_cons_zero, List.set_cons_succ]
    refine wpAnyT_takeB (i := 26) (oi := ⟨some 134, .load 35 (.tmp 11), _, _, _, _⟩) (v := ?vq88) rfl (by kernel_rfl) (by kernel_rfl) (by kernel_rfl) (by kernel_rfl) (fun _ _ _ h => h) (Or.inl ⟨by rfl, ?hyq88⟩) (by assumption) ?restq88
    case hyq88 => (intro w hSw; (try dsimp only at hSw); go_simp; try (with_reducible rfl))
    try simp only [Act.put, List.setIfInBounds_toArray, List.set_cons_zero, List.set_cons_succ]
    refine wpAnyT_takeB (i := 27) (oi := ⟨some 135, .load 35 (.tmp 13), _, _, _, _⟩) (v := ?vq89) rfl (by kernel_rfl) (by kernel_rfl) (by kernel_rfl) (by kernel_rfl) (fun _ _ _ h => h) (Or.inl ⟨by rfl, ?hyq89⟩) (by assumption) ?restq89
    case hyq89 => (intro w hSw; (try dsimp only at hSw); go_simp; try (with_reducible rfl))
    try simp only [Act.put, List.setIfInBounds_toArray, List.set_cons_zero, List.set_cons_succ]
    refine wpAnyT_one (i := 22) (o := ⟨some 130, .call { callee := .value (.func 21), args := #[(.tmp 128), (.tmp 129)], argTypes := #[35, 35] }, _, _, _, _⟩) (by kernel_rfl) rfl (fun Kq hK => ?_)
    go_simp
    refine calls_at (HXY.out h144 (HVb.out _ HW.out)) (by with_reducible rfl) (by with_reducible rfl) ?_
    rintro e h145 ⟨rp, Kp, Dp, rfl, hf, hp, hg, hb⟩
    have Hp : Hid (Pm.IsForm _ _ Kp Dp ∧ PbAt h145 rp Kp Dp ∧ Gd _ _ Kp Dp) := ⟨hf, hp, hg⟩
    have HW : Hid (RowKit.Below wc.heap.size wc h145) := HW.out.trans (hb.mono HW.out.size)
    clear hf hp hg hb
    go_wp2_with fail
    refine hK.out _ _ ⟨HAl.out _ HW.out, fun _ => trivial⟩ ?_
    have hHeld := (⟨HAl.out _ HW.out, trivial⟩ : _ ∧ True)
    clear hK Kq
    try simp only [Act.put, List.setIfInBounds_toArray, List.set_cons_zero, List.set_cons_succ]
    refine wpAnyT_one (i := 24) (o := ⟨some 132, .call { callee := .value (.func 21), args := #[(.tmp 130), (.tmp 131)], argTypes := #[35, 35] }, _, _, _, _⟩) (by kernel_rfl) rfl (fun Kq hK => ?_)
    go_simp
    refine calls_at (HPZ.out h145 _ _ _ (HVb.out _ HW.out) Hp.out.2.1 Hp.out.2.2) (by with_reducible rfl) (by with_reducible rfl) ?_
    rintro e h146 ⟨rpz, Kpz, Dpz, rfl, hf, hp, hg, hb⟩
    have Hpz : Hid (Pm.IsForm _ _ Kpz Dpz ∧ PbAt h146 rpz Kpz Dpz ∧ Gd _ _ Kpz Dpz) := ⟨hf, hp, hg⟩
    have Hp : Hid (Pm.IsForm _ _ Kp Dp ∧ PbAt h146 rp Kp Dp ∧ Gd _ _ Kp Dp) := ⟨Hp.out.1, Hp.out.2.1.below hb, Hp.out.2.2⟩
    have HW : Hid (RowKit.Below wc.heap.size wc h146) := HW.out.trans (hb.mono HW.out.size)
    clear hf hp hg hb
    go_wp2_with fail
    refine hK.out _ _ ⟨HAl.out _ HW.out, fun _ => trivial⟩ ?_
    have hHeld := (⟨HAl.out _ HW.out, trivial⟩ : _ ∧ True)
    clear hK Kq
    try simp only [Act.put, List.setIfInBounds_toArray, List.set_cons_zero, List.set_cons_succ]
    refine wpAnyT_one (i := 28) (o := ⟨some 136, .call { callee := .value (.func 21), args := #[(.tmp 134), (.tmp 135)], argTypes := #[35, 35] }, _, _, _, _⟩) (by kernel_rfl) rfl (fun Kq hK => ?_)
    go_simp
    refine calls_at (HYZ.out h146 (HVb.out _ HW.out)) (by with_reducible rfl) (by with_reducible rfl) ?_
    rintro e h147 ⟨ryz, Kyz, Dyz, rfl, hf, hp, hg, hb⟩
    have Hyz : Hid (Pm.IsForm _ _ Kyz Dyz ∧ PbAt h147 ryz Kyz Dyz ∧ Gd _ _ Kyz Dyz) := ⟨hf, hp, hg⟩
    have Hp : Hid (Pm.IsForm _ _ Kp Dp ∧ PbAt h147 rp Kp Dp ∧ Gd _ _ Kp Dp) := ⟨Hp.out.1, Hp.out.2.1.below hb, Hp.out.2.2⟩
    have Hpz : Hid (Pm.IsForm _ _ Kpz Dpz ∧ PbAt h147 rpz Kpz Dpz ∧ Gd _ _ Kpz Dpz) := ⟨Hpz.out.1, Hpz.out.2.1.below hb, Hpz.out.2.2⟩
    have HW : Hid (RowKit.Below wc.heap.size wc h147) := HW.out.trans (hb.mono HW.out.size)
    clear hf hp hg hb
    go_wp2_with fail
    refine hK.out _ _ ⟨HAl.out _ HW.out, fun _ => trivial⟩ ?_
    have hHeld := (⟨HAl.out _ HW.out, trivial⟩ : _ ∧ True)
    clear hK Kq
    try simp only [Act.put, List.setIfInBounds_toArray, List.set_cons_zero, List.set_cons_succ]
    refine wpAnyT_one (i := 29) (o := ⟨some 137, .call { callee := .value (.func 21), args := #[(.tmp 133), (.tmp 136)], argTypes := #[35, 35] }, _, _, _, _⟩) (by kernel_rfl) rfl (fun Kq hK => ?_)
    go_simp
    refine calls_at (HXQ.out h147 _ _ _ (HVb.out _ HW.out) Hyz.out.2.1 Hyz.out.2.2) (by with_reducible rfl) (by with_reducible rfl) ?_
    rintro e h148 ⟨rxq, Kxq, Dxq, rfl, hf, hp, hg, hb⟩
    have Hxq : Hid (Pm.IsForm _ _ Kxq Dxq ∧ PbAt h148 rxq Kxq Dxq ∧ Gd _ _ Kxq Dxq) := ⟨hf, hp, hg⟩
    have Hp : Hid (Pm.IsForm _ _ Kp Dp ∧ PbAt h148 rp Kp Dp ∧ Gd _ _ Kp Dp) := ⟨Hp.out.1, Hp.out.2.1.below hb, Hp.out.2.2⟩
    have Hpz : Hid (Pm.IsForm _ _ Kpz Dpz ∧ PbAt h148 rpz Kpz Dpz ∧ Gd _ _ Kpz Dpz) := ⟨Hpz.out.1, Hpz.out.2.1.below hb, Hpz.out.2.2⟩
    have Hyz : Hid (Pm.IsForm _ _ Kyz Dyz ∧ PbAt h148 ryz Kyz Dyz ∧ Gd _ _ Kyz Dyz) := ⟨Hyz.out.1, Hyz.out.2.1.below hb, Hyz.out.2.2⟩
    have HW : Hid (RowKit.Below wc.heap.size wc h148) := HW.out.trans (hb.mono HW.out.size)
    clear hf hp hg hb
    go_wp2_with fail
    refine hK.out _ _ ⟨HAl.out _ HW.out, fun _ => trivial⟩ ?_
    have hHeld := (⟨HAl.out _ HW.out, trivial⟩ : _ ∧ True)
    clear hK Kq
    try simp only [Act.put, List.setIfInBounds_toArray, List.set_cons_zero, List.set_cons_succ]
    refine wpAnyT_one (i := 30) (o := ⟨some 138, .call { callee := .value (.func 12), args := #[(.tmp 132), (.tmp 137)], argTypes := #[35, 35] }, _, _, _, _⟩) (by kernel_rfl) rfl (fun Kq hK => ?_)
    go_simp
    refine calls_at (HSm.out h148 _ _ _ _ _ _ (HVb.out _ HW.out) Hpz.out.2.1 Hxq.out.2.1 (sum_assoc Gx.out Gy.out Gz.out (Hcx.out hx) (Hcz.out hz) Hp.out.1 Hpz.out.1 Hyz.out.1 Hxq.out.1) (Hpz.out.2.2.mono (by decide) (by decide))) (by with_reducible rfl) (by with_reducible rfl) ?_
    rintro e h149 ⟨rfl, hb⟩
    have HW : Hid (RowKit.Below wc.heap.size wc h149) := HW.out.trans (hb.mono HW.out.size)
    clear hb
    go_wp2_with fail
    refine hK.out _ _ ⟨HAl.out _ HW.out, fun _ => trivial⟩ ?_
    have hHeld := (⟨HAl.out _ HW.out, trivial⟩ : _ ∧ True)
    clear hK Kq
    try simp only [Act.put, List.setIfInBounds_toArray, List.set_cons_zero, List.set_cons_succ]
    refine wpAnyT_takeB (i := 31) (oi := ⟨some 139, .unOp .not 4 (.tmp 138), _, _, _, _⟩) (v := ?vq90) rfl (by kernel_rfl) (by kernel_rfl) (by kernel_rfl) (by kernel_rfl) (fun _ _ _ h => h) (Or.inl ⟨by rfl, ?hyq90⟩) (by assumption) ?restq90
    case hyq90 => (intro w hSw; (try dsimp only at hSw); go_simp; try (with_reducible rfl))
    try simp only [Act.put, List.setIfInBounds_toArray, List.set_cons_zero, List.set_cons_succ]
    refine wpAnyT_takeB (i := 32) (oi := ⟨some 140, .pick (.tmp 127) (.tmp 139) (.const (.bool false)), _, _, _, _⟩) (v := ?vq91) rfl (by kernel_rfl) (by kernel_rfl) (by kernel_rfl) (by kernel_rfl) (fun _ _ _ h => h) (Or.inl ⟨by rfl, ?hyq91⟩) (by assumption) ?restq91
    case hyq91 => (intro w hSw; (try dsimp only at hSw); go_simp; try (with_reducible rfl))
    try simp only [Act.put, List.setIfInBounds_toArray, List.set_cons_zero, List.set_cons_succ]
    refine wpAnyT_done (by kernel_rfl) ?_ _
    go_wp2_with fail
    go_meet
    case rel => exact ⟨rfl, HVb.out _ HW.out⟩
  case rest =>
  obtain ⟨rfl, hW⟩ := hcut
  clear HAl HDx HDy HDz HCx HCy HCz HRm HVb hRoom HSm HYZ Hcx Hcy Hcz
  rename World => wd
  have HW : Hid (RowKit.Below V8.heap.size V8 wd) := hW
  clear hW
  obtain ⟨x0, x1, x2⟩ := (HX.out.below HW.out).cells
  obtain ⟨p0, p1, _, _⟩ := box_facts ((HW.out.block _ (Array.getElem?_eq_some_iff.1 HO8.out).1).trans HO8.out)
  go_wp2_with fail
  refine (times_any _ X x _ k wd (HX.out.pb.below HW.out) (HB.out.below HW.out) (Nat.le_trans Gx.out.len (by decide)) (Gx.out.mem (by decide)) (Nat.le_trans Gx.out.dg (by decide)) (Nat.le_trans Hkl.out (by decide))).mono ?_
  rintro e we ⟨r, K', D', c, rfl, hp, hb, hpos, hneg⟩
  obtain ⟨am, cm, nm, qm, rfl, hi1, hi2⟩ := id hp
  clear hi1 hi2
  obtain ⟨Nm, hNm⟩ : ∃ N, K'.length = N := ⟨_, rfl⟩
  rw [hNm] at hp ⊢
  have HNm : Hid (K'.length = Nm) := hNm
  obtain ⟨Vm, hVm⟩ : ∃ V, we.alloc (.cells #[.slice am Nm cm, .int .i64 nm, .pointer qm] 35) = V := ⟨_, rfl⟩
  obtain ⟨hOm, hbm⟩ := new_obj we _ hVm
  have HW : Hid (RowKit.Below V8.heap.size V8 Vm) := (HW.out.trans (hb.mono HW.out.size)).trans (hbm.mono (Nat.le_trans HW.out.size hb.size))
  have HM : Hid (PbAt Vm (.agg #[.slice am Nm cm, .int .i64 nm, .pointer qm]) K' D') := hp.below hbm
  clear x0 x1 x2 p0 p1 hp hb hbm hNm
  have Hpos : Hid (0 < k → c = 0 ∧ K' = Pm.chg (fun z => k * z) X ∧ D' = k * x) := hpos
  have Hneg : Hid (k < 1 → c = 22 ∧ K' = [] ∧ D' = 0) := hneg
  have HOm : Hid (Vm.heap[we.heap.size]? = some (.cells #[.slice am Nm cm, .int .i64 nm, .pointer qm] 35)) := hOm
  clear hpos hneg hOm
  obtain ⟨m0, m1, m2, _, _, _⟩ := box3_facts HOm.out
  obtain ⟨p0, p1, _, _⟩ := box_facts ((HW.out.block _ (Array.getElem?_eq_some_iff.1 HO8.out).1).trans HO8.out)
  by_cases hk : 0 < k
  case neg =>
    obtain ⟨rfl, _, _⟩ := Hneg.out (by omega)
    have hs := sign_big k _ Vm (HB.out.below HW.out)
    obtain ⟨sg, hsg⟩ : ∃ s, k.sign = s := ⟨_, rfl⟩
    rw [hsg] at hs
    have hs1 : sg < 1 := by
      rw [← hsg]
      rcases Int.lt_or_eq_of_le (Int.not_lt.1 hk) with h | h
      · rw [Int.sign_eq_neg_one_of_neg h]; decide
      · rw [h]; decide
    have HS : Hid (Calls Tryz.prog 15 #[.agg #[.int .i64 nk, .pointer qk]] Vm fun e w' => e = .returned (.int .i64 sg) ∧ RowKit.Below Vm.heap.size Vm w') := hs
    clear hs hsg
    go_wp2_with (first | (go_at_call 11; refine calls_at (HNu.out 22 _) (by with_reducible rfl) (by with_reducible rfl) ?_; rintro e w9 ⟨rfl, hww⟩; rw [hww]) | (go_at_call 15; refine calls_at HS.out (by with_reducible rfl) (by with_reducible rfl) ?_; rintro e w9 ⟨rfl, hb9⟩))
    go_ret
    exact ⟨rfl, HC.out.rest.trans ((HW.out.trans (hb9.mono HW.out.size)).mono HC.out.rest.size)⟩
  obtain ⟨rfl, rfl, rfl⟩ := Hpos.out hk
  have HTm : Hid ((∀ p ∈ Pm.chg (fun z => k * z) X, (limbs p.1.natAbs).length ≤ 300 + 3002) ∧ (limbs (k * x).natAbs).length ≤ 300 + 3002 ∧ (Pm.chg (fun z => k * z) X).length = X.length) := times_mem Gx.out Hkl.out
  have Hk : Hid (0 < k) := hk
  have HDv : Hid (Calls Tryz.prog 24 #[.agg #[.slice am Nm cm, .int .i64 nm, .pointer qm], .agg #[.int .i64 nk, .pointer qk]] Vm (RuleOut Vm (Pm.chg (fun z => k * z) X) (k * x) (fun z => divUpI z k) k)) := div_any _ _ _ _ k Vm HM.out (HB.out.below HW.out) (by rw [HTm.out.2.2]; exact Nat.le_trans Gx.out.len (by decide)) (fun p hp => Nat.le_trans (HTm.out.1 p hp) (by decide)) (Nat.le_trans HTm.out.2.1 (by decide))
  clear hk Hneg Hpos
  go_wp2_with (first | (go_at_call 11; refine calls_at (HNu.out 0 _) (by with_reducible rfl) (by with_reducible rfl) ?_; rintro e w9 ⟨rfl, hww⟩; rw [hww]))
  refine HDv.out.mono ?_
  rintro e wf ⟨r, K', D', c, rfl, hp, hb, hpos, _⟩
  obtain ⟨rfl, rfl, rfl⟩ := hpos Hk.out
  rw [times_div Hk.out, show (fun z => divUpI z k) (k * x) = x from divUp_mul Hk.out x] at hp
  obtain ⟨ad, cd, nd, qd, rfl, hi1, hi2⟩ := id hp
  clear hi1 hi2
  obtain ⟨Nd, hNd⟩ : ∃ N, X.length = N := ⟨_, rfl⟩
  rw [hNd] at hp ⊢
  obtain ⟨Vd, hVd⟩ : ∃ V, wf.alloc (.cells #[.slice ad Nd cd, .int .i64 nd, .pointer qd] 35) = V := ⟨_, rfl⟩
  obtain ⟨hOd, hbd⟩ := new_obj wf _ hVd
  have HW : Hid (RowKit.Below V8.heap.size V8 Vd) := (HW.out.trans (hb.mono HW.out.size)).trans (hbd.mono (Nat.le_trans HW.out.size hb.size))
  have HSd : Hid (Calls Tryz.prog 12 #[.agg #[.slice ad Nd cd, .int .i64 nd, .pointer qd], .agg #[.slice ax Nx cx, .int .i64 nx, .pointer qx]] Vd fun e w'' => e = .returned (.bool true) ∧ RowKit.Below Vd.heap.size Vd w'') := same_gd _ _ X X x x Vd (hp.below hbd) (HX.out.pb.below HW.out) ⟨rfl, rfl⟩ (Nat.le_trans Gx.out.len (by decide)) (Gx.out.mem (by decide)) (Nat.le_trans Gx.out.dg (by decide)) (HT.out.under (HC.out.rest.trans (HW.out.mono HC.out.rest.size)))
  clear hp hb hbd hNd m0 m1 m2 p0 p1 hpos hVm
  obtain ⟨m0, m1, m2, _, _, _⟩ := box3_facts hOd
  obtain ⟨x0, x1, x2⟩ := (HX.out.below HW.out).cells
  clear hOd
  go_wp2_with (first | (go_at_call 11; refine calls_at (HNu.out 0 _) (by with_reducible rfl) (by with_reducible rfl) ?_; rintro e w9 ⟨rfl, hww⟩; rw [hww]) | (go_at_call 12; refine calls_at HSd.out (by with_reducible rfl) (by with_reducible rfl) ?_; rintro e wg ⟨rfl, hbg⟩))
  go_ret
  exact ⟨rfl, HC.out.rest.trans ((HW.out.trans (hbg.mono HW.out.size)).mono HC.out.rest.size)⟩
end Go.Proofs.YtjffbndiecjkjaaGreatDoor
