/-
  Put together: MdPlain, MdMany.
-/
import Derived.Test.YthohnmplbjhjaaaGreatDoorJ05
import Derived.Laws.EntriesVeiled
namespace Go.Proofs.YthohnmplbjhjaaaGreatDoor
open Go.RowKit
set_option maxRecDepth 10000
set_option maxHeartbeats 400000
def yz (a b c d e f:Int):Value:=.agg #[.int .i64 a,.int .i64 b,.int .i64 c,.int .i64 d,.int .i64 e,.int .i64 f]
def zR (a b c d:Nat):Value:=.agg #[.int .i64 (a:Int),.int .i64 (b:Int),.int .i64 (c:Int),.int .i64 (d:Int)]
theorem ZQ (c:Md.Cn) (vt vx vb vr:Value) (w:World) (h:CnAt w c vt vx vb vr):Calls Tryz.prog 51 #[yv c vt vx vb vr] w fun e w'=>e=.returned (yz c.kind c.op c.k c.v c.x c.y)/\Below w.heap.size w w':=by
 obtain ⟨ta,tc,rfl,_⟩:=id h.t
 obtain ⟨xa,xc,rfl,_⟩:=id h.x
 obtain ⟨ba,bc,rfl,_⟩:=id h.b
 obtain ⟨ra,rc,rfl,_⟩:=id h.r
 clear h
 unfold yv yz
 go_enter Tryz.func51,Tryz.ntmps51
 go_wp2
 exact bodyPost_ret (v:=yz c.kind c.op c.k c.v c.x c.y) (by simp [results,Tryz.results51,go_sem,yz]) rfl ⟨rfl,((Below.refl _ _).alloc (Nat.le_refl _) _).alloc (by simp) _⟩
theorem XX (c:Md.Cn) (vt vx vb vr:Value) (w:World) (h:CnAt w c vt vx vb vr):Calls Tryz.prog 115 #[yv c vt vx vb vr] w fun e w'=>e=.returned (zR c.terms.length c.xs.length c.table.length c.rows.length)/\Below w.heap.size w w':=by
 obtain ⟨ta,tc,rfl,_⟩:=id h.t
 obtain ⟨xa,xc,rfl,_⟩:=id h.x
 obtain ⟨ba,bc,rfl,_⟩:=id h.b
 obtain ⟨ra,rc,rfl,_⟩:=id h.r
 clear h
 unfold yv zR
 go_enter Tryz.func115,Tryz.ntmps115
 go_wp2
 exact bodyPost_ret (v:=zR c.terms.length c.xs.length c.table.length c.rows.length) (by simp [results,Tryz.results115,go_sem,zR]) rfl ⟨rfl,((Below.refl _ _).alloc (Nat.le_refl _) _).alloc (by simp) _⟩
theorem XP (c:Md.Cn) (vt vx vb vr:Value) (w:World) (h:CnAt w c vt vx vb vr):Calls Tryz.prog 148 #[yv c vt vx vb vr] w fun e w'=>e=.returned (yz c.kind 0 0 0 0 c.y)/\Below w.heap.size w w':=by
 obtain ⟨ta,tc,rfl,_⟩:=id h.t
 obtain ⟨xa,xc,rfl,_⟩:=id h.x
 obtain ⟨ba,bc,rfl,_⟩:=id h.b
 obtain ⟨ra,rc,rfl,_⟩:=id h.r
 clear h
 unfold yv yz
 go_enter Tryz.func148,Tryz.ntmps148
 go_wp2
 exact bodyPost_ret (v:=yz c.kind 0 0 0 0 c.y) (by simp [results,Tryz.results148,go_sem,yz]) rfl ⟨rfl,((Below.refl _ _).alloc (Nat.le_refl _) _).alloc (by simp) _⟩
theorem XO (c:Md.Cn) (vt vx vb vr:Value) (w:World) (h:CnAt w c vt vx vb vr):Calls Tryz.prog 149 #[yv c vt vx vb vr] w fun e w'=>e=.returned (yz c.kind 0 0 0 0 0)/\Below w.heap.size w w':=by
 obtain ⟨ta,tc,rfl,_⟩:=id h.t
 obtain ⟨xa,xc,rfl,_⟩:=id h.x
 obtain ⟨ba,bc,rfl,_⟩:=id h.b
 obtain ⟨ra,rc,rfl,_⟩:=id h.r
 clear h
 unfold yv yz
 go_enter Tryz.func149,Tryz.ntmps149
 go_wp2
 exact bodyPost_ret (v:=yz c.kind 0 0 0 0 0) (by simp [results,Tryz.results149,go_sem,yz]) rfl ⟨rfl,((Below.refl _ _).alloc (Nat.le_refl _) _).alloc (by simp) _⟩
theorem y0H (c:Md.Cn) (vt vx vb vr:Value) (w:World) (h:CnAt w c vt vx vb vr):Calls Tryz.prog 151 #[yv c vt vx vb vr] w fun e w'=>e=.returned (yz c.kind c.op c.k 0 0 0)/\Below w.heap.size w w':=by
 obtain ⟨ta,tc,rfl,_⟩:=id h.t
 obtain ⟨xa,xc,rfl,_⟩:=id h.x
 obtain ⟨ba,bc,rfl,_⟩:=id h.b
 obtain ⟨ra,rc,rfl,_⟩:=id h.r
 clear h
 unfold yv yz
 go_enter Tryz.func151,Tryz.ntmps151
 go_wp2
 exact bodyPost_ret (v:=yz c.kind c.op c.k 0 0 0) (by simp [results,Tryz.results151,go_sem,yz]) rfl ⟨rfl,((Below.refl _ _).alloc (Nat.le_refl _) _).alloc (by simp) _⟩
theorem y0K (c:Md.Cn) (vt vx vb vr:Value) (w:World) (h:CnAt w c vt vx vb vr):Calls Tryz.prog 153 #[yv c vt vx vb vr] w fun e w'=>e=.returned (yz c.kind 0 c.k 0 c.x c.y)/\Below w.heap.size w w':=by
 obtain ⟨ta,tc,rfl,_⟩:=id h.t
 obtain ⟨xa,xc,rfl,_⟩:=id h.x
 obtain ⟨ba,bc,rfl,_⟩:=id h.b
 obtain ⟨ra,rc,rfl,_⟩:=id h.r
 clear h
 unfold yv yz
 go_enter Tryz.func153,Tryz.ntmps153
 go_wp2
 exact bodyPost_ret (v:=yz c.kind 0 c.k 0 c.x c.y) (by simp [results,Tryz.results153,go_sem,yz]) rfl ⟨rfl,((Below.refl _ _).alloc (Nat.le_refl _) _).alloc (by simp) _⟩
theorem y0P (c:Md.Cn) (vt vx vb vr:Value) (w:World) (h:CnAt w c vt vx vb vr):Calls Tryz.prog 156 #[yv c vt vx vb vr] w fun e w'=>e=.returned (yz c.kind 0 0 0 c.x c.y)/\Below w.heap.size w w':=by
 obtain ⟨ta,tc,rfl,_⟩:=id h.t
 obtain ⟨xa,xc,rfl,_⟩:=id h.x
 obtain ⟨ba,bc,rfl,_⟩:=id h.b
 obtain ⟨ra,rc,rfl,_⟩:=id h.r
 clear h
 unfold yv yz
 go_enter Tryz.func156,Tryz.ntmps156
 go_wp2
 exact bodyPost_ret (v:=yz c.kind 0 0 0 c.x c.y) (by simp [results,Tryz.results156,go_sem,yz]) rfl ⟨rfl,((Below.refl _ _).alloc (Nat.le_refl _) _).alloc (by simp) _⟩
theorem y0W (c:Md.Cn) (vt vx vb vr:Value) (w:World) (h:CnAt w c vt vx vb vr):Calls Tryz.prog 160 #[yv c vt vx vb vr] w fun e w'=>e=.returned (yz c.kind 0 c.k 0 c.x 0)/\Below w.heap.size w w':=by
 obtain ⟨ta,tc,rfl,_⟩:=id h.t
 obtain ⟨xa,xc,rfl,_⟩:=id h.x
 obtain ⟨ba,bc,rfl,_⟩:=id h.b
 obtain ⟨ra,rc,rfl,_⟩:=id h.r
 clear h
 unfold yv yz
 go_enter Tryz.func160,Tryz.ntmps160
 go_wp2
 exact bodyPost_ret (v:=yz c.kind 0 c.k 0 c.x 0) (by simp [results,Tryz.results160,go_sem,yz]) rfl ⟨rfl,((Below.refl _ _).alloc (Nat.le_refl _) _).alloc (by simp) _⟩
theorem y11 (c:Md.Cn) (vt vx vb vr:Value) (w:World) (h:CnAt w c vt vx vb vr):Calls Tryz.prog 163 #[yv c vt vx vb vr] w fun e w'=>e=.returned (yz c.kind c.op c.k c.v 0 0)/\Below w.heap.size w w':=by
 obtain ⟨ta,tc,rfl,_⟩:=id h.t
 obtain ⟨xa,xc,rfl,_⟩:=id h.x
 obtain ⟨ba,bc,rfl,_⟩:=id h.b
 obtain ⟨ra,rc,rfl,_⟩:=id h.r
 clear h
 unfold yv yz
 go_enter Tryz.func163,Tryz.ntmps163
 go_wp2
 exact bodyPost_ret (v:=yz c.kind c.op c.k c.v 0 0) (by simp [results,Tryz.results163,go_sem,yz]) rfl ⟨rfl,((Below.refl _ _).alloc (Nat.le_refl _) _).alloc (by simp) _⟩
end Go.Proofs.YthohnmplbjhjaaaGreatDoor

namespace Go.Proofs.YthohnmplbjhjaaaGreatDoor
open Go.RowKit
set_option maxRecDepth 10000
set_option maxHeartbeats 2000000
theorem XT (a b c d:Value) (w:World):(Instr.index 129 (.agg #[a,b,c,d]) (.int .i64 0)).run Tryz.prog w=.ok a w:=by kernel_rfl
theorem XU (a b c d:Value) (w:World):(Instr.index 129 (.agg #[a,b,c,d]) (.int .i64 1)).run Tryz.prog w=.ok b w:=by kernel_rfl
theorem XV (a b c d:Value) (w:World):(Instr.index 129 (.agg #[a,b,c,d]) (.int .i64 2)).run Tryz.prog w=.ok c w:=by kernel_rfl
theorem XW (a b c d:Value) (w:World):(Instr.index 129 (.agg #[a,b,c,d]) (.int .i64 3)).run Tryz.prog w=.ok d w:=by kernel_rfl
def othQ (n m:Nat):Bool:=decide (0<n)&&m==0
def manQ (n m:Nat):Bool:=decide (0<m)&&Md.fewB n m
theorem Z7 {n m:Nat} (h1:0<n) (h2:m=0):othQ n m=true:=by simp [othQ,h1,h2]
theorem Z8 {n m:Nat} (h1:n=0):othQ n m=false:=by simp [othQ,h1]
theorem Z9 {n m:Nat} (h1:0<m):othQ n m=false:=by simp [othQ];omega
theorem Za {n m:Nat} (h1:0<m) (h2:Md.fewB n m=true):manQ n m=true:=by simp [manQ,h1,h2]
theorem Zb {n m:Nat} (h1:m=0):manQ n m=false:=by simp [manQ,h1]
theorem Zc {n m:Nat} (h1:Md.fewB n m=false):manQ n m=false:=by simp [manQ,h1]
theorem y0C (c:Md.Cn) (vt vx vb vr:Value) (m0 m1 m2 m3:Nat) (w:World) (h:CnAt w c vt vx vb vr):Calls Tryz.prog 59 #[yv c vt vx vb vr,zR m0 m1 m2 m3] w fun e w'=>e=.returned (.bool (othQ c.terms.length m0||othQ c.xs.length m1||othQ c.table.length m2||othQ c.rows.length m3))/\Below w.heap.size w w':=by
 obtain ⟨ta,tc,rfl,_⟩:=id h.t
 obtain ⟨xa,xc,rfl,_⟩:=id h.x
 obtain ⟨ba,bc,rfl,_⟩:=id h.b
 obtain ⟨ra,rc,rfl,_⟩:=id h.r
 unfold zR
 obtain ⟨W,hW⟩:∃ W,(w.alloc (.cells #[.int .i64 c.kind,.int .i64 c.op,.slice ta c.terms.length tc,.int .i64 c.k,.int .i64 c.v,.int .i64 c.x,.int .i64 c.y,.slice xa c.xs.length xc,.slice ba c.table.length bc,.slice ra c.rows.length rc] 61)).alloc (.cells #[.int .i64 (m0:Int),.int .i64 (m1:Int),.int .i64 (m2:Int),.int .i64 (m3:Int)] 129)=W:=⟨_,rfl⟩
 have hb0:Below w.heap.size w W:=by rw [<-hW];exact ((Below.refl _ _).alloc (Nat.le_refl _) _).alloc (by simp) _
 have HL:Hid (Calls Tryz.prog 115 #[yv c (.slice ta c.terms.length tc) (.slice xa c.xs.length xc) (.slice ba c.table.length bc) (.slice ra c.rows.length rc)] W fun e w'=>e=.returned (zR c.terms.length c.xs.length c.table.length c.rows.length)/\Below W.heap.size W w'):=XX c _ _ _ _ W (h.below hb0)
 have HB:Hid (Below w.heap.size w W):=hb0
 have HR:Hid (RowsAt W (.slice ra c.rows.length rc) c.rows):=h.r.below hb0
 have c0:W.cell? ⟨w.heap.size,0,none⟩=some (.int .i64 c.kind):=by rw [<-hW];simp
 have c1:W.cell? ⟨w.heap.size,1,none⟩=some (.int .i64 c.op):=by rw [<-hW];simp
 have c2:W.cell? ⟨w.heap.size,2,none⟩=some (.slice ta c.terms.length tc):=by rw [<-hW];simp
 have c3:W.cell? ⟨w.heap.size,3,none⟩=some (.int .i64 c.k):=by rw [<-hW];simp
 have c4:W.cell? ⟨w.heap.size,4,none⟩=some (.int .i64 c.v):=by rw [<-hW];simp
 have c5:W.cell? ⟨w.heap.size,5,none⟩=some (.int .i64 c.x):=by rw [<-hW];simp
 have c6:W.cell? ⟨w.heap.size,6,none⟩=some (.int .i64 c.y):=by rw [<-hW];simp
 have c7:W.cell? ⟨w.heap.size,7,none⟩=some (.slice xa c.xs.length xc):=by rw [<-hW];simp
 have c8:W.cell? ⟨w.heap.size,8,none⟩=some (.slice ba c.table.length bc):=by rw [<-hW];simp
 have c9:W.cell? ⟨w.heap.size,9,none⟩=some (.slice ra c.rows.length rc):=by rw [<-hW];simp
 have n0:W.cell? ⟨w.heap.size+1,0,none⟩=some (.int .i64 (m0:Int)):=by rw [<-hW];simp
 have n1:W.cell? ⟨w.heap.size+1,1,none⟩=some (.int .i64 (m1:Int)):=by rw [<-hW];simp
 have n2:W.cell? ⟨w.heap.size+1,2,none⟩=some (.int .i64 (m2:Int)):=by rw [<-hW];simp
 have n3:W.cell? ⟨w.heap.size+1,3,none⟩=some (.int .i64 (m3:Int)):=by rw [<-hW];simp
 have hsz:W.heap.size=w.heap.size+1+1:=by rw [<-hW];simp
 have hsN:w.heap.size<W.heap.size:=by omega
 have hsI:w.heap.size+1<W.heap.size:=by omega
 unfold yv zR at *
 clear h hb0 hsz
 go_enter Tryz.func59,Tryz.ntmps59
 go_wp2_with fail
 refine cZ HL.out ?_
 rintro e w1 ⟨rfl,hb1⟩
 have HB1:Hid (Below W.heap.size W w1):=hb1
 have d0:=(hb1.cell (p:=⟨w.heap.size+1,0,none⟩) hsI).trans n0
 have d1:=(hb1.cell (p:=⟨w.heap.size+1,1,none⟩) hsI).trans n1
 have d2:=(hb1.cell (p:=⟨w.heap.size+1,2,none⟩) hsI).trans n2
 have d3:=(hb1.cell (p:=⟨w.heap.size+1,3,none⟩) hsI).trans n3
 have e7:=(hb1.cell (p:=⟨w.heap.size,7,none⟩) hsN).trans c7
 have e9:=(hb1.cell (p:=⟨w.heap.size,9,none⟩) hsN).trans c9
 clear hW c0 c1 c2 c3 c4 c5 c6 c7 c8 c9 n0 n1 n2 n3 hb1
 have hi0:=XT
 have hi1:=XU
 have hi2:=XV
 have hi3:=XW
 go_wp2_with fail
 go_loop [9] (fun iv=>∃ i:Int,iv=.int .i64 i/\(i=0∨i=1/\Hid (othQ c.terms.length m0=false)∨i=2/\Hid (othQ c.terms.length m0=false/\othQ c.xs.length m1=false)∨i=3/\Hid (othQ c.terms.length m0=false/\othQ c.xs.length m1=false/\othQ c.table.length m2=false)∨i=4/\Hid (othQ c.terms.length m0=false/\othQ c.xs.length m1=false/\othQ c.table.length m2=false/\othQ c.rows.length m3=false))) (fun iv=>(4-intOf iv).toNat)
 case atStart=>exact ⟨0,rfl,.inl rfl⟩
 case round=>
  obtain ⟨i,rfl,hi⟩:=hrel
  rcases hi with rfl | ⟨rfl,hq⟩ | ⟨rfl,hq⟩ | ⟨rfl,hq⟩ | ⟨rfl,hq⟩
  ·by_cases h1:0<c.terms.length
   ·have h1I:(0:Int)<(c.terms.length:Int):=by omega
    by_cases h2:m0=0
    ·subst h2
     go_wp2
     go_ret
     exact ⟨yN (by rw [Z7 h1 rfl];simp),(HB.out.trans (HB1.out.mono HB.out.size))⟩
    ·have h2I:((m0:Int)==0)=false:=by simp;omega
     have hn:Hid (othQ c.terms.length m0=false):=Z9 (by omega)
     go_wp2
     go_round
     case rel=>exact ⟨_,rfl,.inr (.inl ⟨rfl,hn.out⟩)⟩
     case measure=>simp [intOf]
   ·have h1I:¬ (0:Int)<(c.terms.length:Int):=by omega
    have hn:Hid (othQ c.terms.length m0=false):=Z8 (by omega)
    go_wp2
    go_round
    case rel=>exact ⟨_,rfl,.inr (.inl ⟨rfl,hn.out⟩)⟩
    case measure=>simp [intOf]
  ·by_cases h1:0<c.xs.length
   ·have h1I:(0:Int)<(c.xs.length:Int):=by omega
    by_cases h2:m1=0
    ·subst h2
     go_wp2
     go_ret
     exact ⟨yN (by rw [Z7 h1 rfl];simp),(HB.out.trans (HB1.out.mono HB.out.size))⟩
    ·have h2I:((m1:Int)==0)=false:=by simp;omega
     have hn:Hid (othQ c.xs.length m1=false):=Z9 (by omega)
     go_wp2
     go_round
     case rel=>exact ⟨_,rfl,.inr (.inr (.inl ⟨rfl,⟨hq.out,hn.out⟩⟩))⟩
     case measure=>simp [intOf]
   ·have h1I:¬ (0:Int)<(c.xs.length:Int):=by omega
    have hn:Hid (othQ c.xs.length m1=false):=Z8 (by omega)
    go_wp2
    go_round
    case rel=>exact ⟨_,rfl,.inr (.inr (.inl ⟨rfl,⟨hq.out,hn.out⟩⟩))⟩
    case measure=>simp [intOf]
  ·by_cases h1:0<c.table.length
   ·have h1I:(0:Int)<(c.table.length:Int):=by omega
    by_cases h2:m2=0
    ·subst h2
     go_wp2
     go_ret
     exact ⟨yN (by rw [Z7 h1 rfl];simp),(HB.out.trans (HB1.out.mono HB.out.size))⟩
    ·have h2I:((m2:Int)==0)=false:=by simp;omega
     have hn:Hid (othQ c.table.length m2=false):=Z9 (by omega)
     go_wp2
     go_round
     case rel=>exact ⟨_,rfl,.inr (.inr (.inr (.inl ⟨rfl,⟨hq.out.1,hq.out.2,hn.out⟩⟩)))⟩
     case measure=>simp [intOf]
   ·have h1I:¬ (0:Int)<(c.table.length:Int):=by omega
    have hn:Hid (othQ c.table.length m2=false):=Z8 (by omega)
    go_wp2
    go_round
    case rel=>exact ⟨_,rfl,.inr (.inr (.inr (.inl ⟨rfl,⟨hq.out.1,hq.out.2,hn.out⟩⟩)))⟩
    case measure=>simp [intOf]
  ·by_cases h1:0<c.rows.length
   ·have h1I:(0:Int)<(c.rows.length:Int):=by omega
    by_cases h2:m3=0
    ·subst h2
     go_wp2
     go_ret
     exact ⟨yN (by rw [Z7 h1 rfl];simp),(HB.out.trans (HB1.out.mono HB.out.size))⟩
    ·have h2I:((m3:Int)==0)=false:=by simp;omega
     have hn:Hid (othQ c.rows.length m3=false):=Z9 (by omega)
     go_wp2
     go_round
     case rel=>exact ⟨_,rfl,.inr (.inr (.inr (.inr ⟨rfl,⟨hq.out.1,hq.out.2.1,hq.out.2.2,hn.out⟩⟩)))⟩
     case measure=>simp [intOf]
   ·have h1I:¬ (0:Int)<(c.rows.length:Int):=by omega
    have hn:Hid (othQ c.rows.length m3=false):=Z8 (by omega)
    go_wp2
    go_round
    case rel=>exact ⟨_,rfl,.inr (.inr (.inr (.inr ⟨rfl,⟨hq.out.1,hq.out.2.1,hq.out.2.2,hn.out⟩⟩)))⟩
    case measure=>simp [intOf]
  ·go_wp2
   go_ret
   exact ⟨yN (by rw [hq.out.1,hq.out.2.1,hq.out.2.2.1,hq.out.2.2.2];rfl),(HB.out.trans (HB1.out.mono HB.out.size))⟩
theorem y0D (c:Md.Cn) (vt vx vb vr:Value) (m0 m1 m2 m3:Nat) (w:World) (h:CnAt w c vt vx vb vr):Calls Tryz.prog 60 #[yv c vt vx vb vr,zR m0 m1 m2 m3] w fun e w'=>e=.returned (.bool (!(manQ c.terms.length m0||manQ c.xs.length m1||manQ c.table.length m2||manQ c.rows.length m3||!(c.rows.all fun r=>r.length==c.xs.length))))/\Below w.heap.size w w':=by
 obtain ⟨ta,tc,rfl,_⟩:=id h.t
 obtain ⟨xa,xc,rfl,_⟩:=id h.x
 obtain ⟨ba,bc,rfl,_⟩:=id h.b
 obtain ⟨ra,rc,rfl,_⟩:=id h.r
 unfold zR
 obtain ⟨W,hW⟩:∃ W,(w.alloc (.cells #[.int .i64 c.kind,.int .i64 c.op,.slice ta c.terms.length tc,.int .i64 c.k,.int .i64 c.v,.int .i64 c.x,.int .i64 c.y,.slice xa c.xs.length xc,.slice ba c.table.length bc,.slice ra c.rows.length rc] 61)).alloc (.cells #[.int .i64 (m0:Int),.int .i64 (m1:Int),.int .i64 (m2:Int),.int .i64 (m3:Int)] 129)=W:=⟨_,rfl⟩
 have hb0:Below w.heap.size w W:=by rw [<-hW];exact ((Below.refl _ _).alloc (Nat.le_refl _) _).alloc (by simp) _
 have HL:Hid (Calls Tryz.prog 115 #[yv c (.slice ta c.terms.length tc) (.slice xa c.xs.length xc) (.slice ba c.table.length bc) (.slice ra c.rows.length rc)] W fun e w'=>e=.returned (zR c.terms.length c.xs.length c.table.length c.rows.length)/\Below W.heap.size W w'):=XX c _ _ _ _ W (h.below hb0)
 have HB:Hid (Below w.heap.size w W):=hb0
 have HR:Hid (RowsAt W (.slice ra c.rows.length rc) c.rows):=h.r.below hb0
 have c0:W.cell? ⟨w.heap.size,0,none⟩=some (.int .i64 c.kind):=by rw [<-hW];simp
 have c1:W.cell? ⟨w.heap.size,1,none⟩=some (.int .i64 c.op):=by rw [<-hW];simp
 have c2:W.cell? ⟨w.heap.size,2,none⟩=some (.slice ta c.terms.length tc):=by rw [<-hW];simp
 have c3:W.cell? ⟨w.heap.size,3,none⟩=some (.int .i64 c.k):=by rw [<-hW];simp
 have c4:W.cell? ⟨w.heap.size,4,none⟩=some (.int .i64 c.v):=by rw [<-hW];simp
 have c5:W.cell? ⟨w.heap.size,5,none⟩=some (.int .i64 c.x):=by rw [<-hW];simp
 have c6:W.cell? ⟨w.heap.size,6,none⟩=some (.int .i64 c.y):=by rw [<-hW];simp
 have c7:W.cell? ⟨w.heap.size,7,none⟩=some (.slice xa c.xs.length xc):=by rw [<-hW];simp
 have c8:W.cell? ⟨w.heap.size,8,none⟩=some (.slice ba c.table.length bc):=by rw [<-hW];simp
 have c9:W.cell? ⟨w.heap.size,9,none⟩=some (.slice ra c.rows.length rc):=by rw [<-hW];simp
 have n0:W.cell? ⟨w.heap.size+1,0,none⟩=some (.int .i64 (m0:Int)):=by rw [<-hW];simp
 have n1:W.cell? ⟨w.heap.size+1,1,none⟩=some (.int .i64 (m1:Int)):=by rw [<-hW];simp
 have n2:W.cell? ⟨w.heap.size+1,2,none⟩=some (.int .i64 (m2:Int)):=by rw [<-hW];simp
 have n3:W.cell? ⟨w.heap.size+1,3,none⟩=some (.int .i64 (m3:Int)):=by rw [<-hW];simp
 have hsz:W.heap.size=w.heap.size+1+1:=by rw [<-hW];simp
 have hsN:w.heap.size<W.heap.size:=by omega
 have hsI:w.heap.size+1<W.heap.size:=by omega
 unfold yv zR at *
 clear h hb0 hsz
 go_enter Tryz.func60,Tryz.ntmps60
 go_wp2_with fail
 refine cZ HL.out ?_
 rintro e w1 ⟨rfl,hb1⟩
 have HB1:Hid (Below W.heap.size W w1):=hb1
 have d0:=(hb1.cell (p:=⟨w.heap.size+1,0,none⟩) hsI).trans n0
 have d1:=(hb1.cell (p:=⟨w.heap.size+1,1,none⟩) hsI).trans n1
 have d2:=(hb1.cell (p:=⟨w.heap.size+1,2,none⟩) hsI).trans n2
 have d3:=(hb1.cell (p:=⟨w.heap.size+1,3,none⟩) hsI).trans n3
 have e7:=(hb1.cell (p:=⟨w.heap.size,7,none⟩) hsN).trans c7
 have e9:=(hb1.cell (p:=⟨w.heap.size,9,none⟩) hsN).trans c9
 clear hW c0 c1 c2 c3 c4 c5 c6 c7 c8 c9 n0 n1 n2 n3 hb1
 have hi0:=XT
 have hi1:=XU
 have hi2:=XV
 have hi3:=XW
 go_wp2_with fail
 go_loop [9] (fun iv=>∃ i:Int,iv=.int .i64 i/\(i=0∨i=1/\Hid (manQ c.terms.length m0=false)∨i=2/\Hid (manQ c.terms.length m0=false/\manQ c.xs.length m1=false)∨i=3/\Hid (manQ c.terms.length m0=false/\manQ c.xs.length m1=false/\manQ c.table.length m2=false)∨i=4/\Hid (manQ c.terms.length m0=false/\manQ c.xs.length m1=false/\manQ c.table.length m2=false/\manQ c.rows.length m3=false))) (fun iv=>(4-intOf iv).toNat)
 case atStart=>exact ⟨0,rfl,.inl rfl⟩
 case round=>
  obtain ⟨i,rfl,hi⟩:=hrel
  rcases hi with rfl | ⟨rfl,hq⟩ | ⟨rfl,hq⟩ | ⟨rfl,hq⟩ | ⟨rfl,hq⟩
  ·by_cases h1:0<m0
   ·have h1I:(0:Int)<(m0:Int):=by omega
    cases h2:Md.fewB c.terms.length m0
    ·have hn:Hid (manQ c.terms.length m0=false):=Zc h2
     go_wp2_with (go_at_call 65;refine (xw c.terms.length m0 _).mono ?_;rintro e w' ⟨rfl,rfl⟩)
     go_round
     case rel=>exact ⟨_,rfl,.inr (.inl ⟨rfl,hn.out⟩)⟩
     case measure=>simp [intOf]
    ·have hn:Hid (manQ c.terms.length m0=true):=Za h1 h2
     go_wp2_with (go_at_call 65;refine (xw c.terms.length m0 _).mono ?_;rintro e w' ⟨rfl,rfl⟩)
     go_ret
     exact ⟨yN (by rw [hn.out];simp),(HB.out.trans (HB1.out.mono HB.out.size))⟩
   ·have h1I:¬ (0:Int)<(m0:Int):=by omega
    have hn:Hid (manQ c.terms.length m0=false):=Zb (by omega)
    go_wp2
    go_round
    case rel=>exact ⟨_,rfl,.inr (.inl ⟨rfl,hn.out⟩)⟩
    case measure=>simp [intOf]
  ·by_cases h1:0<m1
   ·have h1I:(0:Int)<(m1:Int):=by omega
    cases h2:Md.fewB c.xs.length m1
    ·have hn:Hid (manQ c.xs.length m1=false):=Zc h2
     go_wp2_with (go_at_call 65;refine (xw c.xs.length m1 _).mono ?_;rintro e w' ⟨rfl,rfl⟩)
     go_round
     case rel=>exact ⟨_,rfl,.inr (.inr (.inl ⟨rfl,⟨hq.out,hn.out⟩⟩))⟩
     case measure=>simp [intOf]
    ·have hn:Hid (manQ c.xs.length m1=true):=Za h1 h2
     go_wp2_with (go_at_call 65;refine (xw c.xs.length m1 _).mono ?_;rintro e w' ⟨rfl,rfl⟩)
     go_ret
     exact ⟨yN (by rw [hn.out];simp),(HB.out.trans (HB1.out.mono HB.out.size))⟩
   ·have h1I:¬ (0:Int)<(m1:Int):=by omega
    have hn:Hid (manQ c.xs.length m1=false):=Zb (by omega)
    go_wp2
    go_round
    case rel=>exact ⟨_,rfl,.inr (.inr (.inl ⟨rfl,⟨hq.out,hn.out⟩⟩))⟩
    case measure=>simp [intOf]
  ·by_cases h1:0<m2
   ·have h1I:(0:Int)<(m2:Int):=by omega
    cases h2:Md.fewB c.table.length m2
    ·have hn:Hid (manQ c.table.length m2=false):=Zc h2
     go_wp2_with (go_at_call 65;refine (xw c.table.length m2 _).mono ?_;rintro e w' ⟨rfl,rfl⟩)
     go_round
     case rel=>exact ⟨_,rfl,.inr (.inr (.inr (.inl ⟨rfl,⟨hq.out.1,hq.out.2,hn.out⟩⟩)))⟩
     case measure=>simp [intOf]
    ·have hn:Hid (manQ c.table.length m2=true):=Za h1 h2
     go_wp2_with (go_at_call 65;refine (xw c.table.length m2 _).mono ?_;rintro e w' ⟨rfl,rfl⟩)
     go_ret
     exact ⟨yN (by rw [hn.out];simp),(HB.out.trans (HB1.out.mono HB.out.size))⟩
   ·have h1I:¬ (0:Int)<(m2:Int):=by omega
    have hn:Hid (manQ c.table.length m2=false):=Zb (by omega)
    go_wp2
    go_round
    case rel=>exact ⟨_,rfl,.inr (.inr (.inr (.inl ⟨rfl,⟨hq.out.1,hq.out.2,hn.out⟩⟩)))⟩
    case measure=>simp [intOf]
  ·by_cases h1:0<m3
   ·have h1I:(0:Int)<(m3:Int):=by omega
    cases h2:Md.fewB c.rows.length m3
    ·have hn:Hid (manQ c.rows.length m3=false):=Zc h2
     go_wp2_with (go_at_call 65;refine (xw c.rows.length m3 _).mono ?_;rintro e w' ⟨rfl,rfl⟩)
     go_round
     case rel=>exact ⟨_,rfl,.inr (.inr (.inr (.inr ⟨rfl,⟨hq.out.1,hq.out.2.1,hq.out.2.2,hn.out⟩⟩)))⟩
     case measure=>simp [intOf]
    ·have hn:Hid (manQ c.rows.length m3=true):=Za h1 h2
     go_wp2_with (go_at_call 65;refine (xw c.rows.length m3 _).mono ?_;rintro e w' ⟨rfl,rfl⟩)
     go_ret
     exact ⟨yN (by rw [hn.out];simp),(HB.out.trans (HB1.out.mono HB.out.size))⟩
   ·have h1I:¬ (0:Int)<(m3:Int):=by omega
    have hn:Hid (manQ c.rows.length m3=false):=Zb (by omega)
    go_wp2
    go_round
    case rel=>exact ⟨_,rfl,.inr (.inr (.inr (.inr ⟨rfl,⟨hq.out.1,hq.out.2.1,hq.out.2.2,hn.out⟩⟩)))⟩
    case measure=>simp [intOf]
  ·go_wp2_with (go_at_call 64;refine (y0t _ c.rows xa c.xs.length xc _ _ (HR.out.below HB1.out) e7).mono ?_;rintro e w' ⟨rfl,rfl⟩)
   go_ret
   exact ⟨yN (by rw [hq.out.1,hq.out.2.1,hq.out.2.2.1,hq.out.2.2.2];simp),(HB.out.trans (HB1.out.mono HB.out.size))⟩
end Go.Proofs.YthohnmplbjhjaaaGreatDoor
