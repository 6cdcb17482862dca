/-
  Put together: MdV4, MdFewM, MdV5.
-/
import Derived.Test.YthohnmplbjhjaaaGreatDoorJ07
import Derived.Test.YthohnmplbjhjaaaGreatDoorJ23
import Derived.Test.YthohnmplbjhjaaaGreatDoorMdSame1
import Derived.Deep.RegionHeld3
import Derived.Test.YthohnmplbjhjaaaGreatDoorJ24
namespace Go.Proofs.YthohnmplbjhjaaaGreatDoor
open Go.RowKit
def CnCells (w:World) (b o:Nat) (c:Md.Cn) (vt vx vb vr:Value):Prop:=w.cell? ⟨b,o,none⟩=some (.int .i64 c.kind)/\w.cell? ⟨b,o+1,none⟩=some (.int .i64 c.op)/\w.cell? ⟨b,o+2,none⟩=some vt/\w.cell? ⟨b,o+3,none⟩=some (.int .i64 c.k)/\w.cell? ⟨b,o+4,none⟩=some (.int .i64 c.v)/\w.cell? ⟨b,o+5,none⟩=some (.int .i64 c.x)/\w.cell? ⟨b,o+6,none⟩=some (.int .i64 c.y)/\w.cell? ⟨b,o+7,none⟩=some vx/\w.cell? ⟨b,o+8,none⟩=some vb/\w.cell? ⟨b,o+9,none⟩=some vr
theorem CnCells.below {w w':World} {b o:Nat} {c:Md.Cn} {vt vx vb vr:Value} (h:CnCells w b o c vt vx vb vr) (hb:Below w.heap.size w w'):CnCells w' b o c vt vx vb vr:=by
 obtain ⟨h0,h1,h2,h3,h4,h5,h6,h7,h8,h9⟩:=h
 exact ⟨zO hb h0,zO hb h1,zO hb h2,zO hb h3,zO hb h4,zO hb h5,zO hb h6,zO hb h7,zO hb h8,zO hb h9⟩
def ConsAt (w:World) (v:Value) (l:List Md.Cn):Prop:=
 ∃ a cap,v=.slice a l.length cap/\l.length<=maxLen/\(0<l.length->∃ b off,a=some ⟨b,off,none⟩/\b<w.heap.size /\
  ∀ j (h:j<l.length),∃ vt vx vb vr,CnAt w l[j] vt vx vb vr/\CnCells w b (off+j * 10) l[j] vt vx vb vr)
theorem ConsAt.below {w w':World} {v:Value} {l:List Md.Cn} (h:ConsAt w v l) (hb:Below w.heap.size w w'):ConsAt w' v l:=by
 obtain ⟨a,cap,hv,hl,hc⟩:=h
 refine ⟨a,cap,hv,hl,fun h0=>?_⟩
 obtain ⟨b,off,ha,hbs,hcell⟩:=hc h0
 refine ⟨b,off,ha,Nat.lt_of_lt_of_le hbs hb.size,fun j hj=>?_⟩
 obtain ⟨vt,vx,vb,vr,h1,h2⟩:=hcell j hj
 exact ⟨vt,vx,vb,vr,h1.below hb,h2.below hb⟩
theorem ConsAt.form {w:World} {v:Value} {l:List Md.Cn} (h:ConsAt w v l):∃ a cap,v=.slice a l.length cap/\l.length<=maxLen:=by
 obtain ⟨a,cap,hv,hl,_⟩:=h
 exact ⟨a,cap,hv,hl⟩
def xg (m:Md.Mo) (vv vc vg:Value):Value:=.agg #[vv,vc,.bool m.has,vg]
structure MoAt (w:World) (m:Md.Mo) (vv vc vg:Value):Prop where
 v:VarsAt w vv m.vars
 vcap:∀ a n cp,vv=.slice a n cp->n<=cp
 c:ConsAt w vc m.cons
 g:TermsAt w vg m.goal
theorem MoAt.below {w w':World} {m:Md.Mo} {vv vc vg:Value} (h:MoAt w m vv vc vg) (hb:Below w.heap.size w w'):MoAt w' m vv vc vg:=
 ⟨h.v.below hb,h.vcap,h.c.below hb,h.g.below hb⟩
theorem box4 {w:World} {N:Nat} {a0 a1 a2 a3:Value} {t:TypeId} (h:w.heap[N]?=some (.cells #[a0,a1,a2,a3] t (0,0))):(w.cell? ⟨N,0,none⟩=some a0/\w.cell? ⟨N,1,none⟩=some a1/\w.cell? ⟨N,2,none⟩=some a2/\w.cell? ⟨N,3,none⟩=some a3)/\∀ j,w.frozen? ⟨N,j,none⟩=false:=by
 refine ⟨⟨?_,?_,?_,?_⟩,fun j=>?_⟩ <;> simp [World.cell?,World.frozen?,h]
theorem gf_a {m:Md.Mo} (h1:m.has=false) (h2:0<m.goal.length):Md.goalFault m=48:=by simp only [Md.goalFault,h1,h2,if_true]
theorem gf_b {m:Md.Mo} (h1:m.has=false) (h2:¬ 0<m.goal.length):Md.goalFault m=0:=by simp only [Md.goalFault,h1,h2,if_true,if_false]
theorem gf_c {m:Md.Mo} (h1:m.has=true) (h2:Md.fewB m.goal.length 64=true):Md.goalFault m=47:=by simp [Md.goalFault,h1,h2]
theorem gf_d {m:Md.Mo} (h1:m.has=true) (h2:Md.fewB m.goal.length 64=false) (h3:(m.goal.all fun t=>Md.plB m.vars.length t.2)=false):Md.goalFault m=44:=by unfold Md.goalFault;rw [h1,h2,h3];rfl
theorem gf_e {m:Md.Mo} (h1:m.has=true) (h2:Md.fewB m.goal.length 64=false) (h3:(m.goal.all fun t=>Md.plB m.vars.length t.2)=true) (h4:Md.coefsB m.goal=false):Md.goalFault m=45:=by unfold Md.goalFault;rw [h1,h2,h3,h4];rfl
theorem gf_f {m:Md.Mo} (h1:m.has=true) (h2:Md.fewB m.goal.length 64=false) (h3:(m.goal.all fun t=>Md.plB m.vars.length t.2)=true) (h4:Md.coefsB m.goal=true):Md.goalFault m=0:=by unfold Md.goalFault;rw [h1,h2,h3,h4];rfl
set_option maxRecDepth 10000 in
set_option maxHeartbeats 1000000 in
theorem y1O (m:Md.Mo) (vv vc vg:Value) (w:World) (h:MoAt w m vv vc vg):Calls Tryz.prog 35 #[xg m vv vc vg] w fun e w'=>e=.returned (.int .i64 (Md.goalFault m))/\Below w.heap.size w w':=by
 obtain ⟨W,hW⟩:∃ W,w.alloc (.cells #[vv,vc,.bool m.has,vg] 26)=W:=⟨_,rfl⟩
 have hbW:Below w.heap.size w W:=by rw [<-hW];exact (Below.refl _ _).alloc (Nat.le_refl _) _
 have hN:W.heap[w.heap.size]?=some (.cells #[vv,vc,.bool m.has,vg] 26):=by rw [<-hW];exact heap_alloc_new w _
 have HB:Hid (Below w.heap.size w W):=hbW
 have HG:Hid (∀ w',Below W.heap.size W w'->TermsAt w' vg m.goal):=fun w' hb=>(h.g.below hbW).below hb
 have HN:Hid (∀ w',Below W.heap.size W w'->w'.heap[w.heap.size]?=some (.cells #[vv,vc,.bool m.has,vg] 26)):=fun w' hb=>(hb.block _ (Array.getElem?_eq_some_iff.1 hN).1).trans hN
 obtain ⟨va,vp,rfl,hvm⟩:=h.v.form
 obtain ⟨ca,cp,rfl,hcm⟩:=h.c.form
 obtain ⟨ga,gp,rfl,hgm⟩:=h.g.form
 unfold maxLen at hvm hcm hgm
 obtain ⟨⟨p0,p1,p2,p3⟩,_⟩:=box4 hN
 unfold xg
 clear h hbW hN
 cases hh:m.has
 ·rw [hh] at p2 hW HN
  by_cases hg:0<m.goal.length
  ·have hres:Hid (Md.goalFault m=48):=gf_a hh hg
   have hgI:(0:Int)<(m.goal.length:Int):=by omega
   clear hh
   go_enter Tryz.func35,Tryz.ntmps35
   go_wp2
   go_ret
   exact ⟨yA hres.out.symm,HB.out⟩
  ·have hres:Hid (Md.goalFault m=0):=gf_b hh hg
   have hgI:¬ (0:Int)<(m.goal.length:Int):=by omega
   clear hh
   go_enter Tryz.func35,Tryz.ntmps35
   go_wp2
   go_ret
   exact ⟨yA hres.out.symm,HB.out⟩
 rw [hh] at p2 hW HN
 have HH:Hid (m.has=true):=hh
 clear hh
 cases hf:Md.fewB m.goal.length 64
 rotate_left
 ·have hres:Hid (Md.goalFault m=47):=gf_c HH.out hf
  go_enter Tryz.func35,Tryz.ntmps35
  go_wp2_with (go_at_call 65;refine (xt m.goal.length 64 _).mono ?_;rintro e w' ⟨rfl,hww⟩;rw [hww];clear hww)
  go_ret
  exact ⟨yA hres.out.symm,HB.out⟩
 go_enter Tryz.func35,Tryz.ntmps35
 go_wp2_with (first | (go_at_call 65;refine (xt m.goal.length 64 _).mono ?_;rintro e w' ⟨rfl,hww⟩;rw [hww];clear hww) | fail)
 have HF:Hid (Md.fewB m.goal.length 64=false):=hf
 clear hf
 refine cZ (ZM _ m.goal (m.vars.length:Int) _ (HG.out W (Below.refl _ _))) ?_
 rintro e w1 ⟨rfl,hb1⟩
 have HB1:Hid (Below W.heap.size W w1):=hb1
 clear hb1 p0 p1 p2 p3
 obtain ⟨⟨p0,p1,p2,p3⟩,_⟩:=box4 (HN.out _ HB1.out)
 cases hp:(m.goal.all fun t=>Md.plB m.vars.length t.2)
 ·have hres:Hid (Md.goalFault m=44):=gf_d HH.out HF.out hp
  go_wp2_with fail
  go_ret
  exact ⟨yA hres.out.symm,HB.out.trans (HB1.out.mono HB.out.size)⟩
 have HP:Hid ((m.goal.all fun t=>Md.plB m.vars.length t.2)=true):=hp
 clear hp
 go_wp2_with fail
 refine cZ (zy _ m.goal _ (HG.out _ HB1.out)) ?_
 rintro e w2 ⟨rfl,hb2⟩
 have HB2:Hid (Below w.heap.size w w2):=(HB.out.trans (HB1.out.mono HB.out.size)).trans (hb2.mono (HB.out.trans (HB1.out.mono HB.out.size)).size)
 clear hb2
 cases hq:Md.coefsB m.goal
 ·have hres:Hid (Md.goalFault m=45):=gf_e HH.out HF.out HP.out hq
  go_wp2_with fail
  go_ret
  exact ⟨yA hres.out.symm,HB2.out⟩
 ·have hres:Hid (Md.goalFault m=0):=gf_f HH.out HF.out HP.out hq
  go_wp2_with fail
  go_ret
  exact ⟨yA hres.out.symm,HB2.out⟩
end Go.Proofs.YthohnmplbjhjaaaGreatDoor

namespace Go.Proofs.YthohnmplbjhjaaaGreatDoor
open Go.RowKit
set_option maxHeartbeats 4000000
set_option maxRecDepth 10000
def zo:List Md.Vr->Nat
 | []=>0
 | v :: l=>v.name.size+1+zo l
theorem y11 (a b:List Md.Vr):zo (a++b)=zo a+zo b:=by
 induction a with
 | nil=>simp [zo]
 | cons r a ih=>simp only [List.cons_append,zo,ih];omega
theorem y12 {l:List Md.Vr} {k:Nat} (h:k<l.length):zo (l.take (k+1))=zo (l.take k)+(l[k].name.size+1):=by
 rw [List.take_succ_eq_append_getElem h,y11];simp [zo]
def zp:List Md.Cn->Nat
 | []=>0
 | c :: l=>xP c+zp l
theorem y13 (a b:List Md.Cn):zp (a++b)=zp a+zp b:=by
 induction a with
 | nil=>simp [zp]
 | cons r a ih=>simp only [List.cons_append,zp,ih];omega
theorem XK {l:List Md.Cn} {k:Nat} (h:k<l.length):zp (l.take (k+1))=zp (l.take k)+xP l[k]:=by
 rw [List.take_succ_eq_append_getElem h,y13];simp [zp]
def Yo (m:Md.Mo):Nat:=zo m.vars+zp m.cons+m.goal.length
theorem y14 (P:Nat) (left:Int) (s:ByteArray) (w:World) (h:CountAt w P left) (hl:left<=20000) (hl2:-9223372036854775807<=left) (hs:s.size<=maxLen):Calls Tryz.prog 20 #[.pointer (some ⟨P,0,none⟩),.string s] w fun e w'=>e=.returned (.tuple #[])/\Took P left (s.size+1:Nat) w w':=by
 have H1:Hid (Calls Tryz.prog 22 #[.pointer (some ⟨P,0,none⟩),.int .i64 1] w fun e w'=>xO e/\Took P left 1 w w'):=xf P left 1 w h hl hl2 (by decide)
 have HS:Hid (s.size<=maxLen):=hs
 clear h hs
 go_enter Tryz.func20,Tryz.ntmps20
 go_wp2_with fail
 refine cZ H1.out ?_
 rintro e w1 ⟨⟨b1,rfl⟩,⟨⟨l1,hC1,h11,h12,hT1⟩,hG1⟩⟩
 have H2:Hid (Calls Tryz.prog 22 #[.pointer (some ⟨P,0,none⟩),.int .i64 (s.size:Int)] w1 fun e w'=>xO e/\Took P l1 s.size w1 w'):=xf P l1 s.size w1 hC1 h11 h12 HS.out
 have HT1:Hid (0<=l1->l1+1<=left):=hT1
 have HG1:Hid (w.grownBy w1 (some P)):=hG1
 clear hC1 hT1 hG1
 go_wp2_with fail
 refine cZ H2.out ?_
 rintro e w2 ⟨⟨b2,rfl⟩,⟨⟨l2,hC2,h21,h22,hT2⟩,hG2⟩⟩
 go_wp2_with fail
 go_end0
 exact ⟨rfl,⟨⟨l2,hC2,h21,h22,fun h=>by have b1:=hT2 h;have b2:=HT1.out (by omega);omega⟩,zi HG1.out hG2⟩⟩
theorem y15 (P:Nat) (left:Int) (m:Md.Mo) (vv vc vg:Value) (w:World) (h:CountAt w P left) (hl:left<=20000) (hl2:-9223372036854775807<=left) (w0:World) (h0:MoAt w0 m vv vc vg) (hb0:Below w0.heap.size w0 w) (hP0:w0.heap.size<=P) :
  Calls Tryz.prog 9 #[.pointer (some ⟨P,0,none⟩),xg m vv vc vg] w fun e w'=>e=.returned (.tuple #[])/\Took P left (Yo m) w w':=by
 obtain ⟨va,vp,rfl,hvm⟩:=h0.v.form
 obtain ⟨ca,cp,rfl,hcm⟩:=h0.c.form
 obtain ⟨ga,gp,rfl,hgm⟩:=h0.g.form
 have Hgm:Hid (m.goal.length<=maxLen):=hgm
 unfold maxLen at hvm hcm hgm
 have hP:=h.lt
 obtain ⟨W,hW⟩:∃ W,w.alloc (.cells #[.slice va m.vars.length vp,.slice ca m.cons.length cp,.bool m.has,.slice ga m.goal.length gp] 26)=W:=⟨_,rfl⟩
 have hbW:Below w.heap.size w W:=by rw [<-hW];exact (Below.refl _ _).alloc (Nat.le_refl _) _
 have hN:W.heap[w.heap.size]?=some (.cells #[.slice va m.vars.length vp,.slice ca m.cons.length cp,.bool m.has,.slice ga m.goal.length gp] 26):=by rw [<-hW];exact heap_alloc_new w _
 have hNl:w.heap.size<W.heap.size:=(Array.getElem?_eq_some_iff.1 hN).1
 have HN:Hid (∀ w',W.grownBy w' (some P)->w'.heap[w.heap.size]?=some (.cells #[.slice va m.vars.length vp,.slice ca m.cons.length cp,.bool m.has,.slice ga m.goal.length gp] 26)):=fun w' hg=>(hg.block _ hNl (fun e=>by injection e with e;omega)).trans hN
 have HG0:Hid (w.grownBy W (some P)):=Xy hbW
 have HBW:Hid (∀ w',W.grownBy w' (some P)->Below w0.heap.size w0 w'):=fun w' hg=>XJ hb0 (zi HG0.out hg) hP0
 have HM:Hid (MoAt w0 m (.slice va m.vars.length vp) (.slice ca m.cons.length cp) (.slice ga m.goal.length gp)):=h0
 have HC0:Hid (CountAt W P left):=h.below hbW
 obtain ⟨⟨p0,p1,p2,p3⟩,_⟩:=box4 hN
 unfold xg
 clear h0 hb0 hP0 h hbW hN
 go_enter Tryz.func9,Tryz.ntmps9
 go_wp2_with fail
 go_loopw [4] (fun iv wr=>∃ (k:Nat) (lf:Int),iv=.int .i64 (k:Int)/\k<=m.vars.length/\Hid (CountAt wr P lf)/\lf<=20000/\-9223372036854775807<=lf/\Hid (0<=lf->lf+(zo (m.vars.take k):Int)<=left)/\Hid (W.grownBy wr (some P))) (fun iv _=>m.vars.length-(intOf iv).toNat)
 case atStart=>exact ⟨0,left,rfl,Nat.zero_le _,HC0,hl,hl2,(fun _=>by simp [zo]),YL _ _⟩
 case round=>
  obtain ⟨k,lf,rfl,hk,hCw,h1,h2,hT,hG⟩:=hrel
  clear p0 p1 p2 p3
  obtain ⟨⟨p0,p1,p2,p3⟩,_⟩:=box4 (HN.out _ hG.out)
  rename World=>wk
  by_cases hlt:k<m.vars.length
  ·have hkI:(k:Int)<(m.vars.length:Int):=by omega
   by_cases h0:0<=lf
   ·have hd:decide (0<=lf)=true:=by simpa using h0
    obtain ⟨a',c',hve,_,hvn,hvo⟩:=HM.out.v
    injection hve with e1 e2 e3
    subst e1 e3
    obtain ⟨b,off,rfl,hb,hc⟩:=hvo (by omega)
    have d0:=((HBW.out _ hG.out).cell (p:=⟨b,off+k * 3,none⟩) hb).trans (hc k hlt).1
    have hnx:Hid (zo (m.vars.take (k+1))=zo (m.vars.take k)+(m.vars[k].name.size+1)):=y12 hlt
    have H77:Hid (Calls Tryz.prog 20 #[.pointer (some ⟨P,0,none⟩),.string m.vars[k].name] wk fun e w''=>e=.returned (.tuple #[])/\Took P lf (m.vars[k].name.size+1:Nat) wk w''):=y14 P lf m.vars[k].name wk hCw.out h1 h2 (hvn _ (List.getElem_mem hlt))
    clear hvo hc hvn
    generalize m.vars[k]=v at *
    go_wp2_with (first
     | (go_at_call 10;refine (xF P lf _ hCw.out).mono ?_;rintro e w' ⟨rfl,hww⟩;rw [hww])
     | (go_at_call 20;refine cZ H77.out ?_;rintro e w1 ⟨rfl,⟨⟨l1,hC1,h11,h12,hT1⟩,hG1⟩⟩))
    go_roundw
    case rel=>exact ⟨k+1,l1,by go_num,by omega,hC1,h11,h12,(fun h=>by have b1:=hT1 h;have b2:=hT.out (by omega);rw [hnx.out];omega),zi hG.out hG1⟩
    case measure=>simp [intOf];omega
   ·have hd:decide (0<=lf)=false:=by simpa using h0
    have HX:Hid (0<=lf->lf+(zo m.vars:Int)<=left):=fun h=>absurd h h0
    go_wp2_with (go_at_call 10;refine (xF P lf _ hCw.out).mono ?_;rintro e w' ⟨rfl,hww⟩;rw [hww])
    go_loopw [5] (fun iv wr=>∃ (k:Nat) (lf:Int),iv=.int .i64 (k:Int)/\k<=m.cons.length/\Hid (CountAt wr P lf)/\lf<=20000/\-9223372036854775807<=lf/\Hid (0<=lf->lf+(zo m.vars:Int)+(zp (m.cons.take k):Int)<=left)/\Hid (W.grownBy wr (some P))) (fun iv _=>m.cons.length-(intOf iv).toNat)
    case atStart=>exact ⟨0,lf,rfl,Nat.zero_le _,hCw,h1,h2,(fun h=>by have:=HX.out h;simp [zp];omega),hG⟩
    case round=>
     obtain ⟨i,lf2,rfl,hi,hCw2,a1,a2,hT2,hG2⟩:=hrel
     clear p0 p1 p2 p3
     obtain ⟨⟨p0,p1,p2,p3⟩,_⟩:=box4 (HN.out _ hG2.out)
     by_cases hit:i<m.cons.length
     ·have hiI:(i:Int)<(m.cons.length:Int):=by omega
      by_cases h0':0<=lf2
      ·have hd':decide (0<=lf2)=true:=by simpa using h0'
       obtain ⟨a',c',hce,_,hco⟩:=HM.out.c
       injection hce with e1 e2 e3
       subst e1 e3
       obtain ⟨b,off,rfl,hb,hc⟩:=hco (by omega)
       obtain ⟨vt,vx,vb,vr,hcn,hcl⟩:=hc i hit
       obtain ⟨ta,tc,rfl,_⟩:=hcn.t.form
       obtain ⟨xa,xc,rfl,_⟩:=hcn.x.form
       obtain ⟨ba,bc,rfl,_⟩:=hcn.b.form
       obtain ⟨ra,rc,rfl,_⟩:=hcn.r.form
       obtain ⟨d0,d1,d2,d3,d4,d5,d6,d7,d8,d9⟩:=hcl.below (HBW.out _ hG2.out)
       have hnx:Hid (zp (m.cons.take (i+1))=zp (m.cons.take i)+xP m.cons[i]):=XK hit
       have H78:Hid (Calls Tryz.prog 21 #[.pointer (some ⟨P,0,none⟩),yu m.cons[i] _ _ _ _] _ fun e w''=>e=.returned (.tuple #[])/\Took P lf2 (xP m.cons[i]) _ w''):=XA P lf2 m.cons[i] _ _ _ _ _ hCw2.out a1 a2 (fun w'' hg'=>hcn.below (HBW.out _ (zi hG2.out hg')))
       unfold yu at H78
       clear hco hc hcn
       generalize m.cons[i]=c at *
       go_wp2_with (first
        | (go_at_call 10;refine (xF P lf2 _ hCw2.out).mono ?_;rintro e w' ⟨rfl,hww⟩;rw [hww])
        | (go_at_call 21;refine cZ H78.out ?_;rintro e w1 ⟨rfl,⟨⟨l1,hC1,h11,h12,hT1⟩,hG1⟩⟩))
       go_roundw
       case rel=>exact ⟨i+1,l1,by go_num,by omega,hC1,h11,h12,(fun h=>by have b1:=hT1 h;have b2:=hT2.out (by omega);rw [hnx.out];omega),zi hG2.out hG1⟩
       case measure=>simp [intOf];omega
      ·have hd':decide (0<=lf2)=false:=by simpa using h0'
       have HX2:Hid (0<=lf2->lf2+(zo m.vars:Int)+(zp m.cons:Int)<=left):=fun h=>absurd h h0'
       have H28:Hid (Calls Tryz.prog 22 #[.pointer (some ⟨P,0,none⟩),.int .i64 (m.goal.length:Int)] _ fun e w'=>xO e/\Took P lf2 m.goal.length _ w'):=xf P lf2 m.goal.length _ hCw2.out a1 a2 Hgm.out
       go_wp2_with (first | (go_at_call 10;refine (xF P lf2 _ hCw2.out).mono ?_;rintro e w' ⟨rfl,hww⟩;rw [hww]) | (go_at_call 22;refine cZ H28.out ?_;rintro e w1 ⟨⟨b1,rfl⟩,⟨⟨l1,hC1,h11,h12,hT1⟩,hG1⟩⟩))
       go_end0
       exact ⟨rfl,⟨⟨l1,hC1,h11,h12,fun h=>by have b1:=hT1 h;have b2:=HX2.out (by omega);unfold Yo;omega⟩,zi HG0.out (zi hG2.out hG1)⟩⟩
     ·have hiI:¬ (i:Int)<(m.cons.length:Int):=by omega
      have HX2:Hid (0<=lf2->lf2+(zo m.vars:Int)+(zp m.cons:Int)<=left):=by
       have:=hT2.out
       rw [List.take_of_length_le (by omega)] at this;exact this
      have H28:Hid (Calls Tryz.prog 22 #[.pointer (some ⟨P,0,none⟩),.int .i64 (m.goal.length:Int)] _ fun e w'=>xO e/\Took P lf2 m.goal.length _ w'):=xf P lf2 m.goal.length _ hCw2.out a1 a2 Hgm.out
      go_wp2_with (go_at_call 22;refine cZ H28.out ?_;rintro e w1 ⟨⟨b1,rfl⟩,⟨⟨l1,hC1,h11,h12,hT1⟩,hG1⟩⟩)
      go_end0
      exact ⟨rfl,⟨⟨l1,hC1,h11,h12,fun h=>by have b1:=hT1 h;have b2:=HX2.out (by omega);unfold Yo;omega⟩,zi HG0.out (zi hG2.out hG1)⟩⟩
  ·have hkI:¬ (k:Int)<(m.vars.length:Int):=by omega
   have HX:Hid (0<=lf->lf+(zo m.vars:Int)<=left):=by
    have:=hT.out
    rw [List.take_of_length_le (by omega)] at this;exact this
   go_wp2_with fail
   go_loopw [5] (fun iv wr=>∃ (k:Nat) (lf:Int),iv=.int .i64 (k:Int)/\k<=m.cons.length/\Hid (CountAt wr P lf)/\lf<=20000/\-9223372036854775807<=lf/\Hid (0<=lf->lf+(zo m.vars:Int)+(zp (m.cons.take k):Int)<=left)/\Hid (W.grownBy wr (some P))) (fun iv _=>m.cons.length-(intOf iv).toNat)
   case atStart=>exact ⟨0,lf,rfl,Nat.zero_le _,hCw,h1,h2,(fun h=>by have:=HX.out h;simp [zp];omega),hG⟩
   case round=>
    obtain ⟨i,lf2,rfl,hi,hCw2,a1,a2,hT2,hG2⟩:=hrel
    clear p0 p1 p2 p3
    obtain ⟨⟨p0,p1,p2,p3⟩,_⟩:=box4 (HN.out _ hG2.out)
    by_cases hit:i<m.cons.length
    ·have hiI:(i:Int)<(m.cons.length:Int):=by omega
     by_cases h0':0<=lf2
     ·have hd':decide (0<=lf2)=true:=by simpa using h0'
      obtain ⟨a',c',hce,_,hco⟩:=HM.out.c
      injection hce with e1 e2 e3
      subst e1 e3
      obtain ⟨b,off,rfl,hb,hc⟩:=hco (by omega)
      obtain ⟨vt,vx,vb,vr,hcn,hcl⟩:=hc i hit
      obtain ⟨ta,tc,rfl,_⟩:=hcn.t.form
      obtain ⟨xa,xc,rfl,_⟩:=hcn.x.form
      obtain ⟨ba,bc,rfl,_⟩:=hcn.b.form
      obtain ⟨ra,rc,rfl,_⟩:=hcn.r.form
      obtain ⟨d0,d1,d2,d3,d4,d5,d6,d7,d8,d9⟩:=hcl.below (HBW.out _ hG2.out)
      have hnx:Hid (zp (m.cons.take (i+1))=zp (m.cons.take i)+xP m.cons[i]):=XK hit
      have H78:Hid (Calls Tryz.prog 21 #[.pointer (some ⟨P,0,none⟩),yu m.cons[i] _ _ _ _] _ fun e w''=>e=.returned (.tuple #[])/\Took P lf2 (xP m.cons[i]) _ w''):=XA P lf2 m.cons[i] _ _ _ _ _ hCw2.out a1 a2 (fun w'' hg'=>hcn.below (HBW.out _ (zi hG2.out hg')))
      unfold yu at H78
      clear hco hc hcn
      generalize m.cons[i]=c at *
      go_wp2_with (first
       | (go_at_call 10;refine (xF P lf2 _ hCw2.out).mono ?_;rintro e w' ⟨rfl,hww⟩;rw [hww])
       | (go_at_call 21;refine cZ H78.out ?_;rintro e w1 ⟨rfl,⟨⟨l1,hC1,h11,h12,hT1⟩,hG1⟩⟩))
      go_roundw
      case rel=>exact ⟨i+1,l1,by go_num,by omega,hC1,h11,h12,(fun h=>by have b1:=hT1 h;have b2:=hT2.out (by omega);rw [hnx.out];omega),zi hG2.out hG1⟩
      case measure=>simp [intOf];omega
     ·have hd':decide (0<=lf2)=false:=by simpa using h0'
      have HX2:Hid (0<=lf2->lf2+(zo m.vars:Int)+(zp m.cons:Int)<=left):=fun h=>absurd h h0'
      have H28:Hid (Calls Tryz.prog 22 #[.pointer (some ⟨P,0,none⟩),.int .i64 (m.goal.length:Int)] _ fun e w'=>xO e/\Took P lf2 m.goal.length _ w'):=xf P lf2 m.goal.length _ hCw2.out a1 a2 Hgm.out
      go_wp2_with (first | (go_at_call 10;refine (xF P lf2 _ hCw2.out).mono ?_;rintro e w' ⟨rfl,hww⟩;rw [hww]) | (go_at_call 22;refine cZ H28.out ?_;rintro e w1 ⟨⟨b1,rfl⟩,⟨⟨l1,hC1,h11,h12,hT1⟩,hG1⟩⟩))
      go_end0
      exact ⟨rfl,⟨⟨l1,hC1,h11,h12,fun h=>by have b1:=hT1 h;have b2:=HX2.out (by omega);unfold Yo;omega⟩,zi HG0.out (zi hG2.out hG1)⟩⟩
    ·have hiI:¬ (i:Int)<(m.cons.length:Int):=by omega
     have HX2:Hid (0<=lf2->lf2+(zo m.vars:Int)+(zp m.cons:Int)<=left):=by
      have:=hT2.out
      rw [List.take_of_length_le (by omega)] at this;exact this
     have H28:Hid (Calls Tryz.prog 22 #[.pointer (some ⟨P,0,none⟩),.int .i64 (m.goal.length:Int)] _ fun e w'=>xO e/\Took P lf2 m.goal.length _ w'):=xf P lf2 m.goal.length _ hCw2.out a1 a2 Hgm.out
     go_wp2_with (go_at_call 22;refine cZ H28.out ?_;rintro e w1 ⟨⟨b1,rfl⟩,⟨⟨l1,hC1,h11,h12,hT1⟩,hG1⟩⟩)
     go_end0
     exact ⟨rfl,⟨⟨l1,hC1,h11,h12,fun h=>by have b1:=hT1 h;have b2:=HX2.out (by omega);unfold Yo;omega⟩,zi HG0.out (zi hG2.out hG1)⟩⟩
end Go.Proofs.YthohnmplbjhjaaaGreatDoor

namespace Go.Proofs.YthohnmplbjhjaaaGreatDoor
open Go.RowKit
theorem Ck.next {V w1 w2:World} {P N:Nat} {v:Md.Vr} {vv:Value} (h:w1.cell? ⟨P,0,none⟩=some (.string v.name)/\w1.cell? ⟨P,1,none⟩=some (.int .i64 v.lo)/\w1.cell? ⟨P,2,none⟩=some (.int .i64 v.hi)/\w1.cell? ⟨N,0,none⟩=some vv/\Below V.heap.size V w1) (hb:Below w1.heap.size w1 w2):w2.cell? ⟨P,0,none⟩=some (.string v.name)/\w2.cell? ⟨P,1,none⟩=some (.int .i64 v.lo)/\w2.cell? ⟨P,2,none⟩=some (.int .i64 v.hi)/\w2.cell? ⟨N,0,none⟩=some vv/\Below V.heap.size V w2:=by
 obtain ⟨h0,h1,h2,h3,h4⟩:=h
 exact ⟨zO hb h0,zO hb h1,zO hb h2,zO hb h3,h4.trans (hb.mono h4.size)⟩
theorem Ck.rest {V w1:World} {P N:Nat} {v:Md.Vr} {vv:Value} (h:w1.cell? ⟨P,0,none⟩=some (.string v.name)/\w1.cell? ⟨P,1,none⟩=some (.int .i64 v.lo)/\w1.cell? ⟨P,2,none⟩=some (.int .i64 v.hi)/\w1.cell? ⟨N,0,none⟩=some vv/\Below V.heap.size V w1):Below V.heap.size V w1:=h.2.2.2.2
theorem Y7 {k1 k2:IntKind} {a b a' b':Int} (h:(a,b)=(a',b')):Ending.returned (.tuple #[.int k1 a,.int k2 b])=.returned (.tuple #[.int k1 a',.int k2 b']):=by
 injection h with h1 h2
 rw [h1,h2]
theorem Q3 {m:Md.Mo} (h:Md.fewB m.vars.length 32=true):Md.check m=(0,40):=by unfold Md.check;rw [if_pos h]
theorem ZO {m:Md.Mo} {i:Nat} (h:Md.fewB m.vars.length 32=false) (hi:i<m.vars.length) (hb:Md.vFault m.vars i≠0) (ha:∀ j,j<i->Md.vFault m.vars j=0):Md.check m=((i:Int),Md.vFault m.vars i):=by
 unfold Md.check
 rw [if_neg (by simp [h]),Md.firstBad_some hi hb ha]
theorem y1P {m:Md.Mo} (h:Md.fewB m.vars.length 32=false) (ha:∀ j,j<m.vars.length->Md.vFault m.vars j=0) (hc:64<m.cons.length):Md.check m=((m.vars.length:Int),49):=by
 unfold Md.check
 rw [if_neg (by simp [h]),Md.firstBad_none ha]
 simp only [hc,if_true]
theorem y1Q {m:Md.Mo} {i:Nat} (h:Md.fewB m.vars.length 32=false) (ha:∀ j,j<m.vars.length->Md.vFault m.vars j=0) (hc:¬ 64<m.cons.length) (hi:i<m.cons.length) (hb:Md.cFault m.cons m.vars.length i≠0) (hp:∀ j,j<i->Md.cFault m.cons m.vars.length j=0):Md.check m=((m.vars.length:Int)+(i:Int),Md.cFault m.cons m.vars.length i):=by
 unfold Md.check
 rw [if_neg (by simp [h]),Md.firstBad_none ha]
 simp only [hc,if_false,Md.firstBad_some hi hb hp]
theorem y1R {m:Md.Mo} (h:Md.fewB m.vars.length 32=false) (ha:∀ j,j<m.vars.length->Md.vFault m.vars j=0) (hc:¬ 64<m.cons.length) (hp:∀ j,j<m.cons.length->Md.cFault m.cons m.vars.length j=0) (hg:Md.goalFault m≠0):Md.check m=((m.vars.length:Int)+(m.cons.length:Int),Md.goalFault m):=by
 unfold Md.check
 rw [if_neg (by simp [h]),Md.firstBad_none ha]
 simp only [hc,if_false,Md.firstBad_none hp,if_neg hg]
theorem Q4 {m:Md.Mo} (h:Md.fewB m.vars.length 32=false) (ha:∀ j,j<m.vars.length->Md.vFault m.vars j=0) (hc:¬ 64<m.cons.length) (hp:∀ j,j<m.cons.length->Md.cFault m.cons m.vars.length j=0) (hg:Md.goalFault m=0):Md.check m=(0,0):=by
 unfold Md.check
 rw [if_neg (by simp [h]),Md.firstBad_none ha]
 simp only [hc,if_false,Md.firstBad_none hp,if_pos hg]
theorem Q5 {f:Nat->Int} {k:Nat} (h:∀ j,j<k->f j=0) (hk:f k=0):∀ j,j<k+1->f j=0:=fun j hj=>by
 rcases Nat.lt_or_eq_of_le (Nat.le_of_lt_succ hj) with h1 | rfl
 ·exact h j h1
 ·exact hk
set_option maxRecDepth 10000 in
set_option maxHeartbeats 4000000 in
theorem ZP (m:Md.Mo) (vv vc vg:Value) (w:World) (h:MoAt w m vv vc vg):Calls Tryz.prog 15 #[xg m vv vc vg] w fun e w'=>e=.returned (.tuple #[.int .i64 (Md.check m).1,.int .i64 (Md.check m).2])/\Below w.heap.size w w':=by
 obtain ⟨W,hW⟩:∃ W,w.alloc (.cells #[vv,vc,.bool m.has,vg] 26)=W:=⟨_,rfl⟩
 have hbW:Below w.heap.size w W:=by rw [<-hW];exact (Below.refl _ _).alloc (Nat.le_refl _) _
 have hN:W.heap[w.heap.size]?=some (.cells #[vv,vc,.bool m.has,vg] 26):=by rw [<-hW];exact heap_alloc_new w _
 have HB:Hid (Below w.heap.size w W):=hbW
 have HM:Hid (∀ w',Below W.heap.size W w'->MoAt w' m vv vc vg):=fun w' hb=>(h.below hbW).below hb
 have HN:Hid (∀ w',Below W.heap.size W w'->w'.heap[w.heap.size]?=some (.cells #[vv,vc,.bool m.has,vg] 26)):=fun w' hb=>(hb.block _ (Array.getElem?_eq_some_iff.1 hN).1).trans hN
 have HNL:Hid (w.heap.size<W.heap.size):=(Array.getElem?_eq_some_iff.1 hN).1
 obtain ⟨va,vp,rfl,hvm,hvn,hvo⟩:=id h.v
 obtain ⟨ca,cp,rfl,hcm,hco⟩:=id h.c
 obtain ⟨ga,gp,rfl,hgm⟩:=h.g.form
 have hvcap:m.vars.length<=vp:=h.vcap _ _ _ rfl
 unfold maxLen at hvm hcm hgm
 have HVN:Hid (∀ x∈m.vars,x.name.size<=maxLen):=hvn
 have HVO:Hid (0<m.vars.length->∃ b off,va=some ⟨b,off,none⟩/\b<w.heap.size/\∀ j (h:j<m.vars.length),w.cell? ⟨b,off+j * 3,none⟩=some (.string m.vars[j].name)/\w.cell? ⟨b,off+j * 3+1,none⟩=some (.int .i64 m.vars[j].lo)/\w.cell? ⟨b,off+j * 3+2,none⟩=some (.int .i64 m.vars[j].hi)):=hvo
 have HCO:Hid (0<m.cons.length->∃ b off,ca=some ⟨b,off,none⟩/\b<w.heap.size/\∀ j (h:j<m.cons.length),∃ vt vx vb vr,CnAt w m.cons[j] vt vx vb vr/\CnCells w b (off+j * 10) m.cons[j] vt vx vb vr):=hco
 obtain ⟨⟨p0,p1,p2,p3⟩,_⟩:=box4 hN
 unfold xg
 clear h hbW hN hvn hvo hco
 by_cases hn0:m.vars.length=0
 ·have hres:Hid (Md.check m=(0,40)):=Q3 (by simp [Md.fewB,hn0])
  have h0I:((m.vars.length:Int)==0)=true:=by simp [hn0]
  clear hn0
  go_enter Tryz.func15,Tryz.ntmps15
  go_wp2
  all_goals first
   | (go_ret2;exact ⟨Y7 hres.out.symm,HB.out⟩)
   | (exfalso;omega)
 by_cases hn1:32<m.vars.length
 ·have hres:Hid (Md.check m=(0,40)):=Q3 (by simp [Md.fewB,hn1])
  have h0I:((m.vars.length:Int)==0)=false:=by rw [beq_eq_false_iff_ne];omega
  have h1I:(32:Int)<(m.vars.length:Int):=by omega
  go_enter Tryz.func15,Tryz.ntmps15
  go_wp2
  all_goals first
   | (go_ret2;exact ⟨Y7 hres.out.symm,HB.out⟩)
   | (exfalso;omega)
 have HF:Hid (Md.fewB m.vars.length 32=false):=decide_eq_false (by omega)
 have h0I:((m.vars.length:Int)==0)=false:=by rw [beq_eq_false_iff_ne];omega
 have h1I:¬ (32:Int)<(m.vars.length:Int):=by omega
 go_enter Tryz.func15,Tryz.ntmps15
 go_wp2
 go_loopw [24] (fun iv wr=>∃ k:Nat,iv=.int .i64 (k:Int)/\k<=m.vars.length/\Hid (∀ j,j<k->Md.vFault m.vars j=0)/\Hid (Below W.heap.size W wr)) (fun iv _=>m.vars.length-(intOf iv).toNat)
 case atStart=>exact ⟨0,rfl,Nat.zero_le _,fun j h=>absurd h (Nat.not_lt_zero _),Below.refl _ _⟩
 case round=>
  obtain ⟨k,rfl,hk,hA,hR⟩:=hrel
  clear p0 p1 p2 p3
  obtain ⟨⟨p0,p1,p2,p3⟩,_⟩:=box4 (HN.out _ hR.out)
  by_cases hlt:k<m.vars.length
  ·have hkI:(k:Int)<(m.vars.length:Int):=by omega
   obtain ⟨b,off,rfl,hb,hc⟩:=HVO.out (by omega)
   obtain ⟨d0,d1,d2⟩:=hc k hlt
   have hbw:Below w.heap.size w wr:=HB.out.trans (hR.out.mono HB.out.size)
   have e0:=(hbw.cell (p:=⟨b,off+k * 3,none⟩) hb).trans d0
   have e1:=(hbw.cell (p:=⟨b,off+k * 3+1,none⟩) hb).trans d1
   have e2:=(hbw.cell (p:=⟨b,off+k * 3+2,none⟩) hb).trans d2
   have HG:Hid (Md.vFault m.vars k=Md.varFault m.vars[k] (m.vars.take k)):=Md.vFault_get hlt
   have HV:Hid ((m.vars[k]).name.size<=maxLen):=HVN.out _ (List.getElem_mem hlt)
   have hkc:k<=vp:=by omega
   have hkcI:(k:Int)<=(vp:Int):=by omega
   clear hc d0 d1 d2 hbw
   generalize hx:m.vars[k]=v at *
   clear hx
   obtain ⟨V,hV⟩:∃ V,wr.alloc (.cells #[.string v.name,.int .i64 v.lo,.int .i64 v.hi] 56)=V:=⟨_,rfl⟩
   have hbV:Below wr.heap.size wr V:=by rw [<-hV];exact (Below.refl _ _).alloc (Nat.le_refl _) _
   have hsV:V.heap.size=wr.heap.size+1:=by rw [<-hV];simp
   have q0:V.cell? ⟨wr.heap.size,0,none⟩=some (.string v.name):=by rw [<-hV];simp
   have q1:V.cell? ⟨wr.heap.size,1,none⟩=some (.int .i64 v.lo):=by rw [<-hV];simp
   have q2:V.cell? ⟨wr.heap.size,2,none⟩=some (.int .i64 v.hi):=by rw [<-hV];simp
   have q3:=zO hbV p0
   have HRV:Hid (Below W.heap.size W V):=hR.out.trans (hbV.mono hR.out.size)
   have hS0:Hid (V.cell? ⟨wr.heap.size,0,none⟩=some (.string v.name)/\V.cell? ⟨wr.heap.size,1,none⟩=some (.int .i64 v.lo)/\V.cell? ⟨wr.heap.size,2,none⟩=some (.int .i64 v.hi)/\V.cell? ⟨w.heap.size,0,none⟩=some (.slice (some ⟨b,off,none⟩) m.vars.length vp)/\Below V.heap.size V V):=⟨q0,q1,q2,q3,Below.refl _ _⟩
   have H39:Hid (∀ w',Below V.heap.size V w'->Calls Tryz.prog 33 #[.agg #[.string v.name,.int .i64 v.lo,.int .i64 v.hi],.slice (some ⟨b,off,none⟩) k vp] w' fun e w''=>e=.returned (.int .i64 (Md.varFault v (m.vars.take k)))/\Below w'.heap.size w' w''):=fun w' hb'=>
    y1N v _ (m.vars.take k) w' HV.out (VarsAt.part (HM.out _ (HRV.out.trans (hb'.mono HRV.out.size))).v k vp (Nat.le_of_lt hlt))
   obtain ⟨r,hr⟩:∃ r,Md.varFault v (m.vars.take k)=r:=⟨_,rfl⟩
   have HGR:Hid (Md.vFault m.vars k=r):=HG.out.trans hr
   rw [hr] at H39
   clear hbV hsV hr HG q0 q1 q2 q3
   by_cases hz:r=0
   ·subst hz
    go_wp2_with fail
    go_region_held3 (fun w'=>w'.cell? ⟨wr.heap.size,0,none⟩=some (.string v.name)/\w'.cell? ⟨wr.heap.size,1,none⟩=some (.int .i64 v.lo)/\w'.cell? ⟨wr.heap.size,2,none⟩=some (.int .i64 v.hi)/\w'.cell? ⟨w.heap.size,0,none⟩=some (.slice (some ⟨b,off,none⟩) m.vars.length vp)/\Below V.heap.size V w')
     (first | exact Ck.next hS0.out (Below.refl _ _).drew | exact Ck.next (by assumption) (by assumption) | assumption)
     (first | (go_at_call 33;refine cZ (H39.out _ (Ck.rest (by assumption))) ?_;rintro e w' ⟨rfl,hb⟩))
    rename_i hHeld
    have hfin:=Ck.rest hHeld
    have HFIN:Hid (Below W.heap.size W _):=HRV.out.trans (hfin.mono HRV.out.size)
    clear hHeld hfin
    go_wp2_with fail
    go_roundw
    case rel=>exact ⟨k+1,by go_num,by omega,Q5 hA.out HGR.out,HFIN⟩
    case measure=>simp [intOf];omega
   ·have hzB:(r != 0)=true:=by simpa using hz
    have hres:Hid (Md.check m=((k:Int),r)):=by show _=_;rw [<-HGR.out];exact ZO HF.out hlt (by rw [HGR.out];exact hz) hA.out
    go_wp2_with fail
    go_region_held3 (fun w'=>w'.cell? ⟨wr.heap.size,0,none⟩=some (.string v.name)/\w'.cell? ⟨wr.heap.size,1,none⟩=some (.int .i64 v.lo)/\w'.cell? ⟨wr.heap.size,2,none⟩=some (.int .i64 v.hi)/\w'.cell? ⟨w.heap.size,0,none⟩=some (.slice (some ⟨b,off,none⟩) m.vars.length vp)/\Below V.heap.size V w')
     (first | exact Ck.next hS0.out (Below.refl _ _).drew | exact Ck.next (by assumption) (by assumption) | assumption)
     (first | (go_at_call 33;refine cZ (H39.out _ (Ck.rest (by assumption))) ?_;rintro e w' ⟨rfl,hb⟩))
    rename_i hHeld
    have hfin:=Ck.rest hHeld
    have HFIN:Hid (Below W.heap.size W _):=HRV.out.trans (hfin.mono HRV.out.size)
    clear hHeld hfin
    go_wp2_with fail
    go_ret2
    exact ⟨Y7 hres.out.symm,HB.out.trans (HFIN.out.mono HB.out.size)⟩
  ·have hkI:¬ (k:Int)<(m.vars.length:Int):=by omega
   have HAll:Hid (∀ j,j<m.vars.length->Md.vFault m.vars j=0):=fun j hj=>hA.out j (by omega)
   rename World=>wk
   by_cases hc64:64<m.cons.length
   ·have hcI:(64:Int)<(m.cons.length:Int):=by omega
    have hres:Hid (Md.check m=((m.vars.length:Int),49)):=y1P HF.out HAll.out hc64
    go_wp2_with fail
    go_ret2
    exact ⟨Y7 hres.out.symm,HB.out.trans (hR.out.mono HB.out.size)⟩
   have hcI:¬ (64:Int)<(m.cons.length:Int):=by omega
   go_wp2_with fail
   go_loopw [48] (fun iv wr=>∃ k:Nat,iv=.int .i64 (k:Int)/\k<=m.cons.length/\Hid (∀ j,j<k->Md.cFault m.cons m.vars.length j=0)/\Hid (Below W.heap.size W wr)) (fun iv _=>m.cons.length-(intOf iv).toNat)
   case atStart=>exact ⟨0,rfl,Nat.zero_le _,fun j h=>absurd h (Nat.not_lt_zero _),hR⟩
   case round=>
    obtain ⟨i,rfl,hi,hP,hT⟩:=hrel
    clear p0 p1 p2 p3
    obtain ⟨⟨p0,p1,p2,p3⟩,_⟩:=box4 (HN.out _ hT.out)
    by_cases hit:i<m.cons.length
    ·have hiI:(i:Int)<(m.cons.length:Int):=by omega
     obtain ⟨b,off,rfl,hb,hc⟩:=HCO.out (by omega)
     obtain ⟨vt,vx,vb,vr,hcn,hcl⟩:=hc i hit
     have hbw:Below w.heap.size w wr:=HB.out.trans (hT.out.mono HB.out.size)
     obtain ⟨e0,e1,e2,e3,e4,e5,e6,e7,e8,e9⟩:=hcl.below hbw
     have HCN:Hid (CnAt wr m.cons[i] vt vx vb vr):=hcn.below hbw
     have HG:Hid (Md.cFault m.cons m.vars.length i=Md.fault m.cons[i] m.vars.length):=Md.cFault_get hit
     obtain ⟨ta,tc,rfl,_⟩:=hcn.t.form
     obtain ⟨xa,xc,rfl,_⟩:=hcn.x.form
     obtain ⟨ba,bc,rfl,_⟩:=hcn.b.form
     obtain ⟨ra,rc,rfl,_⟩:=hcn.r.form
     clear hc hcn hcl hbw
     generalize hx:m.cons[i]=c at *
     clear hx
     obtain ⟨V,hV⟩:∃ V,wr.alloc (.cells #[.int .i64 c.kind,.int .i64 c.op,.slice ta c.terms.length tc,.int .i64 c.k,.int .i64 c.v,.int .i64 c.x,.int .i64 c.y,.slice xa c.xs.length xc,.slice ba c.table.length bc,.slice ra c.rows.length rc] 61)=V:=⟨_,rfl⟩
     have hbV:Below wr.heap.size wr V:=by rw [<-hV];exact (Below.refl _ _).alloc (Nat.le_refl _) _
     have hNV:V.heap[wr.heap.size]?=some (.cells #[.int .i64 c.kind,.int .i64 c.op,.slice ta c.terms.length tc,.int .i64 c.k,.int .i64 c.v,.int .i64 c.x,.int .i64 c.y,.slice xa c.xs.length xc,.slice ba c.table.length bc,.slice ra c.rows.length rc] 61):=by rw [<-hV];exact heap_alloc_new wr _
     obtain ⟨⟨q0,q1,q2,q3,q4,q5,q6,q7,q8,q9⟩,_⟩:=Ym hNV
     have HTV:Hid (Below W.heap.size W V):=hT.out.trans (hbV.mono hT.out.size)
     obtain ⟨r,hr⟩:∃ r,Md.fault c m.vars.length=r:=⟨_,rfl⟩
     have HGR:Hid (Md.cFault m.cons m.vars.length i=r):=HG.out.trans hr
     have H40:Hid (Calls Tryz.prog 34 #[yu c (.slice ta c.terms.length tc) (.slice xa c.xs.length xc) (.slice ba c.table.length bc) (.slice ra c.rows.length rc),.int .i64 (m.vars.length:Int)] V fun e w'=>e=.returned (.int .i64 r)/\Below V.heap.size V w'):=by rw [<-hr];exact y0Z c _ _ _ _ (m.vars.length:Int) V (HCN.out.below hbV)
     unfold yu at H40
     clear hbV hNV hr HG HCN
     by_cases hz:r=0
     ·subst hz
      go_wp2_with (go_at_call 34;refine cZ H40.out ?_;rintro e w2 ⟨rfl,hb2⟩;have HF2:Hid (Below W.heap.size W w2):=HTV.out.trans (hb2.mono HTV.out.size);clear hb2)
      go_roundw
      case rel=>exact ⟨i+1,by go_num,by omega,Q5 hP.out HGR.out,HF2⟩
      case measure=>simp [intOf];omega
     ·have hzB:(r != 0)=true:=by simpa using hz
      have hres:Hid (Md.check m=((m.vars.length:Int)+(i:Int),r)):=by show _=_;rw [<-HGR.out];exact y1Q HF.out HAll.out hc64 hit (by rw [HGR.out];exact hz) hP.out
      go_wp2_with (go_at_call 34;refine cZ H40.out ?_;rintro e w2 ⟨rfl,hb2⟩;have HF2:Hid (Below W.heap.size W w2):=HTV.out.trans (hb2.mono HTV.out.size);clear hb2)
      go_ret2
      exact ⟨Y7 hres.out.symm,HB.out.trans (HF2.out.mono HB.out.size)⟩
    ·have hiI:¬ (i:Int)<(m.cons.length:Int):=by omega
     have HCl:Hid (∀ j,j<m.cons.length->Md.cFault m.cons m.vars.length j=0):=fun j hj=>hP.out j (by omega)
     obtain ⟨r,hr⟩:∃ r,Md.goalFault m=r:=⟨_,rfl⟩
     have HGR:Hid (Md.goalFault m=r):=hr
     have H41:Hid (Calls Tryz.prog 35 #[xg m (.slice va m.vars.length vp) (.slice ca m.cons.length cp) (.slice ga m.goal.length gp)] wr fun e w'=>e=.returned (.int .i64 r)/\Below wr.heap.size wr w'):=by rw [<-hr];exact y1O m _ _ _ wr (HM.out _ hT.out)
     unfold xg at H41
     clear hr
     by_cases hz:r=0
     ·subst hz
      have hres:Hid (Md.check m=(0,0)):=Q4 HF.out HAll.out hc64 HCl.out HGR.out
      go_wp2_with (go_at_call 35;refine cZ H41.out ?_;rintro e w2 ⟨rfl,hb2⟩;have HF2:Hid (Below W.heap.size W w2):=hT.out.trans (hb2.mono hT.out.size);clear hb2)
      go_ret2
      exact ⟨Y7 hres.out.symm,HB.out.trans (HF2.out.mono HB.out.size)⟩
     ·have hzB:(r != 0)=true:=by simpa using hz
      have hres:Hid (Md.check m=((m.vars.length:Int)+(m.cons.length:Int),r)):=by show _=_;rw [<-HGR.out];exact y1R HF.out HAll.out hc64 HCl.out (by rw [HGR.out];exact hz)
      go_wp2_with (go_at_call 35;refine cZ H41.out ?_;rintro e w2 ⟨rfl,hb2⟩;have HF2:Hid (Below W.heap.size W w2):=hT.out.trans (hb2.mono hT.out.size);clear hb2;clear p0 p1 p2 p3;obtain ⟨⟨p0,p1,p2,p3⟩,_⟩:=box4 (HN.out _ HF2.out))
      go_ret2
      exact ⟨Y7 hres.out.symm,HB.out.trans (HF2.out.mono HB.out.size)⟩
end Go.Proofs.YthohnmplbjhjaaaGreatDoor
