/-
  Put together: TyCons, TyMo.
-/
import Derived.Test.YthohnmplbjhjaaaGreatDoorTyCon
namespace Go.Proofs.YthohnmplbjhjaaaGreatDoor
open Go Go.RowKit
theorem y5E {c d:Md.Cn} (h:c.kind=d.kind/\c.op=d.op/\c.k=d.k/\c.v=d.v/\c.x=d.x/\c.y=d.y) (h1:c.terms=d.terms) (h2:c.xs=d.xs) (h3:c.table=d.table) (h4:c.rows=d.rows):c=d:=by
 obtain ⟨k,o,t,n,v,x,y,xs,tb,r⟩:=c
 obtain ⟨k',o',t',n',v',x',y',xs',tb',r'⟩:=d
 simp only at h h1 h2 h3 h4
 obtain ⟨rfl,rfl,rfl,rfl,rfl,rfl⟩:=h
 subst h1 h2 h3 h4
 rfl
theorem y5F (c d:Md.Cn) (vt vx vb vr vt' vx' vb' vr':Value) (w:World) (h:CnAt w c vt vx vb vr) (h':CnAt w d vt' vx' vb' vr'):Calls Tryz.prog 31 #[yv c vt vx vb vr,yv d vt' vx' vb' vr'] w (SmO (c=d) w):=by
 have HA:=fun w' (hb:Below w.heap.size w w')=>ZQ c vt vx vb vr w' (h.below hb)
 have HB:=fun w' (hb:Below w.heap.size w w')=>ZQ d vt' vx' vb' vr' w' (h'.below hb)
 have Ht:=fun w' (hb:Below w.heap.size w w')=>y06 c.terms d.terms vt vt' w' (h.t.below hb) (h'.t.below hb)
 have Hx:=fun w' (hb:Below w.heap.size w w')=>XA c.xs d.xs vx vx' w' (h.x.below hb) (h'.x.below hb)
 have Hb:=fun w' (hb:Below w.heap.size w w')=>XA c.table d.table vb vb' w' (h.b.below hb) (h'.b.below hb)
 have Hr:=fun w' (hb:Below w.heap.size w w')=>y5G c.rows d.rows vr vr' w' (h.r.below hb) (h'.r.below hb)
 obtain ⟨ta,tc,rfl,_⟩:=h.t.form
 obtain ⟨xa,xc,rfl,_⟩:=h.x.form
 obtain ⟨ba,bc,rfl,_⟩:=h.b.form
 obtain ⟨ra,rc,rfl,_⟩:=h.r.form
 obtain ⟨ta',tc',rfl,_⟩:=h'.t.form
 obtain ⟨xa',xc',rfl,_⟩:=h'.x.form
 obtain ⟨ba',bc',rfl,_⟩:=h'.b.form
 obtain ⟨ra',rc',rfl,_⟩:=h'.r.form
 clear h h'
 unfold yv yz at *
 by_cases hp:c.kind=d.kind/\c.op=d.op/\c.k=d.k/\c.v=d.v/\c.x=d.x/\c.y=d.y
 ·have HPl:∀ W,(binOp .eql 122 (.agg #[.int .i64 c.kind,.int .i64 c.op,.int .i64 c.k,.int .i64 c.v,.int .i64 c.x,.int .i64 c.y]) (.agg #[.int .i64 d.kind,.int .i64 d.op,.int .i64 d.k,.int .i64 d.v,.int .i64 d.x,.int .i64 d.y])).run Tryz.prog W=.ok (.bool true) W:=fun W=>by
   obtain ⟨e1,e2,e3,e4,e5,e6⟩:=hp
   rw [y07,e1,e2,e3,e4,e5,e6]
   simp
  by_cases h1:c.terms=d.terms
  ·by_cases h2:c.xs=d.xs
   ·by_cases h3:c.table=d.table
    ·obtain ⟨r,hr⟩:∃ r:Bool,r=true↔c.rows=d.rows:=by
      by_cases h4:c.rows=d.rows
      ·exact ⟨true,fun _=>h4,fun _=>rfl⟩
      ·exact ⟨false,fun h=>absurd h (by simp),fun h=>absurd h h4⟩
     have key:=y5D w r HA HB HPl (fun w' hb=>(Ht w' hb).mono fun e w2 h=>h.one h1) (fun w' hb=>(Hx w' hb).mono fun e w2 h=>h.one h2) (fun w' hb=>(Hb w' hb).mono fun e w2 h=>h.one h3)
      (fun w' hb=>(Hr w' hb).mono fun e w2 h=>by
       obtain ⟨r',rfl,h5,h6⟩:=h
       have:r'=r:=by
        cases r <;> cases r'
        ·rfl
        ·exact (absurd (hr.2 (h5.1 rfl)) (by simp))
        ·exact (absurd (h5.2 (hr.1 rfl)) (by simp))
        ·rfl
       exact ⟨by rw [this],h6⟩)
     exact key.mono fun e w' hh=>⟨r,hh.1,⟨fun e=>y5E hp h1 h2 h3 (hr.1 e),fun e=>hr.2 (by rw [e])⟩,hh.2⟩
    ·exact (y5C w HA HB HPl (fun w' hb=>(Ht w' hb).mono fun e w2 h=>h.one h1) (fun w' hb=>(Hx w' hb).mono fun e w2 h=>h.one h2) (fun w' hb=>(Hb w' hb).mono fun e w2 h=>h.none h3)).mono fun e w' hh=>by
      rw [hh.1];exact SmO.no (fun e=>h3 (by rw [e])) hh.2
   ·exact (y5B w HA HB HPl (fun w' hb=>(Ht w' hb).mono fun e w2 h=>h.one h1) (fun w' hb=>(Hx w' hb).mono fun e w2 h=>h.none h2)).mono fun e w' hh=>by
     rw [hh.1];exact SmO.no (fun e=>h2 (by rw [e])) hh.2
  ·exact (y5A w HA HB HPl (fun w' hb=>(Ht w' hb).mono fun e w2 h=>h.none h1)).mono fun e w' hh=>by
    rw [hh.1];exact SmO.no (fun e=>h1 (by rw [e])) hh.2
 ·have HPl:∀ W,(binOp .eql 122 (.agg #[.int .i64 c.kind,.int .i64 c.op,.int .i64 c.k,.int .i64 c.v,.int .i64 c.x,.int .i64 c.y]) (.agg #[.int .i64 d.kind,.int .i64 d.op,.int .i64 d.k,.int .i64 d.v,.int .i64 d.x,.int .i64 d.y])).run Tryz.prog W=.ok (.bool false) W:=fun W=>by
   rw [y07]
   have:((c.kind==d.kind)&&(c.op==d.op)&&(c.k==d.k)&&(c.v==d.v)&&(c.x==d.x)&&(c.y==d.y))=false:=by
    rw [Bool.eq_false_iff]
    intro e
    simp only [Bool.and_eq_true,beq_iff_eq] at e
    exact hp ⟨e.1.1.1.1.1,e.1.1.1.1.2,e.1.1.1.2,e.1.1.2,e.1.2,e.2⟩
   rw [this]
  exact (y5z w HA HB HPl).mono fun e w' hh=>by
   rw [hh.1];exact SmO.no (fun e=>hp (by rw [e];exact ⟨rfl,rfl,rfl,rfl,rfl,rfl⟩)) hh.2
theorem CnCells.below_at {w w':World} {b o:Nat} {c:Md.Cn} {vt vx vb vr:Value} (hb:Below w.heap.size w w') (hl:b<w.heap.size) (h:CnCells w b o c vt vx vb vr):CnCells w' b o c vt vx vb vr:=by
 obtain ⟨h0,h1,h2,h3,h4,h5,h6,h7,h8,h9⟩:=h
 have key:∀ k v,w.cell? ⟨b,k,none⟩=some v->w'.cell? ⟨b,k,none⟩=some v:=fun k v e=>(hb.cell (p:=⟨b,k,none⟩) hl).trans e
 exact ⟨key _ _ h0,key _ _ h1,key _ _ h2,key _ _ h3,key _ _ h4,key _ _ h5,key _ _ h6,key _ _ h7,key _ _ h8,key _ _ h9⟩
set_option maxRecDepth 10000 in
set_option maxHeartbeats 2000000 in
theorem y5H (L M:List Md.Cn) (v v':Value) (w:World) (h:ConsAt w v L) (h':ConsAt w v' M):Calls Tryz.prog 30 #[v,v',.func (.func 31) #[] #[]] w (SmO (L=M) w):=by
 obtain ⟨a,cap,rfl,hn,hc⟩:=h
 obtain ⟨a',cap',rfl,hn',hc'⟩:=h'
 unfold maxLen at hn hn'
 by_cases hlen:L.length=M.length
 ·have HC:Hid (∀ j (hj:j<L.length),∃ g off p0 p1 pt ptn ptc p3 p4 p5 p6 px pxn pxc pb pbn pbc pr prn prc,a=some ⟨g,off,none⟩/\(∀ w',Below w.heap.size w w'->w'.cell? ⟨g,off+j * 10,none⟩=some (.int .i64 p0)/\w'.cell? ⟨g,off+j * 10+1,none⟩=some (.int .i64 p1)/\w'.cell? ⟨g,off+j * 10+2,none⟩=some (.slice pt ptn ptc)/\w'.cell? ⟨g,off+j * 10+3,none⟩=some (.int .i64 p3)/\w'.cell? ⟨g,off+j * 10+4,none⟩=some (.int .i64 p4)/\w'.cell? ⟨g,off+j * 10+5,none⟩=some (.int .i64 p5)/\w'.cell? ⟨g,off+j * 10+6,none⟩=some (.int .i64 p6)/\w'.cell? ⟨g,off+j * 10+7,none⟩=some (.slice px pxn pxc)/\w'.cell? ⟨g,off+j * 10+8,none⟩=some (.slice pb pbn pbc)/\w'.cell? ⟨g,off+j * 10+9,none⟩=some (.slice pr prn prc))/\∃ vt vx vb vr,.agg #[.int .i64 p0,.int .i64 p1,.slice pt ptn ptc,.int .i64 p3,.int .i64 p4,.int .i64 p5,.int .i64 p6,.slice px pxn pxc,.slice pb pbn pbc,.slice pr prn prc]=yv L[j] vt vx vb vr/\∀ w',Below w.heap.size w w'->CnAt w' L[j] vt vx vb vr):=fun j hj=>by
   obtain ⟨g,off,e1,e2,e3⟩:=hc (by omega)
   obtain ⟨vt,vx,vb,vr,h4,h5⟩:=e3 j hj
   obtain ⟨ta,tc,rfl,_⟩:=h4.t.form
   obtain ⟨xa,xc,rfl,_⟩:=h4.x.form
   obtain ⟨ba,bc,rfl,_⟩:=h4.b.form
   obtain ⟨ra,rc,rfl,_⟩:=h4.r.form
   exact ⟨g,off,_,_,_,_,_,_,_,_,_,_,_,_,_,_,_,_,_,_,e1,fun w' hb=>CnCells.below_at hb e2 h5,_,_,_,_,rfl,fun w' hb=>h4.below hb⟩
  have HC':Hid (∀ j (hj:j<M.length),∃ g off q0 q1 qt qtn qtc q3 q4 q5 q6 qx qxn qxc qb qbn qbc qr qrn qrc,a'=some ⟨g,off,none⟩/\(∀ w',Below w.heap.size w w'->w'.cell? ⟨g,off+j * 10,none⟩=some (.int .i64 q0)/\w'.cell? ⟨g,off+j * 10+1,none⟩=some (.int .i64 q1)/\w'.cell? ⟨g,off+j * 10+2,none⟩=some (.slice qt qtn qtc)/\w'.cell? ⟨g,off+j * 10+3,none⟩=some (.int .i64 q3)/\w'.cell? ⟨g,off+j * 10+4,none⟩=some (.int .i64 q4)/\w'.cell? ⟨g,off+j * 10+5,none⟩=some (.int .i64 q5)/\w'.cell? ⟨g,off+j * 10+6,none⟩=some (.int .i64 q6)/\w'.cell? ⟨g,off+j * 10+7,none⟩=some (.slice qx qxn qxc)/\w'.cell? ⟨g,off+j * 10+8,none⟩=some (.slice qb qbn qbc)/\w'.cell? ⟨g,off+j * 10+9,none⟩=some (.slice qr qrn qrc))/\∃ vt vx vb vr,.agg #[.int .i64 q0,.int .i64 q1,.slice qt qtn qtc,.int .i64 q3,.int .i64 q4,.int .i64 q5,.int .i64 q6,.slice qx qxn qxc,.slice qb qbn qbc,.slice qr qrn qrc]=yv M[j] vt vx vb vr/\∀ w',Below w.heap.size w w'->CnAt w' M[j] vt vx vb vr):=fun j hj=>by
   obtain ⟨g,off,e1,e2,e3⟩:=hc' (by omega)
   obtain ⟨vt,vx,vb,vr,h4,h5⟩:=e3 j hj
   obtain ⟨ta,tc,rfl,_⟩:=h4.t.form
   obtain ⟨xa,xc,rfl,_⟩:=h4.x.form
   obtain ⟨ba,bc,rfl,_⟩:=h4.b.form
   obtain ⟨ra,rc,rfl,_⟩:=h4.r.form
   exact ⟨g,off,_,_,_,_,_,_,_,_,_,_,_,_,_,_,_,_,_,_,e1,fun w' hb=>CnCells.below_at hb e2 h5,_,_,_,_,rfl,fun w' hb=>h4.below hb⟩
  have HLen:Hid (L.length=M.length):=hlen
  rw [<-hlen]
  clear hc hc' hlen hn'
  go_enter Tryz.func30,Tryz.ntmps30
  go_wp2_with fail
  go_loopw [17] (fun iv wr=>∃ k:Nat,iv=.int .i64 (k:Int)/\k<=L.length/\Hid (Below w.heap.size w wr/\L.take k=M.take k)) (fun iv _=>L.length-(intOf iv).toNat)
  case atStart=>exact ⟨0,rfl,Nat.zero_le _,Below.refl _ _,rfl⟩
  case round=>
   obtain ⟨k,rfl,hk,HBr⟩:=hrel
   by_cases hkn:k<L.length
   ·have hkI:(k:Int)<(L.length:Int):=by omega
    have hkm:k<M.length:=by have:=HLen.out;omega
    obtain ⟨g,off,p0,p1,pt,ptn,ptc,p3,p4,p5,p6,px,pxn,pxc,pb,pbn,pbc,pr,prn,prc,rfl,hx,vt,vx,vb,vr,HE1,hA⟩:=HC.out k hkn
    obtain ⟨g',off',q0,q1,qt,qtn,qtc,q3,q4,q5,q6,qx,qxn,qxc,qb,qbn,qbc,qr,qrn,qrc,rfl,hy,vt',vx',vb',vr',HE2,hA'⟩:=HC'.out k hkm
    obtain ⟨x0,x1,x2,x3,x4,x5,x6,x7,x8,x9⟩:=hx wr HBr.out.1
    obtain ⟨y0,y1,y2,y3,y4,y5,y6,y7,y8,y9⟩:=hy (wr.alloc (.cells #[.int .i64 p0,.int .i64 p1,.slice pt ptn ptc,.int .i64 p3,.int .i64 p4,.int .i64 p5,.int .i64 p6,.slice px pxn pxc,.slice pb pbn pbc,.slice pr prn prc] 61)) (xP HBr.out.1 _)
    have HI:Hid (∀ w',Below w.heap.size w w'->Calls Tryz.prog 31 #[.agg #[.int .i64 p0,.int .i64 p1,.slice pt ptn ptc,.int .i64 p3,.int .i64 p4,.int .i64 p5,.int .i64 p6,.slice px pxn pxc,.slice pb pbn pbc,.slice pr prn prc],.agg #[.int .i64 q0,.int .i64 q1,.slice qt qtn qtc,.int .i64 q3,.int .i64 q4,.int .i64 q5,.int .i64 q6,.slice qx qxn qxc,.slice qb qbn qbc,.slice qr qrn qrc]] w' (SmO (L[k]=M[k]) w')):=fun w' hb=>by
     rw [HE1,HE2]
     exact y5F _ _ _ _ _ _ _ _ _ _ w' (hA w' hb) (hA' w' hb)
    clear hx hy HE1 HE2 hA hA'
    by_cases hel:L[k]=M[k]
    ·have HNx:Hid (L.take (k+1)=M.take (k+1)):=YM HBr.out.2 hkn hkm hel
     have HI2:Hid (∀ w',Below w.heap.size w w'->Calls Tryz.prog 31 #[.agg #[.int .i64 p0,.int .i64 p1,.slice pt ptn ptc,.int .i64 p3,.int .i64 p4,.int .i64 p5,.int .i64 p6,.slice px pxn pxc,.slice pb pbn pbc,.slice pr prn prc],.agg #[.int .i64 q0,.int .i64 q1,.slice qt qtn qtc,.int .i64 q3,.int .i64 q4,.int .i64 q5,.int .i64 q6,.slice qx qxn qxc,.slice qb qbn qbc,.slice qr qrn qrc]] w' fun e w2=>e=.returned (.bool true)/\Below w'.heap.size w' w2):=fun w' hb=>(HI.out w' hb).mono fun e w' h=>h.one hel
     clear hel HI
     go_wp2_with fail
     refine cZ (HI2.out _ (xP (xP HBr.out.1 _) _)) ?_
     rintro e w1 ⟨rfl,hb1⟩
     have HB1:Hid (Below w.heap.size w w1):=yi (xP (xP HBr.out.1 _) _) hb1
     clear hb1
     go_wp2_with fail
     go_roundw
     case rel=>exact ⟨k+1,by go_num,hkn,HB1.out,HNx.out⟩
     case measure=>simp [intOf];omega
    ·have HNo:Hid (L≠M):=YN hkn hkm hel
     have HI2:Hid (∀ w',Below w.heap.size w w'->Calls Tryz.prog 31 #[.agg #[.int .i64 p0,.int .i64 p1,.slice pt ptn ptc,.int .i64 p3,.int .i64 p4,.int .i64 p5,.int .i64 p6,.slice px pxn pxc,.slice pb pbn pbc,.slice pr prn prc],.agg #[.int .i64 q0,.int .i64 q1,.slice qt qtn qtc,.int .i64 q3,.int .i64 q4,.int .i64 q5,.int .i64 q6,.slice qx qxn qxc,.slice qb qbn qbc,.slice qr qrn qrc]] w' fun e w2=>e=.returned (.bool false)/\Below w'.heap.size w' w2):=fun w' hb=>(HI.out w' hb).mono fun e w' h=>h.none hel
     clear hel HI
     go_wp2_with fail
     refine cZ (HI2.out _ (xP (xP HBr.out.1 _) _)) ?_
     rintro e w1 ⟨rfl,hb1⟩
     have HB1:Hid (Below w.heap.size w w1):=yi (xP (xP HBr.out.1 _) _) hb1
     clear hb1
     go_wp2_with fail
     go_ret
     exact SmO.no HNo.out HB1.out
   ·have hkI:¬ (k:Int)<(L.length:Int):=by omega
    have HYes:Hid (L=M):=YO HBr.out.2 (by omega) (by have:=HLen.out;omega)
    go_wp2_with fail
    go_ret
    exact SmO.yes HYes.out HBr.out.1
 ·have hlI:¬ ((L.length:Int)=(M.length:Int)):=by omega
  have HNo:Hid (L≠M):=fun e=>hlen (by rw [e])
  clear hc hc'
  go_enter Tryz.func30,Tryz.ntmps30
  go_wp2_with fail
  go_ret
  exact SmO.no HNo.out (Below.refl _ _)
end Go.Proofs.YthohnmplbjhjaaaGreatDoor

namespace Go.Proofs.YthohnmplbjhjaaaGreatDoor
open Go Go.RowKit
theorem y5R {m n:Md.Mo} (h1:m.vars=n.vars) (h2:m.cons=n.cons) (h3:m.has=n.has) (h4:m.goal=n.goal):m=n:=by
 obtain ⟨a,b,c,d⟩:=m
 obtain ⟨a',b',c',d'⟩:=n
 simp only at h1 h2 h3 h4
 subst h1 h2 h3 h4
 rfl
theorem yP {w w':World} {N:Nat} {a0 a1 a2 a3:Value} {t:TypeId} (h:w.heap[N]?=some (.cells #[a0,a1,a2,a3] t (0,0))) (hb:Below w.heap.size w w'):w'.cell? ⟨N,0,none⟩=some a0/\w'.cell? ⟨N,1,none⟩=some a1/\w'.cell? ⟨N,2,none⟩=some a2/\w'.cell? ⟨N,3,none⟩=some a3:=by
 have h':=(hb.block _ (Array.getElem?_eq_some_iff.1 h).1).trans h
 exact ⟨yd h' 0,yd h' 1,yd h' 2,yd h' 3⟩
set_option maxRecDepth 10000 in
set_option maxHeartbeats 2000000 in
theorem y5S (m n:Md.Mo) (vv vc vg vv' vc' vg':Value) (w:World) (h:MoAt w m vv vc vg) (h':MoAt w n vv' vc' vg'):Calls Tryz.prog 14 #[.agg #[vv,vc,.bool m.has,vg],.agg #[vv',vc',.bool n.has,vg']] w (SmO (m=n) w):=by
 have HV:Hid (∀ w',Below w.heap.size w w'->Calls Tryz.prog 29 #[vv,vv'] w' (SmO (m.vars=n.vars) w')):=fun w' hb=>y5Q _ _ _ _ w' (h.v.below hb) (h'.v.below hb)
 have HC:Hid (∀ w',Below w.heap.size w w'->Calls Tryz.prog 30 #[vc,vc',.func (.func 31) #[] #[]] w' (SmO (m.cons=n.cons) w')):=fun w' hb=>y5H _ _ _ _ w' (h.c.below hb) (h'.c.below hb)
 have HG:Hid (∀ w',Below w.heap.size w w'->Calls Tryz.prog 32 #[vg,vg'] w' (SmO (m.goal=n.goal) w')):=fun w' hb=>y06 _ _ _ _ w' (h.g.below hb) (h'.g.below hb)
 obtain ⟨a1,c1,rfl,_⟩:=h.v.form
 obtain ⟨a2,c2,rfl,_⟩:=h.c.form
 obtain ⟨a3,c3,rfl,_⟩:=h.g.form
 obtain ⟨b1,d1,rfl,_⟩:=h'.v.form
 obtain ⟨b2,d2,rfl,_⟩:=h'.c.form
 obtain ⟨b3,d3,rfl,_⟩:=h'.g.form
 obtain ⟨V,hV⟩:∃ V,w.alloc (.cells #[.slice a1 m.vars.length c1,.slice a2 m.cons.length c2,.bool m.has,.slice a3 m.goal.length c3] 26)=V:=⟨_,rfl⟩
 obtain ⟨X,hX⟩:∃ X,V.alloc (.cells #[.slice b1 n.vars.length d1,.slice b2 n.cons.length d2,.bool n.has,.slice b3 n.goal.length d3] 26)=X:=⟨_,rfl⟩
 obtain ⟨N1,hN1⟩:∃ N1,w.heap.size=N1:=⟨_,rfl⟩
 obtain ⟨N2,hN2⟩:∃ N2,V.heap.size=N2:=⟨_,rfl⟩
 have HBX:Hid (Below w.heap.size w X):=by
  show Below _ _ _
  rw [<-hX,<-hV]
  exact ((Below.refl _ _).alloc (Nat.le_refl _) _).alloc (by simp) _
 have HP:Hid (X.heap[N1]?=some (.cells #[.slice a1 m.vars.length c1,.slice a2 m.cons.length c2,.bool m.has,.slice a3 m.goal.length c3] 26 (0,0))/\X.heap[N2]?=some (.cells #[.slice b1 n.vars.length d1,.slice b2 n.cons.length d2,.bool n.has,.slice b3 n.goal.length d3] 26 (0,0))):=by
  have gV:V.heap[N1]?=some (.cells #[.slice a1 m.vars.length c1,.slice a2 m.cons.length c2,.bool m.has,.slice a3 m.goal.length c3] 26 (0,0)):=by rw [<-hV,<-hN1];exact heap_alloc_new w _
  exact ⟨by rw [<-hX];exact (heap_alloc_old V _ (Array.getElem?_eq_some_iff.1 gV).1).trans gV,by rw [<-hX,<-hN2];exact heap_alloc_new V _⟩
 clear h h'
 obtain ⟨p0,p1,p2,p3⟩:=yP HP.out.1 (Below.refl _ _)
 obtain ⟨q0,q1,q2,q3⟩:=yP HP.out.2 (Below.refl _ _)
 have fin:∀ w2,Hid (Below X.heap.size X w2)->Below w.heap.size w w2:=fun w2 hb=>yi HBX.out hb.out
 have HFin:Hid (∀ w2,Hid (Below X.heap.size X w2)->Below w.heap.size w w2):=fin
 clear fin
 obtain ⟨mh,hmh⟩:∃ b,m.has=b:=⟨_,rfl⟩
 obtain ⟨nh,hnh⟩:∃ b,n.has=b:=⟨_,rfl⟩
 rw [hmh] at p2 hV HP ⊢
 rw [hnh] at q2 hX HP ⊢
 have HMN:Hid (m.has=mh/\n.has=nh):=⟨hmh,hnh⟩
 clear hmh hnh
 by_cases h1:m.vars=n.vars
 ·have HV2:Hid (∀ w',Below w.heap.size w w'->Calls Tryz.prog 29 #[.slice a1 m.vars.length c1,.slice b1 n.vars.length d1] w' fun e w2=>e=.returned (.bool true)/\Below w'.heap.size w' w2):=fun w' hb=>(HV.out w' hb).mono fun e w2 hh=>hh.one h1
  have H1:Hid (m.vars=n.vars):=h1
  clear HV h1
  by_cases h2:m.cons=n.cons
  ·have HC2:Hid (∀ w',Below w.heap.size w w'->Calls Tryz.prog 30 #[.slice a2 m.cons.length c2,.slice b2 n.cons.length d2,.func (.func 31) #[] #[]] w' fun e w2=>e=.returned (.bool true)/\Below w'.heap.size w' w2):=fun w' hb=>(HC.out w' hb).mono fun e w2 hh=>hh.one h2
   have H2:Hid (m.cons=n.cons):=h2
   clear HC h2
   by_cases h3:mh=nh
   ·subst h3
    have HM:Hid (m.goal=n.goal↔m=n):=⟨fun e=>y5R H1.out H2.out (HMN.out.1.trans HMN.out.2.symm) e,fun e=>by rw [e]⟩
    clear H1 H2 HMN
    cases mh
    ·go_enter Tryz.func14,Tryz.ntmps14
     go_wp2_with (first
      | (go_at_call 29;refine cZ (HV2.out _ HBX.out) ?_;rintro e w1 ⟨rfl,hb1⟩;(have HB1:Hid (Below X.heap.size X w1):=hb1);obtain ⟨p0,p1,p2,p3⟩:=yP HP.out.1 hb1;obtain ⟨q0,q1,q2,q3⟩:=yP HP.out.2 hb1;clear hb1)
      | (go_at_call 30;refine cZ (HC2.out _ (HFin.out _ HB1)) ?_;rintro e w2 ⟨rfl,hb2⟩;(have HB2:Hid (Below X.heap.size X w2):=yi HB1.out hb2);obtain ⟨p0,p1,p2,p3⟩:=yP HP.out.1 HB2.out;obtain ⟨q0,q1,q2,q3⟩:=yP HP.out.2 HB2.out;clear hb2)
      | (go_at_call 32;refine cZ (HG.out _ (HFin.out _ HB2)) ?_;rintro e w3 ⟨r,rfl,hr,hb3⟩;(have HR:Hid ((r=true↔m.goal=n.goal)/\Below X.heap.size X w3):=⟨hr,yi HB2.out hb3⟩);clear hr hb3))
     go_ret
     exact ⟨r,rfl,HR.out.1.trans HM.out,HFin.out _ HR.out.2⟩
    ·go_enter Tryz.func14,Tryz.ntmps14
     go_wp2_with (first
      | (go_at_call 29;refine cZ (HV2.out _ HBX.out) ?_;rintro e w1 ⟨rfl,hb1⟩;(have HB1:Hid (Below X.heap.size X w1):=hb1);obtain ⟨p0,p1,p2,p3⟩:=yP HP.out.1 hb1;obtain ⟨q0,q1,q2,q3⟩:=yP HP.out.2 hb1;clear hb1)
      | (go_at_call 30;refine cZ (HC2.out _ (HFin.out _ HB1)) ?_;rintro e w2 ⟨rfl,hb2⟩;(have HB2:Hid (Below X.heap.size X w2):=yi HB1.out hb2);obtain ⟨p0,p1,p2,p3⟩:=yP HP.out.1 HB2.out;obtain ⟨q0,q1,q2,q3⟩:=yP HP.out.2 HB2.out;clear hb2)
      | (go_at_call 32;refine cZ (HG.out _ (HFin.out _ HB2)) ?_;rintro e w3 ⟨r,rfl,hr,hb3⟩;(have HR:Hid ((r=true↔m.goal=n.goal)/\Below X.heap.size X w3):=⟨hr,yi HB2.out hb3⟩);clear hr hb3))
     go_ret
     exact ⟨r,rfl,HR.out.1.trans HM.out,HFin.out _ HR.out.2⟩
   ·have HM:Hid (m≠n):=fun e=>h3 (by rw [<-HMN.out.1,<-HMN.out.2,e])
    have hh:(mh==nh)=false:=by simpa using h3
    clear H1 H2 HMN
    cases mh <;> cases nh
    ·exact absurd rfl h3
    ·clear h3 hh
     go_enter Tryz.func14,Tryz.ntmps14
     go_wp2_with (first
      | (go_at_call 29;refine cZ (HV2.out _ HBX.out) ?_;rintro e w1 ⟨rfl,hb1⟩;(have HB1:Hid (Below X.heap.size X w1):=hb1);obtain ⟨p0,p1,p2,p3⟩:=yP HP.out.1 hb1;obtain ⟨q0,q1,q2,q3⟩:=yP HP.out.2 hb1;clear hb1)
      | (go_at_call 30;refine cZ (HC2.out _ (HFin.out _ HB1)) ?_;rintro e w2 ⟨rfl,hb2⟩;(have HB2:Hid (Below X.heap.size X w2):=yi HB1.out hb2);obtain ⟨p0,p1,p2,p3⟩:=yP HP.out.1 HB2.out;obtain ⟨q0,q1,q2,q3⟩:=yP HP.out.2 HB2.out;clear hb2))
     go_ret
     exact SmO.no HM.out (HFin.out _ HB2)
    ·clear h3 hh
     go_enter Tryz.func14,Tryz.ntmps14
     go_wp2_with (first
      | (go_at_call 29;refine cZ (HV2.out _ HBX.out) ?_;rintro e w1 ⟨rfl,hb1⟩;(have HB1:Hid (Below X.heap.size X w1):=hb1);obtain ⟨p0,p1,p2,p3⟩:=yP HP.out.1 hb1;obtain ⟨q0,q1,q2,q3⟩:=yP HP.out.2 hb1;clear hb1)
      | (go_at_call 30;refine cZ (HC2.out _ (HFin.out _ HB1)) ?_;rintro e w2 ⟨rfl,hb2⟩;(have HB2:Hid (Below X.heap.size X w2):=yi HB1.out hb2);obtain ⟨p0,p1,p2,p3⟩:=yP HP.out.1 HB2.out;obtain ⟨q0,q1,q2,q3⟩:=yP HP.out.2 HB2.out;clear hb2))
     go_ret
     exact SmO.no HM.out (HFin.out _ HB2)
    ·exact absurd rfl h3
  ·have HC2:Hid (∀ w',Below w.heap.size w w'->Calls Tryz.prog 30 #[.slice a2 m.cons.length c2,.slice b2 n.cons.length d2,.func (.func 31) #[] #[]] w' fun e w2=>e=.returned (.bool false)/\Below w'.heap.size w' w2):=fun w' hb=>(HC.out w' hb).mono fun e w2 hh=>hh.none h2
   have HM:Hid (m≠n):=fun e=>h2 (by rw [e])
   clear HC h2 H1 HMN
   go_enter Tryz.func14,Tryz.ntmps14
   go_wp2_with (first
    | (go_at_call 29;refine cZ (HV2.out _ HBX.out) ?_;rintro e w1 ⟨rfl,hb1⟩;(have HB1:Hid (Below X.heap.size X w1):=hb1);obtain ⟨p0,p1,p2,p3⟩:=yP HP.out.1 hb1;obtain ⟨q0,q1,q2,q3⟩:=yP HP.out.2 hb1;clear hb1)
    | (go_at_call 30;refine cZ (HC2.out _ (HFin.out _ HB1)) ?_;rintro e w2 ⟨rfl,hb2⟩;(have HB2:Hid (Below X.heap.size X w2):=yi HB1.out hb2);clear hb2))
   go_ret
   exact SmO.no HM.out (HFin.out _ HB2)
 ·have HV2:Hid (∀ w',Below w.heap.size w w'->Calls Tryz.prog 29 #[.slice a1 m.vars.length c1,.slice b1 n.vars.length d1] w' fun e w2=>e=.returned (.bool false)/\Below w'.heap.size w' w2):=fun w' hb=>(HV.out w' hb).mono fun e w2 hh=>hh.none h1
  have HM:Hid (m≠n):=fun e=>h1 (by rw [e])
  clear HV h1 HMN
  go_enter Tryz.func14,Tryz.ntmps14
  go_wp2_with (first
   | (go_at_call 29;refine cZ (HV2.out _ HBX.out) ?_;rintro e w1 ⟨rfl,hb1⟩;(have HB1:Hid (Below X.heap.size X w1):=hb1);clear hb1))
  go_ret
  exact SmO.no HM.out (HFin.out _ HB1)
end Go.Proofs.YthohnmplbjhjaaaGreatDoor
