/-
  Put together: TpText, TpPrint.
-/
import Derived.Test.YthohnmplbjhjaaaGreatDoorJ13
import Derived.Test.YthohnmplbjhjaaaGreatDoorJ26
namespace Go.Proofs.YthohnmplbjhjaaaGreatDoor
open Go Go.RowKit
theorem y3v {c:Md.Cn} {n:Nat} (h:Md.fault c n=0):Nums c:=by
 have hF:=Md.fit_of h
 unfold Md.fault at h
 split at h
 ·cases h
 split at h
 ·cases h
 split at h
 ·cases h
 split at h
 ·cases h
 split at h
 ·cases h
 split at h
 ·cases h
 rename_i h6
 clear h
 simp only [Md.numsB,Md.numB,Bool.and_eq_true,decide_eq_true_eq,List.all_eq_true,Bool.not_eq_true',Bool.not_eq_false] at h6
 exact ⟨h6.1.2,fun r hr=>⟨by rw [hF.rr r hr];exact hF.xl,h6.2 r hr⟩⟩
theorem QD {vars:List Md.Vr} (hn:∀ v∈vars,v.name.data.toList.length<=16) {x:Int} (h:0<=x/\x<(vars.length:Int)):(Md.nm vars x).length<=16:=by
 obtain ⟨j,hj,_,he⟩:=Yw h.1 h.2
 rw [he]
 exact hn vars[j] (List.getElem_mem hj)
theorem y3y (o:Int):(Md.opT o).length<=2:=by
 unfold Md.opT
 split
 ·decide
 split
 ·decide
 split
 ·decide
 ·decide
theorem y3z (k:Int):(Md.wordT k).length<=8:=by
 unfold Md.wordT
 repeat' split
 all_goals decide
theorem y3w {vars:List Md.Vr} {c:Md.Cn} (hn:∀ v∈vars,v.name.data.toList.length<=16) (hF:Md.Fit c vars.length) (hN:Nums c):(Md.conT vars c++[10]).length<=300000:=by
 have a1:=Yv hn hF.tx hF.tc
 have a2:=zl hn hF.xs
 have a3:=xf hN.b
 have a4:=Qq hN.r
 have a5:=QD hn hF.x
 have a6:=QD hn hF.y
 have a7:=Md.itoa_len hF.k
 have a8:=Md.itoa_len hF.v
 have a9:=y3y c.op
 have b1:=y3z c.kind
 have b2:=hF.tl
 have b3:=hF.xl
 have b4:=hF.bl
 have b5:=hF.rl
 have key:(Md.restT vars c).length<=200000:=by
  unfold Md.restT
  repeat' split
  all_goals first | omega | (simp only [List.length_append,List.length_cons];omega) | (simp only [List.length_append];omega)
 unfold Md.conT
 simp only [List.length_append,List.length_cons,List.length_nil]
 omega
theorem y3u {v:Md.Vr} (hn:v.name.data.toList.length<=16) (h1:-1000000000<=v.lo/\v.lo<=1000000000) (h2:-1000000000<=v.hi/\v.hi<=1000000000):(Md.varT v++[10]).length<=100:=by
 have a1:=Md.itoa_len h1
 have a2:=Md.itoa_len h2
 unfold Md.varT
 simp only [List.length_append,List.length_cons,List.length_nil]
 omega
theorem y3x {l:List Md.Vr} (h:1<=l.length):Md.varsT l≠[]:=by
 cases l with
 | nil=>simp at h
 | cons v l=>simp [Md.varsT,Md.varT]
end Go.Proofs.YthohnmplbjhjaaaGreatDoor

namespace Go.Proofs.YthohnmplbjhjaaaGreatDoor
open Go Go.RowKit
theorem X7 {B:Nat} {w w':World} {N:Nat} {a0 a1 a2 a3:Value} (h:w.heap[N]?=some (.cells #[a0,a1,a2,a3] 26 (0,0))) (k:Kq B w w'):w'.heap[N]?=some (.cells #[a0,a1,a2,a3] 26 (0,0)):=k.other N _ 26 _ h (by decide) (by decide)
set_option maxHeartbeats 4000000 in
set_option maxRecDepth 10000 in
theorem y2u (m:Md.Mo) (vv vc vg:Value) (w:World) (hM:MoAt w m vv vc vg) (hT:Way w w) :
  Calls Tryz.prog 12 #[xj m vv vc vg] w fun e w'=>e=.returned (.tuple #[.string ⟨(Md.print m).1.toArray⟩,.int .i64 (Md.print m).2])/\Below w.heap.size w w':=by
 obtain ⟨va,vp,rfl,hvm⟩:=hM.v.form
 obtain ⟨ca,cp,rfl,hcm⟩:=hM.c.form
 obtain ⟨ga,gp,rfl,_⟩:=hM.g.form
 unfold maxLen at hvm hcm
 obtain ⟨W1,hW1⟩:∃ W,w.alloc (.cells #[.slice va m.vars.length vp,.slice ca m.cons.length cp,.bool m.has,.slice ga m.goal.length gp] 26)=W:=⟨_,rfl⟩
 have hb1:Below w.heap.size w W1:=by rw [<-hW1];exact (Below.refl _ _).alloc (Nat.le_refl _) _
 have hN1:W1.heap[w.heap.size]?=some (.cells #[.slice va m.vars.length vp,.slice ca m.cons.length cp,.bool m.has,.slice ga m.goal.length gp] 26):=by rw [<-hW1];exact heap_alloc_new w _
 have HCk:Hid (Calls Tryz.prog 15 #[.agg #[.slice va m.vars.length vp,.slice ca m.cons.length cp,.bool m.has,.slice ga m.goal.length gp]] W1 fun e w'=>e=.returned (.tuple #[.int .i64 (Md.check m).1,.int .i64 (Md.check m).2])/\Below W1.heap.size W1 w'):=ZX m _ _ _ W1 (hM.below hb1)
 have HM:Hid (MoAt w m (.slice va m.vars.length vp) (.slice ca m.cons.length cp) (.slice ga m.goal.length gp)):=hM
 have HT:Hid (Way w w):=hT
 have HB1:Hid (Below w.heap.size w W1):=hb1
 have HN1:Hid (W1.heap[w.heap.size]?=some (.cells #[.slice va m.vars.length vp,.slice ca m.cons.length cp,.bool m.has,.slice ga m.goal.length gp] 26)):=hN1
 have HPr:Hid ((Md.check m).2≠0->Md.print m=([],(Md.check m).2)):=fun h=>by unfold Md.print;rw [if_neg h]
 have HPs:Hid ((Md.check m).2=0->65536<(Md.textT m).length->Md.print m=([],50)):=fun h h2=>by unfold Md.print;rw [if_pos h,if_pos h2]
 have HPt:Hid ((Md.check m).2=0->¬ 65536<(Md.textT m).length->Md.print m=(Md.textT m,0)):=fun h h2=>by unfold Md.print;rw [if_pos h,if_neg h2]
 have HRt:Hid ((Md.check m).2=0->Md.Right m):=fun h=>Md.right_of h
 obtain ⟨⟨p0,p1,p2,p3⟩,_⟩:=box4 hN1
 unfold xj
 clear hM hb1 hN1 hT
 generalize (Md.check m).1=c1 at *
 generalize (Md.check m).2=c2 at *
 by_cases h0:c2=0
 case neg=>
  have h0b:(c2 != 0)=true:=by simpa using h0
  have HE:Hid (Md.print m=([],c2)):=HPr.out h0
  clear h0
  go_enter Tryz.func12,Tryz.ntmps12
  go_wp2_with (go_at_call 15;refine cZ HCk.out ?_;rintro e w2 ⟨rfl,hb2⟩)
  go_ret2
  exact ⟨(by rw [HE.out];rfl),HB1.out.trans (hb2.mono HB1.out.size)⟩
 case pos=>
  have HRi:Hid (Md.Right m):=HRt.out h0
  have HPs':=HPs.out h0
  have HPt':=HPt.out h0
  have HP1:Hid (65536<(Md.textT m).length->Md.print m=([],50)):=HPs'
  have HP2:Hid (¬ 65536<(Md.textT m).length->Md.print m=(Md.textT m,0)):=HPt'
  subst h0
  clear HPs HPt HPr HRt HPs' HPt'
  go_enter Tryz.func12,Tryz.ntmps12
  go_upto_region 4 with (go_at_call 15;refine cZ HCk.out ?_;rintro e w2 ⟨rfl,hb2⟩)
  have HN2:Hid (w2.heap[w.heap.size]?=some (.cells #[.slice va m.vars.length vp,.slice ca m.cons.length cp,.bool m.has,.slice ga m.goal.length gp] 26)):=(hb2.block w.heap.size (Array.getElem?_eq_some_iff.1 HN1.out).1).trans HN1.out
  have HB2:Hid (Below w.heap.size w w2):=HB1.out.trans (hb2.mono HB1.out.size)
  clear p0 p1 p2 p3 hb2 hW1 HCk HN1 HB1
  obtain ⟨⟨p0,p1,p2,p3⟩,_⟩:=box4 HN2.out
  obtain ⟨W3,hW3⟩:∃ W,w2.alloc (.cells #[.slice va m.vars.length vp,.pointer none,.slice none 0 0] 71)=W:=⟨_,rfl⟩
  have HK3:Hid (Kq w.heap.size w2 W3):=by show Kq _ _ _;rw [<-hW3];exact Yb (Kq.refl _ _) HB2.out.size _
  have HP3:Hid (yf w.heap.size w2.heap.size (.slice va m.vars.length vp) [] W3):=by
   show yf _ _ _ _ _
   rw [<-hW3]
   exact ⟨HB2.out.size,none,.slice none 0 0,heap_alloc_new w2 _,.inl rfl,World.ownsRow_nil _ _ _ _⟩
  have HN3:Hid (W3.heap[w.heap.size]?=some (.cells #[.slice va m.vars.length vp,.slice ca m.cons.length cp,.bool m.has,.slice ga m.goal.length gp] 26)):=X7 HN2.out HK3.out
  have HWy:Hid (∀ w',Kq w.heap.size W3 w'->Way w w'):=fun w' k=>⟨(HB2.out.trans HK3.out.low).trans k.low,HT.out.tab,HT.out.big,HT.out.mx,HT.out.opw⟩
  have HNm:Hid (∀ v∈m.vars,v.name.data.toList.length<=16):=fun v hv=>Md.name_len (HRi.out.var v hv).1
  have HVn:Hid (∀ v∈m.vars,(-1000000000<=v.lo/\v.lo<=1000000000)/\(-1000000000<=v.hi/\v.hi<=1000000000)):=fun v hv=>by
   have:=Md.bounds_of (HRi.out.var v hv).2
   exact ⟨this.1,this.2.1⟩
  have HVL:Hid (∀ k,(Md.varsT (m.vars.take k)).length<=3200):=fun k=>by
   have h1:=Md.flatMap_take_len (fun v=>Md.varT v++[10]) 100 m.vars k (fun v hv=>y3u (HNm.out v hv) (HVn.out v hv).1 (HVn.out v hv).2)
   have h2:=HRi.out.nv.2
   exact Nat.le_trans h1 (by omega)
  have HFt:Hid (∀ c∈m.cons,Md.Fit c m.vars.length/\Nums c):=fun c hc=>⟨Md.fit_of (HRi.out.con c hc),y3v (HRi.out.con c hc)⟩
  have HCL:Hid (∀ k,(Md.consT m.vars (m.cons.take k)).length<=19200000):=fun k=>by
   have h1:=Md.flatMap_take_len (fun c=>Md.conT m.vars c++[10]) 300000 m.cons k (fun c hc=>y3w HNm.out (HFt.out c hc).1 (HFt.out c hc).2)
   have h2:=HRi.out.nc
   exact Nat.le_trans h1 (by omega)
  have HVs:Hid (VarsAt w (.slice va m.vars.length vp) m.vars):=HM.out.v
  have H0:Hid (yf w.heap.size w2.heap.size (.slice va m.vars.length vp) (Md.varsT (m.vars.take 0)) W3):=HP3.out
  obtain ⟨⟨q0,q1,q2,q3⟩,_⟩:=box4 HN3.out
  go_wp2_with fail
  clear q0 q1 q2 q3 p0 p1 p2 p3 hW3
  go_loopw [26] (fun iv wr=>∃ k:Nat,iv=.int .i64 (k:Int)/\k<=m.vars.length/\Hid (yf w.heap.size w2.heap.size (.slice va m.vars.length vp) (Md.varsT (m.vars.take k)) wr)/\Hid (Kq w.heap.size W3 wr)) (fun iv _=>m.vars.length-(intOf iv).toNat)
  case atStart=>exact ⟨0,rfl,Nat.zero_le _,H0,Kq.refl _ _⟩
  case round=>
   obtain ⟨k,rfl,hk,hP,hK⟩:=hrel
   clear H0
   by_cases hlt:k<m.vars.length
   ·obtain ⟨a',cap',hv,_,_,hc⟩:=HVs.out
    injection hv with e1 _ e3
    subst e3
    subst e1
    obtain ⟨g,off,rfl,hg,hcc⟩:=hc (by omega)
    have hlow:=(HWy.out wr hK.out).low
    have c0:=(hlow.cell (p:=⟨g,off+k * 3,none⟩) hg).trans (hcc k hlt).1
    have c1':=(hlow.cell (p:=⟨g,off+k * 3+1,none⟩) hg).trans (hcc k hlt).2.1
    have c2':=(hlow.cell (p:=⟨g,off+k * 3+2,none⟩) hg).trans (hcc k hlt).2.2
    have hkI:(k:Int)<(m.vars.length:Int):=by omega
    have HR:Hid (Md.varsT (m.vars.take (k+1))=Md.varsT (m.vars.take k)++(Md.varT m.vars[k]++[10])):=Md.flatMap_take _ m.vars k hlt
    have HX:Hid (m.vars[k].name.data.toList.length<=16/\(-1000000000<=m.vars[k].lo/\m.vars[k].lo<=1000000000)/\(-1000000000<=m.vars[k].hi/\m.vars[k].hi<=1000000000)):=⟨HNm.out _ (List.getElem_mem hlt),HVn.out _ (List.getElem_mem hlt)⟩
    obtain ⟨X,hX⟩:∃ X,X=m.vars[k]:=⟨_,rfl⟩
    rw [<-hX] at c0 c1' c2' HR HX
    clear hX hcc hc hlow
    obtain ⟨W4,hW4⟩:∃ W,wr.alloc (.cells #[.string X.name,.int .i64 X.lo,.int .i64 X.hi] 56)=W:=⟨_,rfl⟩
    have HP4:Hid (yf w.heap.size w2.heap.size (.slice (some ⟨g,off,none⟩) m.vars.length vp) (Md.varsT (m.vars.take k)) W4):=by show yf _ _ _ _ _;rw [<-hW4];exact yj hP.out _
    have HK4:Hid (Kq w.heap.size W3 W4):=by show Kq _ _ _;rw [<-hW4];exact Yb hK.out (HWy.out W3 (Kq.refl _ _)).low.size _
    have HC4:Hid (Calls Tryz.prog 23 #[.pointer (some ⟨w2.heap.size,0,none⟩),.agg #[.string X.name,.int .i64 X.lo,.int .i64 X.hi,.int .i64 10,.int .i64 0,.slice none 0 0,.int .i64 0,.int .i64 0,.int .i64 0,.int .i64 0,.slice none 0 0,.slice none 0 0,.slice none 0 0]] W4 fun e w'=>e=.returned (.tuple #[])/\yf w.heap.size w2.heap.size (.slice (some ⟨g,off,none⟩) m.vars.length vp) (Md.varsT (m.vars.take k)++Md.varT X++[10]) w'/\Kq w.heap.size W4 w'):=
     y3g m.vars w2.heap.size _ _ X W4 HVs.out HNm.out (HWy.out W4 HK4.out) HX.out.1 HX.out.2.1 HX.out.2.2 HP4.out (by have:=HVL.out k;omega)
    have r0:W4.cell? ⟨wr.heap.size,0,none⟩=some (.string X.name):=by rw [<-hW4];simp
    have r1:W4.cell? ⟨wr.heap.size,1,none⟩=some (.int .i64 X.lo):=by rw [<-hW4];simp
    have r2:W4.cell? ⟨wr.heap.size,2,none⟩=some (.int .i64 X.hi):=by rw [<-hW4];simp
    go_wp2_with (go_at_call 23;refine cZ HC4.out ?_;rintro e w5 ⟨rfl,hp5,hk5⟩;have HP5:Hid (yf w.heap.size w2.heap.size (.slice (some ⟨g,off,none⟩) m.vars.length vp) (Md.varsT (m.vars.take (k+1))) w5):=(by show yf _ _ _ _ _;rw [HR.out,<-List.append_assoc];exact hp5);have HK5:Hid (Kq w.heap.size W3 w5):=HK4.out.trans hk5;clear hp5 hk5)
    go_roundw
    case rel=>exact ⟨k+1,by go_num,by omega,HP5,HK5⟩
    case measure=>simp [intOf];omega
   ·have hkI:¬ (k:Int)<(m.vars.length:Int):=by omega
    have HP5:Hid (yf w.heap.size w2.heap.size (.slice va m.vars.length vp) (Md.varsT m.vars++Md.consT m.vars (m.cons.take 0)) wr):=by
     have:=hP.out
     rw [List.take_of_length_le (by omega)] at this
     show yf _ _ _ _ _
     simpa [Md.consT] using this
    have HN5:Hid (wr.heap[w.heap.size]?=some (.cells #[.slice va m.vars.length vp,.slice ca m.cons.length cp,.bool m.has,.slice ga m.goal.length gp] 26)):=X7 HN3.out hK.out
    obtain ⟨⟨q0,q1,q2,q3⟩,_⟩:=box4 HN5.out
    rename World=>wv
    have HKv:Hid (Kq w.heap.size W3 wv):=hK.out
    clear hP hK HP3
    go_wp2_with fail
    clear q0 q1 q2 q3
    go_loopw [39] (fun iv wr=>∃ k:Nat,iv=.int .i64 (k:Int)/\k<=m.cons.length/\Hid (yf w.heap.size w2.heap.size (.slice va m.vars.length vp) (Md.varsT m.vars++Md.consT m.vars (m.cons.take k)) wr)/\Hid (Kq w.heap.size W3 wr)) (fun iv _=>m.cons.length-(intOf iv).toNat)
    case atStart=>exact ⟨0,rfl,Nat.zero_le _,HP5,HKv⟩
    case round=>
     obtain ⟨n,rfl,hn,hP,hK⟩:=hrel
     clear HP5
     by_cases hlt2:n<m.cons.length
     ·obtain ⟨a',cap',hv,_,hc⟩:=HM.out.c
      injection hv with e1 _ e3
      subst e3
      subst e1
      obtain ⟨g,off,rfl,hg,hcc⟩:=hc (by omega)
      obtain ⟨vt,vx,vb,vr,hCn,hCc⟩:=hcc n hlt2
      have hlow:=(HWy.out wr hK.out).low
      obtain ⟨k0,k1,k2,k3,k4,k5,k6,k7,k8,k9⟩:=hCc
      have d0:=(hlow.cell (p:=⟨g,off+n * 10,none⟩) hg).trans k0
      have d1:=(hlow.cell (p:=⟨g,off+n * 10+1,none⟩) hg).trans k1
      have d2:=(hlow.cell (p:=⟨g,off+n * 10+2,none⟩) hg).trans k2
      have d3:=(hlow.cell (p:=⟨g,off+n * 10+3,none⟩) hg).trans k3
      have d4:=(hlow.cell (p:=⟨g,off+n * 10+4,none⟩) hg).trans k4
      have d5:=(hlow.cell (p:=⟨g,off+n * 10+5,none⟩) hg).trans k5
      have d6:=(hlow.cell (p:=⟨g,off+n * 10+6,none⟩) hg).trans k6
      have d7:=(hlow.cell (p:=⟨g,off+n * 10+7,none⟩) hg).trans k7
      have d8:=(hlow.cell (p:=⟨g,off+n * 10+8,none⟩) hg).trans k8
      have d9:=(hlow.cell (p:=⟨g,off+n * 10+9,none⟩) hg).trans k9
      have hnI:(n:Int)<(m.cons.length:Int):=by omega
      have HR:Hid (Md.consT m.vars (m.cons.take (n+1))=Md.consT m.vars (m.cons.take n)++(Md.conT m.vars m.cons[n]++[10])):=Md.flatMap_take _ m.cons n hlt2
      have HX:Hid (Md.Fit m.cons[n] m.vars.length/\Nums m.cons[n]):=HFt.out _ (List.getElem_mem hlt2)
      have HCn:Hid (CnAt w m.cons[n] vt vx vb vr):=hCn
      obtain ⟨X,hX⟩:∃ X,X=m.cons[n]:=⟨_,rfl⟩
      rw [<-hX] at d0 d1 d3 d4 d5 d6 HR HX HCn
      clear hX hcc hc hlow k0 k1 k2 k3 k4 k5 k6 k7 k8 k9 hCn
      obtain ⟨ta,tc,hvt,_⟩:=HCn.out.t.form
      obtain ⟨xa,xc,hvx,_⟩:=HCn.out.x.form
      obtain ⟨ba,bc,hvb,_⟩:=HCn.out.b.form
      obtain ⟨ra,rc,hvr,_⟩:=HCn.out.r.form
      subst hvt
      subst hvx
      subst hvb
      subst hvr
      obtain ⟨W4,hW4⟩:∃ W,wr.alloc (.cells #[.int .i64 X.kind,.int .i64 X.op,.slice ta X.terms.length tc,.int .i64 X.k,.int .i64 X.v,.int .i64 X.x,.int .i64 X.y,.slice xa X.xs.length xc,.slice ba X.table.length bc,.slice ra X.rows.length rc] 61)=W:=⟨_,rfl⟩
      have HP4:Hid (yf w.heap.size w2.heap.size (.slice va m.vars.length vp) (Md.varsT m.vars++Md.consT m.vars (m.cons.take n)) W4):=by show yf _ _ _ _ _;rw [<-hW4];exact yj hP.out _
      have HK4:Hid (Kq w.heap.size W3 W4):=by show Kq _ _ _;rw [<-hW4];exact Yb hK.out (HWy.out W3 (Kq.refl _ _)).low.size _
      have HC4:Hid (Calls Tryz.prog 23 #[.pointer (some ⟨w2.heap.size,0,none⟩),.agg #[.string ⟨#[]⟩,.int .i64 0,.int .i64 0,.int .i64 X.kind,.int .i64 X.op,.slice ta X.terms.length tc,.int .i64 X.k,.int .i64 X.v,.int .i64 X.x,.int .i64 X.y,.slice xa X.xs.length xc,.slice ba X.table.length bc,.slice ra X.rows.length rc]] W4 fun e w'=>e=.returned (.tuple #[])/\yf w.heap.size w2.heap.size (.slice va m.vars.length vp) (Md.varsT m.vars++Md.consT m.vars (m.cons.take n)++Md.conT m.vars X++[10]) w'/\Kq w.heap.size W4 w'):=
       y3f m.vars w2.heap.size _ _ X _ _ _ _ W4 HVs.out HNm.out (HWy.out W4 HK4.out) HCn.out HX.out.1 HX.out.2 HP4.out (by
        have h1:=HCL.out n
        have h2:=HVL.out m.vars.length
        rw [List.take_of_length_le (Nat.le_refl _)] at h2
        rw [List.length_append]
        omega)
      have hO4:W4.heap[wr.heap.size]?=some (.cells #[.int .i64 X.kind,.int .i64 X.op,.slice ta X.terms.length tc,.int .i64 X.k,.int .i64 X.v,.int .i64 X.x,.int .i64 X.y,.slice xa X.xs.length xc,.slice ba X.table.length bc,.slice ra X.rows.length rc] 61):=by rw [<-hW4];exact heap_alloc_new wr _
      have r0:W4.cell? ⟨wr.heap.size,0,none⟩=some (.int .i64 X.kind):=by rw [Lib.cell_of_heap hO4];rfl
      have r1:W4.cell? ⟨wr.heap.size,1,none⟩=some (.int .i64 X.op):=by rw [Lib.cell_of_heap hO4];rfl
      have r2:W4.cell? ⟨wr.heap.size,2,none⟩=some (.slice ta X.terms.length tc):=by rw [Lib.cell_of_heap hO4];rfl
      have r3:W4.cell? ⟨wr.heap.size,3,none⟩=some (.int .i64 X.k):=by rw [Lib.cell_of_heap hO4];rfl
      have r4:W4.cell? ⟨wr.heap.size,4,none⟩=some (.int .i64 X.v):=by rw [Lib.cell_of_heap hO4];rfl
      have r5:W4.cell? ⟨wr.heap.size,5,none⟩=some (.int .i64 X.x):=by rw [Lib.cell_of_heap hO4];rfl
      have r6:W4.cell? ⟨wr.heap.size,6,none⟩=some (.int .i64 X.y):=by rw [Lib.cell_of_heap hO4];rfl
      have r7:W4.cell? ⟨wr.heap.size,7,none⟩=some (.slice xa X.xs.length xc):=by rw [Lib.cell_of_heap hO4];rfl
      have r8:W4.cell? ⟨wr.heap.size,8,none⟩=some (.slice ba X.table.length bc):=by rw [Lib.cell_of_heap hO4];rfl
      have r9:W4.cell? ⟨wr.heap.size,9,none⟩=some (.slice ra X.rows.length rc):=by rw [Lib.cell_of_heap hO4];rfl
      clear hO4
      go_wp2_with (go_at_call 23;refine cZ HC4.out ?_;rintro e w5 ⟨rfl,hp5,hk5⟩;have HP6:Hid (yf w.heap.size w2.heap.size (.slice va m.vars.length vp) (Md.varsT m.vars++Md.consT m.vars (m.cons.take (n+1))) w5):=(by show yf _ _ _ _ _;rw [HR.out,<-List.append_assoc,<-List.append_assoc];exact hp5);have HK5:Hid (Kq w.heap.size W3 w5):=HK4.out.trans hk5;clear hp5 hk5)
      go_roundw
      case rel=>exact ⟨n+1,by go_num,by omega,HP6,HK5⟩
      case measure=>simp [intOf];omega
     ·have hnI:¬ (n:Int)<(m.cons.length:Int):=by omega
      have HP6:Hid (yf w.heap.size w2.heap.size (.slice va m.vars.length vp) (Md.varsT m.vars++Md.consT m.vars m.cons) wr):=by
       have:=hP.out
       rw [List.take_of_length_le (by omega)] at this
       exact this
      have HN6:Hid (wr.heap[w.heap.size]?=some (.cells #[.slice va m.vars.length vp,.slice ca m.cons.length cp,.bool m.has,.slice ga m.goal.length gp] 26)):=X7 HN3.out hK.out
      obtain ⟨⟨q0,q1,q2,q3⟩,_⟩:=box4 HN6.out
      rename World=>wc
      have HKc:Hid (Kq w.heap.size W3 wc):=hK.out
      clear hP hK
      have HG:Hid (m.goal.length<=64/\(∀ t∈m.goal,0<=t.2/\t.2<(m.vars.length:Int))/\∀ t∈m.goal,-1000000<=t.1/\t.1<=1000000):=by
       have h1:=Md.goal_of HRi.out.goal
       exact ⟨h1.2.1,h1.2.2.1,fun t ht=>(h1.2.2.2 t ht).2⟩
      have HS6:Hid ((Md.varsT m.vars++Md.consT m.vars m.cons).length<=500000000):=by
       have h1:=HCL.out m.cons.length
       have h2:=HVL.out m.vars.length
       rw [List.take_of_length_le (Nat.le_refl _)] at h1 h2
       show _<=_
       rw [List.length_append]
       omega
      have HNe:Hid (Md.textT m≠[]):=by
       have:=y3x HRi.out.nv.1
       show _≠_
       unfold Md.textT
       simp [this]
      cases hh:m.has
      ·have HPt:Hid (yf w.heap.size w2.heap.size (.slice va m.vars.length vp) (Md.textT m) wc):=by
        have:=HP6.out
        show yf _ _ _ _ _
        unfold Md.textT Md.goalT
        rw [hh]
        simpa using this
       rw [hh] at q2
       have HLn:Hid (Calls Tryz.prog 24 #[.pointer (some ⟨w2.heap.size,1,none⟩)] wc fun e w'=>e=.returned (.int .i64 (Md.textT m).length)/\w'=wc):=QB _ _ _ _ wc HPt.out
       have HSt:Hid (Calls Tryz.prog 25 #[.pointer (some ⟨w2.heap.size,1,none⟩)] wc fun e w'=>e=.returned (.string ⟨(Md.textT m).toArray⟩)/\Below w.heap.size wc w'):=QC _ _ _ _ wc HPt.out HNe.out
       have HLow:Hid (Below w.heap.size w wc):=(HWy.out wc HKc.out).low
       generalize Md.textT m=TT at *
       by_cases hlong:65536<TT.length
       ·have hlI:(65536:Int)<(TT.length:Int):=by omega
        have HE:Hid (Md.print m=([],50)):=HP1.out hlong
        go_wp2_with (go_at_call 24;refine cZ HLn.out ?_;rintro e w9 ⟨rfl,hww⟩;rw [hww];clear hww)
        go_ret2
        exact ⟨(by rw [HE.out];rfl),HLow.out⟩
       ·have hlI:¬ (65536:Int)<(TT.length:Int):=by omega
        have HE:Hid (Md.print m=(TT,0)):=HP2.out hlong
        go_wp2_with (first
         | (go_at_call 24;refine cZ HLn.out ?_;rintro e w9 ⟨rfl,hww⟩;rw [hww];clear hww)
         | (go_at_call 25;refine cZ HSt.out ?_;rintro e w10 ⟨rfl,hb10⟩))
        go_ret2
        exact ⟨(by rw [HE.out];rfl),HLow.out.trans hb10⟩
      ·have HC7:Hid (Calls Tryz.prog 23 #[.pointer (some ⟨w2.heap.size,0,none⟩),.agg #[.string ⟨#[]⟩,.int .i64 0,.int .i64 0,.int .i64 11,.int .i64 0,.slice ga m.goal.length gp,.int .i64 0,.int .i64 0,.int .i64 0,.int .i64 0,.slice none 0 0,.slice none 0 0,.slice none 0 0]] wc fun e w'=>e=.returned (.tuple #[])/\yf w.heap.size w2.heap.size (.slice va m.vars.length vp) (Md.varsT m.vars++Md.consT m.vars m.cons++(109 :: 105 :: 110 :: 105 :: 109 :: 105 :: 122 :: 101 :: Md.sumT m.vars m.goal)++[10]) w'/\Kq w.heap.size wc w'):=
        y3i m.vars w2.heap.size _ _ m.goal _ wc HVs.out HNm.out (HWy.out wc HKc.out) HM.out.g HG.out.2.1 HG.out.2.2 HG.out.1 HP6.out HS6.out
       have HTx:Hid (Md.varsT m.vars++Md.consT m.vars m.cons++(109 :: 105 :: 110 :: 105 :: 109 :: 105 :: 122 :: 101 :: Md.sumT m.vars m.goal)++[10]=Md.textT m):=by
        show _=_
        unfold Md.textT Md.goalT
        rw [hh]
        simp
       rw [hh] at q2
       go_upto_region 17 with (go_at_call 23;refine cZ HC7.out ?_;rintro e w7 ⟨rfl,hp7,hk7⟩)
       have HPt:Hid (yf w.heap.size w2.heap.size (.slice va m.vars.length vp) (Md.textT m) w7):=by
        show yf _ _ _ _ _
        rw [<-HTx.out]
        exact hp7
       have HKt:Hid (Kq w.heap.size W3 w7):=HKc.out.trans hk7
       clear hp7 hk7 HTx HC7
       have HLn:Hid (Calls Tryz.prog 24 #[.pointer (some ⟨w2.heap.size,1,none⟩)] w7 fun e w'=>e=.returned (.int .i64 (Md.textT m).length)/\w'=w7):=QB _ _ _ _ w7 HPt.out
       have HSt:Hid (Calls Tryz.prog 25 #[.pointer (some ⟨w2.heap.size,1,none⟩)] w7 fun e w'=>e=.returned (.string ⟨(Md.textT m).toArray⟩)/\Below w.heap.size w7 w'):=QC _ _ _ _ w7 HPt.out HNe.out
       have HLow:Hid (Below w.heap.size w w7):=(HWy.out w7 HKt.out).low
       generalize Md.textT m=TT at *
       by_cases hlong:65536<TT.length
       ·have hlI:(65536:Int)<(TT.length:Int):=by omega
        have HE:Hid (Md.print m=([],50)):=HP1.out hlong
        go_wp2_with (go_at_call 24;refine cZ HLn.out ?_;rintro e w9 ⟨rfl,hww⟩;rw [hww];clear hww)
        go_ret2
        exact ⟨(by rw [HE.out];rfl),HLow.out⟩
       ·have hlI:¬ (65536:Int)<(TT.length:Int):=by omega
        have HE:Hid (Md.print m=(TT,0)):=HP2.out hlong
        go_wp2_with (first
         | (go_at_call 24;refine cZ HLn.out ?_;rintro e w9 ⟨rfl,hww⟩;rw [hww];clear hww)
         | (go_at_call 25;refine cZ HSt.out ?_;rintro e w10 ⟨rfl,hb10⟩))
        go_ret2
        exact ⟨(by rw [HE.out];rfl),HLow.out.trans hb10⟩
end Go.Proofs.YthohnmplbjhjaaaGreatDoor
