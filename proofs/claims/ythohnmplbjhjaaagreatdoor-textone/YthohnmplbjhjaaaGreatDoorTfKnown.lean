import Derived.Test.YthohnmplbjhjaaaGreatDoorJ39
import Derived.Test.YthohnmplbjhjaaaGreatDoorJ40
namespace Go.Proofs.YthohnmplbjhjaaaGreatDoor
open Go Go.RowKit Go.Shelf Go.Lib
theorem Qn {s:List UInt8} {m:Md.Mo} (h:yJ s=(m,(0,0))) (hs:s.length<=1000000) (w:World) (hw:Way w w):Calls Tryz.prog 13 #[.string (yc s)] w fun e w'=>∃ vv vc vg,e=.returned (.tuple #[.agg #[vv,vc,.bool m.has,vg],.nilIface])/\MoAt w' m vv vc vg/\Below w.heap.size w w':=by
 have:=X0 s w hw hs
 rw [h] at this
 refine this.mono fun e w' hp=>?_
 obtain ⟨hb,⟨_,_,vv,vc,vg,he,hM⟩ | ⟨h0,_⟩⟩:=hp
 ·exact ⟨vv,vc,vg,he,hM,hb⟩
 ·exact absurd rfl h0
theorem y2p {w:World} {m:Md.Mo} {vv vc vg:Value} (h:MoAt w m vv vc vg):∃ av cv ac cc ag cg,vv=.slice av m.vars.length cv/\vc=.slice ac m.cons.length cc/\vg=.slice ag m.goal.length cg:=by
 obtain ⟨a1,c1,h1,_⟩:=h.v.form
 obtain ⟨a2,c2,h2,_⟩:=h.c.form
 obtain ⟨a3,c3,h3,_⟩:=h.g.form
 exact ⟨a1,c1,a2,c2,a3,c3,h1,h2,h3⟩
theorem y2q {w:World} {vv vc vg:Value} (h:MoAt w knM1 vv vc vg):∃ bv ov cv bc oc cc ag cg bt ot ct,vv=.slice (some ⟨bv,ov,none⟩) 2 cv/\vc=.slice (some ⟨bc,oc,none⟩) 5 cc/\vg=.slice ag 2 cg /\
  w.cell? ⟨bv,ov+3+1,none⟩=some (.int .i64 (-1))/\w.cell? ⟨bc,oc+3,none⟩=some (.int .i64 4)/\w.cell? ⟨bc,oc+20+8,none⟩=some (.slice (some ⟨bt,ot,none⟩) 2 ct)/\w.cell? ⟨bt,ot,none⟩=some (.int .i64 2)/\bv<w.heap.size/\bc<w.heap.size/\bt<w.heap.size:=by
 obtain ⟨a1,c1,h1,_,_,hv⟩:=h.v
 obtain ⟨bv,ov,rfl,hbv,hv⟩:=hv (by decide)
 obtain ⟨a2,c2,h2,_,hc⟩:=h.c
 obtain ⟨bc,oc,rfl,hbc,hc⟩:=hc (by decide)
 obtain ⟨a3,c3,h3,_⟩:=h.g
 obtain ⟨_,_,_,_,_,hc0⟩:=hc 0 (by decide)
 obtain ⟨_,_,vb,_,hcn,hc2⟩:=hc 2 (by decide)
 obtain ⟨a4,c4,h4,_,ht⟩:=hcn.b
 obtain ⟨bt,ot,rfl,hbt,ht⟩:=ht (by decide)
 have k3:=hc0.2.2.2.1
 have k8:=hc2.2.2.2.2.2.2.2.2.1
 rw [h4] at k8
 exact ⟨bv,ov,c1,bc,oc,c2,a3,c3,bt,ot,c4,h1,h2,h3,(hv 1 (by decide)).2.1,k3,k8,ht 0 (by decide),hbv,hbc,hbt⟩
theorem y2r {w:World} {vv vc vg:Value} (h:MoAt w knM2 vv vc vg):∃ av cv bc oc cc ag cg br og cr bq oq cq ax cx,vv=.slice av 2 cv/\vc=.slice (some ⟨bc,oc,none⟩) 2 cc/\vg=.slice ag 0 cg /\
  w.cell? ⟨bc,oc+9,none⟩=some (.slice (some ⟨br,og,none⟩) 2 cr)/\w.cell? ⟨br,og+1,none⟩=some (.slice (some ⟨bq,oq,none⟩) 2 cq)/\w.cell? ⟨bq,oq+1,none⟩=some (.int .i64 (-1)) /\
  w.cell? ⟨bc,oc+10+3,none⟩=some (.int .i64 2)/\w.cell? ⟨bc,oc+10+4,none⟩=some (.int .i64 (-1))/\w.cell? ⟨bc,oc+10+7,none⟩=some (.slice ax 3 cx)/\bc<w.heap.size/\br<w.heap.size/\bq<w.heap.size:=by
 obtain ⟨a1,c1,h1,_⟩:=h.v.form
 obtain ⟨a2,c2,h2,_,hc⟩:=h.c
 obtain ⟨bc,oc,rfl,hbc,hc⟩:=hc (by decide)
 obtain ⟨a3,c3,h3,_⟩:=h.g.form
 obtain ⟨_,_,_,vr,hcn0,hc0⟩:=hc 0 (by decide)
 obtain ⟨_,vx,_,_,hcn1,hc1⟩:=hc 1 (by decide)
 obtain ⟨a4,c4,h4,_,ht⟩:=hcn0.r
 obtain ⟨br,og,rfl,hbr,ht⟩:=ht (by decide)
 obtain ⟨u,hu,hI⟩:=ht 1 (by decide)
 obtain ⟨a5,c5,h5,_,hI⟩:=hI
 obtain ⟨bq,oq,rfl,hbq,hI⟩:=hI (by decide)
 obtain ⟨a6,c6,h6,_⟩:=hcn1.x
 have k9:=hc0.2.2.2.2.2.2.2.2.2
 rw [h4] at k9
 rw [h5] at hu
 have k7:=hc1.2.2.2.2.2.2.2.1
 rw [h6] at k7
 exact ⟨a1,c1,bc,oc,c2,a3,c3,br,og,c4,bq,oq,c5,a6,c6,h1,h2,h3,k9,hu,hI 1 (by decide),hc1.2.2.2.1,hc1.2.2.2.2.1,k7,hbc,hbr,hbq⟩
theorem y2s {W7 W8 w9 w10:World} {J:Nat} {c:Array Value} {t:TypeId} (h0:Below W7.heap.size W7 W8) (h:W8.heap[J]?=some (.cells c t (0,0))) (h9:Below W8.heap.size W8 w9) (h10:Below w9.heap.size w9 w10):Below W7.heap.size W7 w10/\w10.heap[J]?=some (.cells c t (0,0)):=by
 have hb:=h9.trans (h10.mono h9.size)
 exact ⟨h0.trans (hb.mono h0.size),(hb.block J (Array.getElem?_eq_some_iff.1 h).1).trans h⟩
def Zh:Array Value:=#[.string ⟨#[108,105,110,32,60,32,52,32,49,32,120]⟩,.int .i64 51,.string ⟨#[108,105,110,32,60,61,32,48,52,32,49,32,120]⟩,.int .i64 53,.string ⟨#[108,105,110,32,60,61,32,52,32,49]⟩,.int .i64 52,.string ⟨#[108,105,110,32,60,61,32,52,32,48,32,120]⟩,.int .i64 45,.string ⟨#[108,105,110,32,60,61,32,52,32,49,32,122]⟩,.int .i64 56,.string ⟨#[110,101,32,120,32,120,32,48,32,48]⟩,.int .i64 57,.string ⟨#[116,97,98,108,101,32,120,32,58,32,49,32,50]⟩,.int .i64 51,.string ⟨#[116,97,98,108,101,32,120,32,120,32,58,32,49]⟩,.int .i64 52,.string ⟨#[116,97,98,108,101,32,120]⟩,.int .i64 52,.string ⟨#[99,111,117,110,116,32,61,32,49,32,50]⟩,.int .i64 52,.string ⟨#[118,97,114,32,120,32,49,32,50]⟩,.int .i64 55,.string ⟨#[118,97,114,32,121,32,51,32,50]⟩,.int .i64 42]
theorem y2t:∀ i,i<12->Zh[i * 2]?=some (.string (yc (knBad.getD i ([],0)).1))/\Zh[i * 2+1]?=some (.int .i64 (knBad.getD i ([],0)).2)/\(knBad.getD i ([],0)).1.length<=100/\(knBad.getD i ([],0)).2≠0:=by
 intro i h'
 rcases (by omega:i=0∨i=1∨i=2∨i=3∨i=4∨i=5∨i=6∨i=7∨i=8∨i=9∨i=10∨i=11) with rfl | rfl | rfl | rfl | rfl | rfl | rfl | rfl | rfl | rfl | rfl | rfl <;> exact ⟨rfl,rfl,by decide,by decide⟩
set_option maxRecDepth 100000 in
set_option maxHeartbeats 4000000 in
theorem known_any (w:World) (hw:Way w w):Calls Tryz.prog 11 #[] w (KnO w):=by
 have H1:Hid (Calls Tryz.prog 13 #[.string (yc kn1)] w fun e w'=>∃ vv vc vg,e=.returned (.tuple #[.agg #[vv,vc,.bool true,vg],.nilIface])/\MoAt w' knM1 vv vc vg/\Below w.heap.size w w'):=Qn kn_1 (by decide) w hw
 have H2:Hid (∀ w',Way w' w'->Calls Tryz.prog 13 #[.string (yc kn2)] w' fun e w''=>∃ vv vc vg,e=.returned (.tuple #[.agg #[vv,vc,.bool false,vg],.nilIface])/\MoAt w'' knM2 vv vc vg/\Below w'.heap.size w' w''):=fun w' h'=>Qn kn_2 (by decide) w' h'
 obtain ⟨TX,hTX⟩:∃ TX:ByteArray,⟨(Md.print knM1).1.toArray⟩=TX:=⟨_,rfl⟩
 have HPr:Hid (∀ w' vv vc vg,MoAt w' knM1 vv vc vg->Way w' w'->Calls Tryz.prog 12 #[.agg #[vv,vc,.bool true,vg]] w' fun e w''=>e=.returned (.tuple #[.string TX,.int .i64 0])/\Below w'.heap.size w' w''):=fun w' vv vc vg hM hT=>by
  have:=y2u knM1 vv vc vg w' hM hT
  rw [hTX,kn_print.1] at this
  exact this
 have HTX:Hid (60<TX.size/\TX.extract 0 10=yc knHead):=by
  rw [<-hTX]
  refine ⟨?_,?_⟩
  ·show 60<(Md.print knM1).1.toArray.size
   rw [List.size_toArray]
   exact kn_print.2.1
  ·apply ByteArray.ext
   have:=kn_print.2.2
   simp [yc,<-this]
 have HW:Hid (Way w w):=hw
 clear hw hTX
 unfold yc kn1 at H1
 unfold yc kn2 at H2
 go_enter Tryz.func11,Tryz.ntmps11
 go_wp2_with (first
  | (go_at_call 13;refine cZ H1.out ?_;rintro e w1 ⟨vv,vc,vg,rfl,hM,hb1⟩;obtain ⟨bv,ov,cv,bc,oc,cc,ag,cg,bt,ot,ct,rfl,rfl,rfl,k1,k2,k3,k4,l1,l2,l3⟩:=y2q hM;(have HM1:Hid (Below w.heap.size w w1):=hb1);clear hb1)
  | (refine wpList_store_row rfl 26 _ _ rfl w1.heap.size _ rfl rfl 26 _ (heap_alloc_new _ _) (zO _ _ _ _) (by rfl) (by kernel_rfl) ?_;rw [xL])
  | (go_at_call 13;obtain ⟨W2,hW2⟩:∃ W2,w1.alloc (.cells #[.slice (some ⟨bv,ov,none⟩) 2 cv,.slice (some ⟨bc,oc,none⟩) 5 cc,.bool true,.slice ag 2 cg] 26)=W2:=⟨_,rfl⟩;obtain ⟨G1,hG1⟩:∃ G1,w1.heap.size=G1:=⟨_,rfl⟩;rw [hW2];try rw [hG1];(have H3:Hid (Below w.heap.size w W2/\W2.heap[G1]?=some (.cells #[.slice (some ⟨bv,ov,none⟩) 2 cv,.slice (some ⟨bc,oc,none⟩) 5 cc,.bool true,.slice ag 2 cg] 26 (0,0))/\MoAt W2 knM1 (.slice (some ⟨bv,ov,none⟩) 2 cv) (.slice (some ⟨bc,oc,none⟩) 5 cc) (.slice ag 2 cg)):=⟨(by rw [<-hW2];exact HM1.out.alloc HM1.out.size _),(by rw [<-hW2,<-hG1];exact heap_alloc_new w1 _),(by rw [<-hW2];exact hM.below ((Below.refl _ _).alloc (Nat.le_refl _) _))⟩);clear hW2 hG1 hM k1 k2 k3 k4 l1 l2 l3;refine cZ (H2.out W2 (xm HW.out H3.out.1)) ?_;rintro e w3 ⟨vv2,vc2,vg2,rfl,hM2,hb3⟩;obtain ⟨av2,cv2,bc2,oc2,cc2,ag2,cg2,br,og,cr,bq,oq,cq,ax,cx,rfl,rfl,rfl,j1,j2,j3,j4,j5,j6,l1,l2,l3⟩:=y2r hM2;(have H4:Hid (Below w.heap.size w w3/\w3.heap[G1]?=some (.cells #[.slice (some ⟨bv,ov,none⟩) 2 cv,.slice (some ⟨bc,oc,none⟩) 5 cc,.bool true,.slice ag 2 cg] 26 (0,0))/\MoAt w3 knM1 (.slice (some ⟨bv,ov,none⟩) 2 cv) (.slice (some ⟨bc,oc,none⟩) 5 cc) (.slice ag 2 cg)):=⟨H3.out.1.trans (hb3.mono H3.out.1.size),(hb3.block _ (Array.getElem?_eq_some_iff.1 H3.out.2.1).1).trans H3.out.2.1,H3.out.2.2.below hb3⟩);clear hM2 hb3;have q0:=yd H4.out.2.1 0;have q1:=yd H4.out.2.1 1;have q2:=yd H4.out.2.1 2;have q3:=yd H4.out.2.1 3;have qg:=(Array.getElem?_eq_some_iff.1 H4.out.2.1).1)
  | (refine wpList_store_row rfl 26 _ _ rfl w3.heap.size _ rfl rfl 26 _ (heap_alloc_new _ _) (zO _ _ _ _) (by rfl) (by kernel_rfl) ?_;rw [xL])
  | (go_at_call 12;obtain ⟨W5,hW5⟩:∃ W5,w3.alloc (.cells #[.slice av2 2 cv2,.slice (some ⟨bc2,oc2,none⟩) 2 cc2,.bool false,.slice ag2 0 cg2] 26)=W5:=⟨_,rfl⟩;rw [hW5];(have H5:Hid (Below w.heap.size w W5/\MoAt W5 knM1 (.slice (some ⟨bv,ov,none⟩) 2 cv) (.slice (some ⟨bc,oc,none⟩) 5 cc) (.slice ag 2 cg)):=⟨(by rw [<-hW5];exact H4.out.1.alloc H4.out.1.size _),(by rw [<-hW5];exact H4.out.2.2.below ((Below.refl _ _).alloc (Nat.le_refl _) _))⟩);clear hW5 q0 q1 q2 q3 qg j1 j2 j3 j4 j5 j6 l1 l2 l3;refine cZ (HPr.out W5 _ _ _ H5.out.2 (xm HW.out H5.out.1)) ?_;rintro e w6 ⟨rfl,hb6⟩;(have H6:Hid (Below w.heap.size w w6):=H5.out.1.trans (hb6.mono H5.out.1.size));clear hb6))
 obtain ⟨W7,hW7⟩:∃ W7,w6.alloc (.cells #[.string ⟨#[108,105,110,32,60,32,52,32,49,32,120]⟩,.int .i64 51,.string ⟨#[108,105,110,32,60,61,32,48,52,32,49,32,120]⟩,.int .i64 53,.string ⟨#[108,105,110,32,60,61,32,52,32,49]⟩,.int .i64 52,.string ⟨#[108,105,110,32,60,61,32,52,32,48,32,120]⟩,.int .i64 45,.string ⟨#[108,105,110,32,60,61,32,52,32,49,32,122]⟩,.int .i64 56,.string ⟨#[110,101,32,120,32,120,32,48,32,48]⟩,.int .i64 57,.string ⟨#[116,97,98,108,101,32,120,32,58,32,49,32,50]⟩,.int .i64 51,.string ⟨#[116,97,98,108,101,32,120,32,120,32,58,32,49]⟩,.int .i64 52,.string ⟨#[116,97,98,108,101,32,120]⟩,.int .i64 52,.string ⟨#[99,111,117,110,116,32,61,32,49,32,50]⟩,.int .i64 52,.string ⟨#[118,97,114,32,120,32,49,32,50]⟩,.int .i64 55,.string ⟨#[118,97,114,32,121,32,51,32,50]⟩,.int .i64 42] 63)=W7:=⟨_,rfl⟩
 rw [hW7]
 obtain ⟨BB,hBB⟩:∃ BB,w6.heap.size=BB:=⟨_,rfl⟩
 have H7:Hid (Below w.heap.size w W7/\W7.heap[BB]?=some (.cells Zh 63 (0,0))):=⟨by rw [<-hW7];exact H6.out.alloc H6.out.size _,by rw [<-hW7,<-hBB];exact heap_alloc_new w6 _⟩
 try rw [hBB]
 clear hW7 hBB
 go_loopw [136] (fun v wr=>∃ i:Nat,v=.int .i64 (i:Int)/\i<=12/\Hid (Below W7.heap.size W7 wr)) (fun v _=>(12-RowKit.intOf v).toNat)
 case atStart=>exact ⟨0,rfl,by omega,Below.refl _ _⟩
 case round=>
  obtain ⟨i,rfl,hi,HBl⟩:=hrel
  by_cases hil:i<12
  ·have hwr:wr.heap[BB]?=some (.cells Zh 63 (0,0)):=(HBl.out.block _ (Array.getElem?_eq_some_iff.1 H7.out.2).1).trans H7.out.2
   obtain ⟨q1,q2,q3,q4⟩:=y2t i hil
   have hp:=y2o i hil
   obtain ⟨b,hb⟩:∃ b,knBad.getD i ([],0)=b:=⟨_,rfl⟩
   rw [hb] at q1 q2 q3 q4 hp
   obtain ⟨bl,be⟩:=b
   have HPb:Hid (∀ w',Way w' w'->Calls Tryz.prog 13 #[.string (⟨#[118,97,114,32,120,32,48,32,51,10]⟩++yc bl)] w' (PO (zm,(2,be)) w')):=fun w' h'=>by
    have h1:=X0 (knHead++bl) w' h' (by have:knHead.length=10:=rfl;simp only at q3;rw [List.length_append];omega)
    rw [hp] at h1
    have e1:yc (knHead++bl)=⟨#[118,97,114,32,120,32,48,32,51,10]⟩++yc bl:=by
     apply ByteArray.ext
     simp [yc,knHead]
    rw [e1] at h1
    exact h1
   have hBs:(yc bl).size<=100:=by rw [zL];exact q3
   obtain ⟨Bx,hBx⟩:∃ Bx,yc bl=Bx:=⟨_,rfl⟩
   rw [hBx] at HPb hBs
   have c0:wr.cell? ⟨BB,i * 2,none⟩=some (.string Bx):=by rw [yd hwr,<-hBx];exact q1
   have c1:wr.cell? ⟨BB,i * 2+1,none⟩=some (.int .i64 be):=by rw [yd hwr];exact q2
   have hbb:=(Array.getElem?_eq_some_iff.1 hwr).1
   have HE:Hid (be≠0):=q4
   have HWr:Hid (Way wr wr):=xm (xm HW.out H7.out.1) HBl.out
   have h1:decide ((i:Int)<12)=true:=decide_eq_true (by omega)
   have hiI:(i:Int)<12:=by omega
   have hz:¬ 9223372036854775807<10+Bx.size:=by omega
   clear hp hb q1 q2 q3 q4 hBx hwr
   have hbe:(be==be)=true:=by simp
   go_wp2_with (first
    | (go_at_call 13;obtain ⟨W8,hW8⟩:∃ W8,wr.alloc (.cells #[.string Bx,.int .i64 be] 63)=W8:=⟨_,rfl⟩;obtain ⟨J,hJ⟩:∃ J,wr.heap.size=J:=⟨_,rfl⟩;rw [hW8];try rw [hJ];(have H8:Hid (Below W7.heap.size W7 W8/\W8.heap[J]?=some (.cells #[.string Bx,.int .i64 be] 63 (0,0))/\Way W8 W8):=⟨(by rw [<-hW8];exact HBl.out.alloc HBl.out.size _),(by rw [<-hW8,<-hJ];exact heap_alloc_new wr _),(by rw [<-hW8];exact xm HWr.out ((Below.refl _ _).alloc (Nat.le_refl _) _))⟩);clear hW8 hJ c0 c1 hbb;refine cZ (HPb.out W8 H8.out.2.2) ?_;intro e w9 hp;obtain ⟨cs,it,rfl,_,_,hb2,hit⟩:=y2v hp;obtain ⟨F,hit',hF⟩:=(hit.resolve_left (fun h=>HE.out h.1)).2;subst hit';clear hit hp;(have H9:Hid (w9.heap[F]?=some (.cells #[.int .i64 1,.int .i64 2,.int .i64 be] 44 (0,0))/\Below W8.heap.size W8 w9):=⟨hF,hb2⟩);clear hF hb2)
    | (go_at_call 17;refine cZ (Qo F 2 be w9 H9.out.1 HE.out) ?_;rintro e w10 ⟨rfl,hb10⟩;(have H10:Hid (Below W7.heap.size W7 w10/\w10.heap[J]?=some (.cells #[.string Bx,.int .i64 be] 63 (0,0))):=y2s H8.out.1 H8.out.2.1 H9.out.2 hb10);have k1:=yd H10.out.2 1;have hJ10:=(Array.getElem?_eq_some_iff.1 H10.out.2).1;clear hb10))
   go_roundw
   case measure=>simp only [RowKit.intOf];omega
   case rel=>exact ⟨i+1,by simp,by omega,H10.out.1.alloc H10.out.1.size _⟩
  ·have hie:i=12:=by omega
   subst hie
   obtain ⟨t1,t2⟩:=HTX.out
   have h1:decide ((60:Int)<(TX.size:Int))=true:=decide_eq_true (by omega)
   have h2:((TX.extract 0 10).toList==[118,97,114,32,120,32,48,32,51,10])=true:=by
    rw [t2]
    kernel_rfl
   have h3:(10:Int)<=(TX.size:Int):=by omega
   clear t2
   go_wp2_with fail
   go_ret
   exact ⟨rfl,H7.out.1.trans (HBl.out.mono H7.out.1.size)⟩
end Go.Proofs.YthohnmplbjhjaaaGreatDoor
