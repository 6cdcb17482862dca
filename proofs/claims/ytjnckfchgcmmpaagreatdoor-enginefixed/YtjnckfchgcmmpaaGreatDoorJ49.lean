import Derived.Test.YtjnckfchgcmmpaaGreatDoorJ05
import Derived.Test.YtjnckfchgcmmpaaGreatDoorJ48
import Derived.WalkMore
import Derived.Test.YtjnckfchgcmmpaaGreatDoorJ26
namespace Go.Proofs.YtjnckfchgcmmpaaGreatDoor
open Go.RowKit
set_option maxRecDepth 10000
set_option maxHeartbeats 8000000
def RunOut (K B p ep:Nat) (nv mv:Value) (rs:List (Md.Cn × Int)) (s0:St) (f0:Nat) (w:World) (e:Ending) (w':World):Prop:=
  ∃ acc f how s v,RunR (RuleR rs) rs.length s0 f0 acc f how s/\e=.returned (.tuple #[v,.int .i64 (f:Int),.int .i64 how])/\w'.ownsRow w.heap.size 60 7 v acc.length (tls acc)/\StAt B w' p nv mv s/\Off (fun b=>Own p nv mv b∨b=ep) w w'/\Below K w w'
theorem egRun_any (K B p ep:Nat) (hKB:K<=B) (hKe:K<=ep) (nv mv:Value) (s0:St) (w:World) (a:Option Addr) (cap:Nat) (rs:List (Md.Cn × Int)) (v1 v2 v3 v4 v5 v6 v7 v8 v9 v10:Value) (f0:Nat)
    (hE:w.heap[ep]?=some (.cells #[.slice a rs.length cap,v1,v2,v3,v4,v5,v6,v7,v8,v9,v10] 83 (0,0))) (hep:1<=ep) (heo:¬ Own p nv mv ep)
    (hR:∀ i (h:i<rs.length),Kept (fun b=>Own p nv mv b∨b=ep) w (fun w'=>RuAt w' a i rs[i])) (hx:∀ r∈rs,r.1.xs.length<=1000000) (hn:rs.length<=1000000) (hf:f0<=4611686018427387904)
    (hS:StAt B w p nv mv s0) (hA:Alls s0) (hT:Tz w) (hAcc:∀ d i f s acc,Reach (RuleR rs) rs.length s0 f0 d i f s acc->acc.length<=1000000) :
    Calls Tryz.prog 12 #[.pointer (some ⟨ep,0,none⟩),.pointer (some ⟨p,0,none⟩),.int .i64 (f0:Int)] w (RunOut K B p ep nv mv rs s0 f0 w):=by
  obtain ⟨W,hW⟩:∃ W,(((((((w.setCell ⟨ep,4,none⟩ (.int .i64 0)).setCell ⟨ep,5,none⟩ (.int .i64 0)).setCell ⟨ep,6,none⟩ (.int .i64 0)).setCell ⟨ep,7,none⟩ (.int .i64 0)).setCell ⟨ep,8,none⟩ (.int .i64 0)).setCell ⟨ep,9,none⟩ (.int .i64 0)).setCell ⟨ep,10,none⟩ (.slice none 0 0))=W:=⟨_,rfl⟩;have gW:W.heap[ep]?=some (.cells #[.slice a rs.length cap,v1,v2,v3,.int .i64 0,.int .i64 0,.int .i64 0,.int .i64 0,.int .i64 0,.int .i64 0,.slice none 0 0] 83 (0,0)):=by rw [<-hW];exact set11 hE _ _ _ _ _ _ _
  have hoW:Off (fun b=>b=ep) w W:=by rw [<-hW];exact off_set11 (S:=fun b=>b=ep) rfl _ _ _ _ _ _ _
  have HBW:Hid (Below K w W):=by
    show Below _ _ _;rw [<-hW];exact below_set11 (Below.refl _ _) hKe _ _ _ _ _ _ _
  have HKl:Hid (K<=w.heap.size/\K<=B/\K<=ep):=⟨Nat.le_trans hKe (Nat.le_of_lt (hLt hE)),hKB,hKe⟩;have HOW:Hid (Off (fun b=>Own p nv mv b∨b=ep) w W):=hoW.less fun _=>.inr
  have HRW:Hid (∀ i (h:i<rs.length) w',Off (Own p nv mv) W w'->RuAt w' a i rs[i]):=fun i h w' ho=>hR i h w' ((hoW.less fun _=>.inr).trans (ho.less fun _=>.inl))
  have HSW:Hid (StAt B W p nv mv s0):=hS.keep fun k hk ho=>hoW.block k hk (fun e=>heo (by rw [<-e];exact ho))
  have hw0:0<w.heap.size:=Nat.lt_of_le_of_lt (Nat.zero_le p) hS.lt;have HTW:Hid (Tz W):=hT.off (hoW) (by omega) hw0;have HWs:Hid (w.heap.size<=W.heap.size/\0<W.heap.size):=⟨hoW.size,Nat.lt_of_lt_of_le hw0 hoW.size⟩;have HGW:Hid (∀ w',Off (Own p nv mv) W w'->w'.heap[ep]?=some (.cells #[.slice a rs.length cap,v1,v2,v3,.int .i64 0,.int .i64 0,.int .i64 0,.int .i64 0,.int .i64 0,.int .i64 0,.slice none 0 0] 83 (0,0))):=fun w' ho=>(ho.block ep (hLt gW) heo).trans gW
  have HO1:Hid (∀ k,Own p nv mv k->1<=k/\k<w.heap.size):=fun k hk=>⟨Nat.le_trans hS.b1 (hS.old hk).2,(hS.old hk).1⟩
  have HX:Hid (∀ r∈rs,r.1.xs.length<=1000000):=hx;have HA:Hid (Alls s0):=hA;have HAc:Hid (∀ d i f s acc,Reach (RuleR rs) rs.length s0 f0 d i f s acc->acc.length<=1000000):=hAcc;obtain ⟨z4,z5,z6,z7,z8,z9,z10⟩:=frozen11 hE;obtain ⟨e0,e4,e5,e6,e7,e8,e9,e10⟩:=cells11 hE;have HEp:Hid (ep<w.heap.size/\¬ Own p nv mv ep):=⟨(hLt hE),heo⟩;obtain ⟨n,hnn⟩:∃ n,rs.length=n:=⟨_,rfl⟩;have HN:Hid (rs.length=n):=hnn;rw [hnn] at hn gW HGW HAc;clear hE heo hR hx hS hA hT hAcc hoW hw0 gW hep hnn hKB hKe;have hmx:max (f0:Int) 0=(f0:Int):=by omega
  go_enter Tryz.func12,Tryz.ntmps12;go_wp2_with fail
  go_step3;go_upto_region 2 with fail
  try rw [hW]
  clear hW z4 z5 z6 z7 z8 z9 z10 e0 e4 e5 e6 e7 e8 e9 e10;go_wp2_with fail
  go_step3;go_wp2_with fail
  go_loopw [2,9,10,11] (fun fv av dv hv wr=>∃ (f d:Nat) (s:St) (acc:List Tl),fv=.int .i64 (f:Int)/\dv=.int .i64 (d:Int)/\hv=.int .i64 1/\Hid (Reach (RuleR rs) n s0 f0 d 0 f s acc∨Reach (RuleR rs) n s0 f0 d n f s acc)/\Hid (wr.ownsRow W.heap.size 60 7 av acc.length (tls acc))/\Hid (StAt B wr p nv mv s)/\Hid (Alls s)/\Hid (Off (Own p nv mv) W wr)/\Hid (Below K w wr)) (fun fv _ _ _ _=>(intOf fv).toNat)
  case atStart=>exact ⟨f0,0,s0,[],rfl,rfl,rfl,.inl Reach.start,World.ownsRow_nil _ _ _ _,HSW,HA,Off.refl _ _,HBW⟩
  case round=>
  obtain ⟨F,d,s,acc,rfl,rfl,rfl,HHd,HRow,HSt,HAl,HOf,HBl⟩:=hrel;rename World=>wr;obtain ⟨aa,ac,rfl⟩:=own_slice HRow.out;have hle:d<=n:=HHd.out.elim (fun h=>h.le.1) (fun h=>h.le.1);have hFf:F<=f0:=HHd.out.elim (fun h=>h.le.2.2) (fun h=>h.le.2.2);have c0:wr.cell? ⟨ep,0,none⟩=some (.slice a n cap):=(cells11 (HGW.out wr HOf.out)).1
  by_cases hdn:d<n
  case neg=>
    have hde:d=n:=by omega
    subst hde;have hdI:¬ (d:Int)<(d:Int):=by omega
    go_wp2_with fail
    try rw [Exit.noGoto_ret]
    refine bodyPost_ret (v:=.tuple #[.slice aa acc.length ac,.int .i64 (F:Int),.int .i64 1]) (by simp [results,Tryz.results12,go_sem];try rfl) rfl ?_
    refine ⟨acc,F,1,s,_,.inl ⟨rfl,?_⟩,rfl,own_less HRow.out HWs.out.1,HSt.out,HOW.out.trans (HOf.out.less fun _=>.inl),HBl.out⟩;rw [HN.out];exact HHd.out.elim (fun h=>⟨_,h⟩) (fun h=>⟨_,h⟩)
  case pos=>
  have hdI:(d:Int)<(n:Int):=by omega
  have HR0:Hid (Reach (RuleR rs) n s0 f0 d 0 F s acc):=HHd.out.elim id (fun h=>h.wrap hdn);go_wp2_with fail
  go_loopw [2,9,10,11,35] (fun fv av dv hv iv wr=>∃ (f d i:Nat) (s:St) (acc:List Tl),fv=.int .i64 (f:Int)/\dv=.int .i64 (d:Int)/\hv=.int .i64 1/\iv=.int .i64 (i:Int)/\i<=n/\f+i=F/\Hid (Reach (RuleR rs) n s0 f0 d i f s acc)/\Hid (wr.ownsRow W.heap.size 60 7 av acc.length (tls acc))/\Hid (StAt B wr p nv mv s)/\Hid (Alls s)/\Hid (Off (Own p nv mv) W wr)/\Hid (Below K w wr)) (fun _ _ _ _ iv _=>n-(intOf iv).toNat)
  case atStart=>exact ⟨F,d,0,s,acc,rfl,rfl,rfl,rfl,Nat.zero_le _,rfl,HR0,HRow,HSt,HAl,HOf,HBl⟩
  case round=>
  clear HHd HRow HSt HAl HOf c0 HR0 hle HBl;obtain ⟨f,d1,i,s1,acc1,rfl,rfl,rfl,rfl,hin',hfi,HRe,HRow,HSt,HAl,HOf,HBl⟩:=hrel;rename World=>wr;obtain ⟨aa,ac,rfl⟩:=own_slice HRow.out;have hle:d1<=n:=HRe.out.le.1;have c0:wr.cell? ⟨ep,0,none⟩=some (.slice a n cap):=(cells11 (HGW.out wr HOf.out)).1
  by_cases hin:i<n
  case neg=>
    have hie:i=n:=by omega
    subst hie;have hiI:¬ (i:Int)<(i:Int):=by omega
    go_wp2_with fail
    go_roundw
    case rel=>exact ⟨f,d1,s1,acc1,rfl,rfl,rfl,.inr HRe.out,HRow,HSt,HAl,HOf,HBl⟩
    case measure=>simp [intOf];omega
  case pos=>
  have hiI:(i:Int)<(n:Int):=by omega
  have hirs:i<rs.length:=by rw [HN.out];exact hin
  obtain ⟨b,vt,vx,vb,vr,rfl,hblt,hcl,hC⟩:=HRW.out i hirs wr HOf.out;have hxs:=HX.out _ (List.getElem_mem hirs);have HRu:Hid (∀ s' dn is,(∃ T ok,ToldR s1.now rs[i].1 T ok/\CallR rs[i].2 T ok s1 s' dn is)->RuleR rs i s1 s' dn is):=fun s' dn is h=>⟨hirs,h⟩
  obtain ⟨⟨c,pl⟩,hr⟩:∃ r,rs[i]=r:=⟨_,rfl⟩;rw [hr] at hcl hC hxs HRu;dsimp only at hcl hC hxs HRu;obtain ⟨ta,tc,rfl,_⟩:=id hC.t;obtain ⟨xa,xc,rfl,_⟩:=id hC.x;obtain ⟨ba,bc,rfl,_⟩:=id hC.b;obtain ⟨ra,rc,rfl,_⟩:=id hC.r;obtain ⟨q0,q1,q2,q3,q4,q5,q6,q7,q8,q9,q10,q11,q12⟩:_/\_/\_/\_/\_/\_/\_/\_/\_/\_/\_/\_/\_:=⟨hcl 0 _ rfl,hcl 1 _ rfl,hcl 2 _ rfl,hcl 3 _ rfl,hcl 4 _ rfl,hcl 5 _ rfl,hcl 6 _ rfl,hcl 7 _ rfl,hcl 8 _ rfl,hcl 9 _ rfl,hcl 10 _ rfl,hcl 11 _ rfl,hcl 12 _ rfl⟩;rw [Nat.add_zero] at q0
  obtain ⟨X,hX⟩:∃ X,wr.alloc (.cells #[.func (.func (egC c.kind)) #[] #[],.func (.func (egB c.kind)) #[] #[],.int .i64 c.kind,.int .i64 c.op,.slice ta c.terms.length tc,.int .i64 c.k,.int .i64 c.v,.int .i64 c.x,.int .i64 c.y,.slice xa c.xs.length xc,.slice ba c.table.length bc,.slice ra c.rows.length rc,.int .i64 pl] 89)=X:=⟨_,rfl⟩;have hbX:Below wr.heap.size wr X:=bAe hX;have gX:X.heap[wr.heap.size]?=some (.cells #[.func (.func (egC c.kind)) #[] #[],.func (.func (egB c.kind)) #[] #[],.int .i64 c.kind,.int .i64 c.op,.slice ta c.terms.length tc,.int .i64 c.k,.int .i64 c.v,.int .i64 c.x,.int .i64 c.y,.slice xa c.xs.length xc,.slice ba c.table.length bc,.slice ra c.rows.length rc,.int .i64 pl] 89 (0,0)):=hAe hX;obtain ⟨M,hM⟩:∃ M,wr.heap.size=M:=⟨_,rfl⟩;rw [hM] at gX;have HbX:Hid (Below wr.heap.size wr X):=hbX
  have HSX:Hid (StAt B X p nv mv s1):=HSt.out.below hbX;have HBlX:Hid (Below K w X):=HBl.out.trans (hbX.mono (Nat.le_trans HKl.out.1 (Nat.le_trans HWs.out.1 HOf.out.size)));have HOX:Hid (Off (Own p nv mv) W X):=HOf.out.trans (Off.of_below hbX);have HRX:Hid (X.ownsRow W.heap.size 60 7 (.slice aa acc1.length ac) acc1.length (tls acc1)):=own_below HRow.out hbX;have HTX:Hid (Tz X):=HTW.out.off HOX.out (fun e=>by have:=(HO1.out 0 e).1;omega) HWs.out.2
  have HCl:Hid (Calls Tryz.prog 32 #[.agg #[.func (.func (egC c.kind)) #[] #[],.func (.func (egB c.kind)) #[] #[],.int .i64 c.kind,.int .i64 c.op,.slice ta c.terms.length tc,.int .i64 c.k,.int .i64 c.v,.int .i64 c.x,.int .i64 c.y,.slice xa c.xs.length xc,.slice ba c.table.length bc,.slice ra c.rows.length rc,.int .i64 pl],.pointer (some ⟨p,0,none⟩)] X (EcOut B p nv mv s1 pl (ToldR s1.now c) X)):=egCall_rule c _ _ _ _ pl B p nv mv s1 X HSX.out HAl.out HTX.out (hC.below hbX) hxs (fun _=>cutR_len _ _ HSX.out.n32) (fun _ l ok h=>ctR_len h);have hn32:=HSX.out.n32;have c0X:X.cell? ⟨ep,0,none⟩=some (.slice (some ⟨b,0,none⟩) n cap):=(cells11 (HGW.out X HOX.out)).1;obtain ⟨x0,x1,x2,x3,x4,x5,x6,x7,x8,x9,x10,x11,x12⟩:=cells13 gX;clear hcl hC hbX gX hr;go_upto_region 9 with fail
  try rw [hX,hM]
  clear hX hM q0 q1 q2 q3 q4 q5 q6 q7 q8 q9 q10 q11 q12 c0
  by_cases hdn1:d1=n
  case pos=>
    subst hdn1;go_wp2_with fail
    try rw [Exit.noGoto_ret]
    refine bodyPost_ret (v:=.tuple #[.slice aa acc1.length ac,.int .i64 (f:Int),.int .i64 1]) (by simp [results,Tryz.results12,go_sem];try rfl) rfl ?_
    refine ⟨acc1,f,1,s1,_,.inl ⟨rfl,i,?_⟩,rfl,own_less HRX.out HWs.out.1,HSX.out,HOW.out.trans (HOX.out.less fun _=>.inl),HBlX.out⟩;rw [HN.out];exact HRe.out
  case neg=>
  have hdnI:¬ ((d1:Int)=(n:Int)):=by omega
  by_cases hf0:f=0
  case pos=>
    subst hf0;go_wp2_with fail
    try rw [Exit.noGoto_ret]
    refine bodyPost_ret (v:=.tuple #[.slice aa acc1.length ac,.int .i64 ((0:Nat):Int),.int .i64 3]) (by simp [results,Tryz.results12,go_sem];try rfl) rfl ?_
    refine ⟨acc1,0,3,s1,_,.inr (.inl ⟨rfl,rfl,d1,i,?_,?_,?_⟩),rfl,own_less HRX.out HWs.out.1,HSX.out,HOW.out.trans (HOX.out.less fun _=>.inl),HBlX.out⟩
    · rw [HN.out];exact HRe.out
    · rw [HN.out];exact hin
    · rw [HN.out];exact hdn1
  case neg=>
  obtain ⟨g,rfl⟩:∃ g,f=g+1:=⟨f-1,by omega⟩;have hfI:¬ (((g+1:Nat):Int)=0):=by omega
  have HAc1:Hid (acc1.length<=1000000):=HAc.out _ _ _ _ _ HRe.out;go_upto_region 14 with (go_at_call 32;refine cA HCl.out ?_;intro e w3 hh;(obtain ⟨T,ok,s2,dn,is,hTR,hCR,⟨v3,⟨t0,t1,t2,t3,t4,t5,t6,t7,t8⟩,rfl,hz3,ho3⟩,hS3,hT3⟩:=hh);simp only [Tl.cells]);obtain ⟨va,vcp,rfl⟩:=own_slice ho3;have hTl:=toldR_len hn32 hTR;have hdl:=callR_len hCR;have HRR:Hid (RuleR rs i s1 s2 dn is):=HRu.out s2 dn is ⟨T,ok,hTR,hCR⟩;have HA2:Hid (Alls s2):=callR_alls hCR HAl.out;obtain ⟨Y,hY⟩:∃ Y,w3.alloc (.cells #[.int .i64 t0,.int .i64 t1,.int .i64 t2,.int .i64 t3,.int .i64 t4,.int .i64 t5,.slice t6 t7 t8] 60)=Y:=⟨_,rfl⟩;have hbY:Below w3.heap.size w3 Y:=bAe hY;have gY:Y.heap[w3.heap.size]?=some (.cells #[.int .i64 t0,.int .i64 t1,.int .i64 t2,.int .i64 t3,.int .i64 t4,.int .i64 t5,.slice t6 t7 t8] 60 (0,0)):=hAe hY
  obtain ⟨M3,hM3⟩:∃ M,w3.heap.size=M:=⟨_,rfl⟩;rw [hM3] at gY;have hS0:=HOX.out.size;have hS3':=hT3.off.size;have HSz:Hid (W.heap.size<=X.heap.size/\X.heap.size<=w3.heap.size/\w3.heap.size=M3/\M3<Y.heap.size):=⟨hS0,hS3',hM3,(hLt gY)⟩;have HOY:Hid (Off (Own p nv mv) W Y):=(HOX.out.trans hT3.off).trans (Off.of_below hbY);have HBlY:Hid (Below K w Y):=(HBlX.out.trans (hT3.below.mono HKl.out.2.1)).trans (hbY.mono (by have:=HKl.out.1;have:=HWs.out.1;omega));have HSY:Hid (StAt B Y p nv mv s2):=hS3.below hbY;have HRY:Hid (Y.ownsRow W.heap.size 60 7 (.slice aa acc1.length ac) acc1.length (tls acc1)):=own_below (own_off HRX.out (fun g hg e=>by have:=(HRX.out.lt g hg).1;have:=(HO1.out g e).2;have:=HWs.out.1;omega) hT3.off) hbY
  have HDY:Hid (SrcAt Y (.slice va dn.length vcp) dn.length 7 (tls dn)):=own_src (own_below ho3 hbY) (tls_one' dn);have HgY:Hid (Y.heap[M3]?=some (.cells #[.int .i64 t0,.int .i64 t1,.int .i64 t2,.int .i64 t3,.int .i64 t4,.int .i64 t5,.slice t6 t7 t8] 60 (0,0))):=gY;have hac1:=HAc1.out;try rw [hY,hM3]
  clear hY hbY gY hM3 hS0 hS3' hTR hCR hS3 hT3 ho3 hz3 HCl c0X x0 x1 x2 x3 x4 x5 x6 x7 x8 x9 x10 x11 x12 HAc1;go_upto_region 15 with (at_builtin;refine append_src Y rfl (.tmp 57) (.tmp 58) 43 60 (.agg #[.int .i64 0,.int .i64 0,.int .i64 0,.int .i64 0,.int .i64 0,.int .i64 0,.slice none 0 0]) 7 72 rfl und43 infoCause rfl (by decide) W.heap.size _ _ acc1.length dn.length _ _ (by rfl) (by rfl) HRY.out HDY.out (by unfold maxLen;omega) (by omega) HOY.out.size ?_;intro v5 w5 ho5 hg5 hn5);have HR5:Hid (w5.ownsRow W.heap.size 60 7 v5 (acc1++dn).length (tls (acc1++dn))):=by
    show World.ownsRow _ _ _ _ _ _ _;rw [List.length_append,tls_append];exact ho5
  have hb5:Below W.heap.size Y w5:=((Below.refl Y.heap.size Y).mono HOY.out.size).grown hg5 HOY.out.size (fun g hg=>(HRY.out.lt g hg).1);have HO5:Hid (Off (Own p nv mv) W w5):=⟨Nat.le_trans HOY.out.size hb5.size,fun k hk hn=>(hb5.block k hk).trans (HOY.out.block k hk hn)⟩;have HBl5:Hid (Below K w w5):=HBlY.out.trans (hb5.mono (by have:=HKl.out.1;have:=HWs.out.1;omega));have HS5:Hid (StAt B w5 p nv mv s2):=HSY.out.keep (fun k _ ho=>hb5.block k (by have:=(HO1.out k ho).2;have:=HWs.out.1;omega));have HG5:Hid (w5.heap[M3]?=some (.cells #[.int .i64 t0,.int .i64 t1,.int .i64 t2,.int .i64 t3,.int .i64 t4,.int .i64 t5,.slice t6 t7 t8] 60 (0,0))):=by
    exact (hg5.block M3 HSz.out.2.2.2 (fun e=>by have:=(HRX.out.lt M3 e.symm).2;have:=HSz.out;omega)).trans HgY.out
  obtain ⟨a5,c5,rfl⟩:=own_slice ho5;have HNl:Hid ((acc1++dn).length=acc1.length+dn.length):=List.length_append;have HRe1:Hid (Reach (RuleR rs) n s0 f0 d1 i (g+1) s1 acc1):=HRe.out;clear ho5 hg5 hn5 hb5 HgY HDY HRY HOY HSY HRX HSX HOX HTX HbX HRow HSt HOf HRe HSz HRu
  cases is with
  | false =>
    have h5:=HGW.out w5 HO5.out;obtain ⟨z4,z5,z6,z7,z8,z9,z10⟩:=frozen11 h5;obtain ⟨e0,e4,e5,e6,e7,e8,e9,e10⟩:=cells11 h5;obtain ⟨m0,m1,m2,m3,m4,m5,m6⟩:=cells7 HG5.out;obtain ⟨Z,hZ⟩:∃ Z,(((((((w5.setCell ⟨ep,4,none⟩ (.int .i64 t0)).setCell ⟨ep,5,none⟩ (.int .i64 t1)).setCell ⟨ep,6,none⟩ (.int .i64 t2)).setCell ⟨ep,7,none⟩ (.int .i64 t3)).setCell ⟨ep,8,none⟩ (.int .i64 t4)).setCell ⟨ep,9,none⟩ (.int .i64 t5)).setCell ⟨ep,10,none⟩ (.slice t6 t7 t8))=Z:=⟨_,rfl⟩;have hoZ:Off (fun b=>b=ep) w5 Z:=by rw [<-hZ];exact off_set11 (S:=fun b=>b=ep) rfl _ _ _ _ _ _ _
    have HRZ:Hid (Z.ownsRow w.heap.size 60 7 (.slice a5 (acc1.length+dn.length) c5) (acc1++dn).length (tls (acc1++dn))):=own_less (own_off HR5.out (fun g hg e=>by have:=(HR5.out.lt g hg).1;have:=HEp.out.1;have:=HWs.out.1;omega) hoZ) HWs.out.1;have HSZ:Hid (StAt B Z p nv mv s2):=HS5.out.keep (fun k hk ho=>hoZ.block k hk (fun e=>HEp.out.2 (by rw [<-e];exact ho)));have HOZ:Hid (Off (fun b=>Own p nv mv b∨b=ep) w Z):=(HOW.out.trans (HO5.out.less fun _=>.inl)).trans (hoZ.less fun _=>.inr);have HBlZ:Hid (Below K w Z):=by
      show Below _ _ _;rw [<-hZ];exact below_set11 HBl5.out HKl.out.2.2 _ _ _ _ _ _ _
    clear h5 hoZ;go_wp2_with fail
    try rw [hZ]
    try rw [Exit.noGoto_ret]
    refine bodyPost_ret (v:=.tuple #[.slice a5 (acc1.length+dn.length) c5,.int .i64 (g:Int),.int .i64 2]) (by simp [results,Tryz.results12,go_sem];try rfl) rfl ?_
    refine ⟨acc1++dn,g,2,s2,_,.inr (.inr ⟨rfl,d1,i,s1,acc1,dn,?_,?_,?_,HRR.out,rfl⟩),rfl,HRZ.out,HSZ.out,HOZ.out,HBlZ.out⟩
    · rw [HN.out];exact HRe1.out
    · rw [HN.out];exact hin
    · rw [HN.out];exact hdn1
  | true =>
    have HRn:Hid (Reach (RuleR rs) n s0 f0 (if dn.length=0 then d1+1 else 0) (i+1) g s2 (acc1++dn)):=HRe1.out.step hin hdn1 HRR.out
    by_cases hd0:dn.length=0
    case pos=>
      have HRm:Hid (Reach (RuleR rs) n s0 f0 (d1+1) (i+1) g s2 (acc1++dn)):=by have:=HRn.out;rw [if_pos hd0] at this;exact this
      have hdI0:¬ (0:Int)<(dn.length:Int):=by omega
      go_wp2_with fail
      go_roundw
      case rel=>exact ⟨g,d1+1,i+1,s2,acc1++dn,by go_num,by go_num,rfl,by go_num,hin,by omega,HRm,HR5,HS5,HA2,HO5,HBl5⟩
      case measure=>simp [intOf];omega
    case neg=>
      have HRm:Hid (Reach (RuleR rs) n s0 f0 0 (i+1) g s2 (acc1++dn)):=by have:=HRn.out;rw [if_neg hd0] at this;exact this
      have hdI0:(0:Int)<(dn.length:Int):=by omega
      go_wp2_with fail
      go_roundw
      case rel=>exact ⟨g,0,i+1,s2,acc1++dn,by go_num,rfl,rfl,by go_num,hin,by omega,HRm,HR5,HS5,HA2,HO5,HBl5⟩
      case measure=>simp [intOf];omega
end Go.Proofs.YtjnckfchgcmmpaaGreatDoor
namespace Go.Proofs.YtjnckfchgcmmpaaGreatDoor
open Go.RowKit
theorem KRows.young {S T:Nat->Prop} {w w1:World} {v:Value} {l:List (List Int)} {us:List Value} (h:KRows S w v l us) (ho:Off S w w1) (hT:∀ b,T b->S b∨w.heap.size<=b):KRows T w1 v l us:=by
  refine ⟨h.len,?_,fun j hj h2=>(h.each j hj h2).young ho hT⟩;obtain ⟨a,cap,hv,hm,hc⟩:=h.form;refine ⟨a,cap,hv,hm,fun h0=>?_⟩;obtain ⟨b,off,ha,hb,hS,hj⟩:=hc h0;exact ⟨b,off,ha,Nat.lt_of_lt_of_le hb ho.size,fun ht=>(hT b ht).elim hS (fun h=>by omega),fun j h=>(World.cell?_of_block (a:=⟨b,off+j,none⟩) (ho.block b hb hS)).trans (hj j h)⟩
theorem KCn.young {S T:Nat->Prop} {w w1:World} {c:Md.Cn} {vt vx vb vr:Value} (h:KCn S w c vt vx vb vr) (ho:Off S w w1) (hT:∀ b,T b->S b∨w.heap.size<=b):KCn T w1 c vt vx vb vr:=by
  obtain ⟨us,hr⟩:=h.r;exact ⟨h.t.young ho hT,h.x.young ho hT,h.xcap,h.b.young ho hT,us,hr.young ho hT⟩
def EnT (L H:Nat):Nat->Prop:=fun b=>b<L∨H<=b
structure RsOwn (T:Nat->Prop) (B:Nat) (w:World) (rv:Value) (rs:List (Md.Cn × Int)) (xs:List Value):Prop where
  own:w.ownsRow B 89 13 rv rs.length xs
  each:∀ i (h:i<rs.length),∃ vt vx vb vr,(∀ j u,(ruCells rs[i].1 vt vx vb vr rs[i].2)[j]?=some u->xs[i*13+j]?=some u)/\KCn T w rs[i].1 vt vx vb vr
theorem RsOwn.next {T S:Nat->Prop} {B:Nat} {w w':World} {rv:Value} {rs:List (Md.Cn × Int)} {xs:List Value} (h:RsOwn T B w rv rs xs) (ho:Off S w w') (hT:∀ b,S b->T b) (hg:∀ g,rv.ownBlock=some g->¬ S g):RsOwn T B w' rv rs xs:=
  ⟨own_off h.own hg ho,fun i hi=>by
    obtain ⟨vt,vx,vb,vr,h1,h2⟩:=h.each i hi
    exact ⟨vt,vx,vb,vr,h1,h2.next (ho.less hT)⟩⟩
theorem RsOwn.more {T:Nat->Prop} {B:Nat} {w w':World} {rv rv':Value} {rs:List (Md.Cn × Int)} {xs:List Value} {c:Md.Cn} {pl:Int} {vt vx vb vr:Value} (h:RsOwn T B w rv rs xs) (ho:Off T w w') (hn:w'.ownsRow B 89 13 rv' (rs.length+1) (xs++ruCells c vt vx vb vr pl)) (hc:KCn T w' c vt vx vb vr):RsOwn T B w' rv' (rs++[(c,pl)]) (xs++ruCells c vt vx vb vr pl):=by
  have hxl:xs.length=rs.length*13:=h.own.1;refine ⟨by rw [List.length_append,List.length_singleton];exact hn,fun i hi=>?_⟩;rw [List.length_append,List.length_singleton] at hi
  by_cases h1:i<rs.length
  · obtain ⟨v1,v2,v3,v4,h2,h3⟩:=h.each i h1
    rw [List.getElem_append_left h1];refine ⟨v1,v2,v3,v4,fun j u hj=>?_,h3.next ho⟩;have hj13:j<13:=(List.getElem?_eq_some_iff.1 hj).1;rw [List.getElem?_append_left (by omega)];exact h2 j u hj
  · have e:i=rs.length:=by omega
    subst e;have e1:(rs++[(c,pl)])[rs.length]'(by simp)=(c,pl):=by simp
    rw [e1];refine ⟨vt,vx,vb,vr,fun j u hj=>?_,hc⟩;rw [List.getElem?_append_right (by omega),hxl,Nat.add_sub_cancel_left];exact hj
theorem RsOwn.ru {T S:Nat->Prop} {B:Nat} {w:World} {a:Option Addr} {cap:Nat} {rs:List (Md.Cn × Int)} {xs:List Value} (h:RsOwn T B w (.slice a rs.length cap) rs xs) (hT:∀ b,S b->T b) (hg:∀ g,B<=g->g<w.heap.size->¬ S g) (i:Nat) (hi:i<rs.length):Kept S w (fun w'=>RuAt w' a i rs[i]):=fun w' ho=>by
  have h':=h.next ho hT (fun g hg'=>hg g (h.own.lt g hg').1 (h.own.lt g hg').2);rcases own_cells h'.own with ⟨_,h0⟩ | ⟨g,cp,e,_,hgl,_,hc⟩
  · omega
  · injection e with e1 _ _
    obtain ⟨vt,vx,vb,vr,h1,h2⟩:=h'.each i hi;exact ⟨g,vt,vx,vb,vr,e1,hgl,fun j u hj=>hc _ _ (h1 j u hj),h2.at⟩
def numL (l:List Md.Cn):List (Md.Cn × Int):=l.zipIdx.map fun p=>(p.1,(p.2:Int))
theorem numL_snoc (l:List Md.Cn) (c:Md.Cn):numL (l++[c])=numL l++[(c,(l.length:Int))]:=by simp [numL,List.zipIdx_append]
theorem numL_len (l:List Md.Cn):(numL l).length=l.length:=by simp [numL]
theorem numL_get (l:List Md.Cn) (i:Nat) (h:i<(numL l).length):(numL l)[i]=(l[i]'(by rw [<-numL_len];exact h),(i:Int)):=by simp [numL]
theorem numL_next {l:List Md.Cn} {k:Nat} (hk:k<l.length):numL (l.take (k+1))=numL (l.take k)++[(l[k],(k:Int))]:=by
  rw [List.take_succ_eq_append_getElem hk,numL_snoc,List.length_take,Nat.min_eq_left (Nat.le_of_lt hk)]
def NeOut (m:Md.Mo) (w:World) (e:Ending) (w':World):Prop:=
  ∃ ep L H rv vg xs,(w.heap.size<=L/\L<=H/\H<=ep)/\e=.returned (.pointer (some ⟨ep,0,none⟩))/\w'.heap[ep]?=some (.cells #[rv,.int .i64 (m.cons.length:Int),.bool m.has,vg,.int .i64 0,.int .i64 0,.int .i64 0,.int .i64 0,.int .i64 0,.int .i64 0,.slice none 0 0] 83 (0,0))/\RsOwn (EnT L H) (ep+1) w' rv (numL m.cons) xs/\Kept (EnT L H) w' (fun w2=>TermsAt w2 vg m.goal)/\Below w.heap.size w w'
theorem und81:Tryz.prog.underlying 81=some (.slice 89):=by kernel_rfl
theorem info89:(Tryz.prog.info? 89).map (fun i=>(i.zero,i.size,i.bytes))=some (some (.agg #[.nilFunc,.nilFunc,.int .i64 0,.int .i64 0,.slice none 0 0,.int .i64 0,.int .i64 0,.int .i64 0,.int .i64 0,.slice none 0 0,.slice none 0 0,.slice none 0 0,.int .i64 0]),13,168):=by kernel_rfl
theorem src_ru {V:World} {b:Nat} {c:Md.Cn} {pl:Int} {ta xa ba ra:Option Addr} {tn tc xn xc bn bc rn rc:Nat} (h:V.heap[b]?=some (.cells (ruCells c (.slice ta tn tc) (.slice xa xn xc) (.slice ba bn bc) (.slice ra rn rc) pl).toArray 89 (0,0))):SrcAt V (.slice (some ⟨b,0,none⟩) 1 1) 1 13 (ruCells c (.slice ta tn tc) (.slice xa xn xc) (.slice ba bn bc) (.slice ra rn rc) pl):=by
  refine ⟨_,1,rfl,rfl,?_,(fun h=>by cases h),fun ad ha j y hj=>?_⟩
  · intro y hy
    simp only [ruCells,List.mem_cons,List.not_mem_nil,or_false] at hy
    rcases hy with rfl | rfl | rfl | rfl | rfl | rfl | rfl | rfl | rfl | rfl | rfl | rfl | rfl <;> rfl
  · injection ha with ha
    subst ha;rw [add_none,Nat.zero_add,cell_of h];simpa using hj
theorem cons_cell {w:World} {B:Nat} {a:Option Addr} {cap n:Nat} {xs:List Value} (h:w.ownsRow B 56 10 (.slice a n cap) n xs) {c:Md.Cn} {vt vx vb vr:Value} {k:Nat} (hk:k<n) (hx:∀ i u,(cnCells c vt vx vb vr)[i]?=some u->xs[k*10+i]?=some u):∃ g,a=some ⟨g,0,none⟩/\g<w.heap.size/\∀ i u,(cnCells c vt vx vb vr)[i]?=some u->w.cell? ⟨g,k*10+i,none⟩=some u:=by
  rcases own_cells h with ⟨_,h0⟩ | ⟨g,cp,e,_,hg,_,hc⟩
  · omega
  · injection e with e1 _ _
    exact ⟨g,e1,hg,fun i u hi=>hc _ _ (hx i u hi)⟩
end Go.Proofs.YtjnckfchgcmmpaaGreatDoor
namespace Go.Proofs.YtjnckfchgcmmpaaGreatDoor
open Go.RowKit
set_option maxRecDepth 10000
set_option maxHeartbeats 8000000
theorem egNew_any (m:Md.Mo) (vv vc vg:Value) (w:World) (h:MoAt w m vv vc vg) (hs:m.vars.length<=1000000/\m.cons.length<=1000000/\m.goal.length<=1000000) (hsc:∀ c∈m.cons,c.terms.length<=1000000/\c.xs.length<=1000000/\c.table.length<=1000000/\c.rows.length<=1000000/\∀ r∈c.rows,r.length<=1000000):Calls Tryz.prog 8 #[moVal m vv vc vg] w (NeOut m w):=by
  obtain ⟨W,hW⟩:∃ W,w.alloc (.cells #[vv,vc,.bool m.has,vg] 26)=W:=⟨_,rfl⟩;have hb0:Below w.heap.size w W:=bAe hW;have g0:W.heap[w.heap.size]?=some (.cells #[vv,vc,.bool m.has,vg] 26 (0,0)):=hAe hW;have HCp:Hid (Calls Tryz.prog 7 #[.agg #[vv,vc,.bool m.has,vg]] W (CpMOut W m)):=copy_any m vv vc vg W (h.below hb0) hs hsc;obtain ⟨⟨p0,p1,p2,p3⟩,hz0⟩:=box4 g0;obtain ⟨N,hN⟩:∃ N,w.heap.size=N:=⟨_,rfl⟩;rw [hN] at g0 p0 p1 p2 p3;have HNW:Hid (N<W.heap.size/\w.heap.size=N):=⟨(hLt g0),hN⟩;have HG0:Hid (W.heap[N]?=some (.cells #[vv,vc,.bool m.has,vg] 26 (0,0))):=g0;have HB0:Hid (Below w.heap.size w W):=hb0;have hmv:moVal m vv vc vg=.agg #[vv,vc,.bool m.has,vg]:=rfl;have hcl:m.cons.length<=1000000:=hs.2.1;have HSc:Hid (∀ c∈m.cons,c.xs.length<=1000000):=fun c hc=>(hsc c hc).2.1
  rw [hmv];clear h hs hsc hb0 g0 hz0 hmv;go_enter Tryz.func8,Tryz.ntmps8;go_upto_region 1 with fail
  try rw [hW]
  try rw [hN]
  clear hW hN;have HF:Hid (∀ w1,Below W.heap.size W w1->w1.heap[N]?=some (.cells #[vv,vc,.bool m.has,vg] 26 (0,0))):=fun w1 hb=>(hb.block N HNW.out.1).trans HG0.out
  go_upto_region 2 with (go_at_call 7;refine cA HCp.out ?_;intro e w1 hh;(obtain ⟨v1,v2,v3,xs,rfl,hb1,hO1,hV1,hVc1,hG1⟩:=hh);(obtain ⟨a2,c2,rfl,_⟩:=egOwn_slice hO1.own);(obtain ⟨a3,c3,rfl,_⟩:=id hG1.now);(obtain ⟨a1,c1,rfl,_⟩:=id hV1.now);(obtain ⟨⟨y0,y1,y2,y3⟩,yz⟩:=box4 (HF.out w1 hb1));(have yz0:=yz 0);(have yz1:=yz 1);(have yz2:=yz 2);(have yz3:=yz 3);clear yz);obtain ⟨V,hV⟩:∃ V,((((w1.setCell ⟨N,0,none⟩ (.slice a1 m.vars.length c1)).setCell ⟨N,1,none⟩ (.slice a2 m.cons.length c2)).setCell ⟨N,2,none⟩ (.bool m.has)).setCell ⟨N,3,none⟩ (.slice a3 m.goal.length c3))=V:=⟨_,rfl⟩;have gV:V.heap[N]?=some (.cells #[.slice a1 m.vars.length c1,.slice a2 m.cons.length c2,.bool m.has,.slice a3 m.goal.length c3] 26 (0,0)):=by
    rw [<-hV];exact heap_setCell_same _ _ 3 _ 26 _ (heap_setCell_same _ _ 2 _ 26 _ (heap_setCell_same _ _ 1 _ 26 _ (heap_setCell_same _ _ 0 _ 26 _ (HF.out w1 hb1))))
  have hoV:Off (fun b=>b=N) w1 V:=by rw [<-hV];exact (((Off.setG _).trans (Off.setG _)).trans (Off.setG _)).trans (Off.setG _)
  have hbV:Below w.heap.size w V:=by
    have hb:Below w.heap.size w w1:=HB0.out.trans (hb1.mono HB0.out.size);have hN':w.heap.size<=N:=Nat.le_of_eq HNW.out.2;rw [<-hV];exact (((hb.setCell hN' _).setCell hN' _).setCell hN' _).setCell hN' _
  obtain ⟨L,hL⟩:∃ L,W.heap.size=L:=⟨_,rfl⟩;obtain ⟨H,hH⟩:∃ H,w1.heap.size=H:=⟨_,rfl⟩;have hLH:L<=H:=by rw [<-hL,<-hH];exact hb1.size
  have hNL:N<L:=by rw [<-hL];exact HNW.out.1
  have hHV:H<=V.heap.size:=by rw [<-hH];exact hoV.size
  -- what lies between L and H stays
  have hEc:∀ j (h:j<m.cons.length),∃ vt vx vb vr,(∀ i u,(cnCells m.cons[j] vt vx vb vr)[i]?=some u->xs[j*10+i]?=some u)/\KCn (EnT L H) V m.cons[j] vt vx vb vr:=fun j hj=>by
    obtain ⟨vt,vx,vb,vr,h1,h2⟩:=hO1.each j hj;refine ⟨vt,vx,vb,vr,h1,h2.young (hoV.less fun b e=>.inl ⟨hj,by rw [e,hL];exact hNL⟩) fun b e=>?_⟩;rw [hH];exact e.imp (fun e=>.inl ⟨hj,by rw [hL];exact e⟩) id
  have hGo:Kept (EnT L H) V (fun w2=>TermsAt w2 (.slice a3 m.goal.length c3) m.goal):=hG1.young (hoV.less fun b e=>.inl (by rw [e,hL];exact hNL)) fun b e=>by
    rw [hH];exact e.imp (fun e=>.inl (by rw [hL];exact e)) id
  have hOc:V.ownsRow L 56 10 (.slice a2 m.cons.length c2) m.cons.length xs:=by
    rw [<-hL];exact own_off hO1.own (fun g hg e=>by have:=(hO1.own.lt g hg).1;omega) hoV
  have hOlt:∀ g,(Value.slice a2 m.cons.length c2).ownBlock=some g->L<=g/\g<H:=fun g hg=>by
    have h1:=hO1.own.lt g hg;rw [hL,hH] at h1;exact h1
  have HEc:Hid (∀ j (h:j<m.cons.length),∃ vt vx vb vr,(∀ i u,(cnCells m.cons[j] vt vx vb vr)[i]?=some u->xs[j*10+i]?=some u)/\KCn (EnT L H) V m.cons[j] vt vx vb vr):=hEc;have HGo:Hid (Kept (EnT L H) V (fun w2=>TermsAt w2 (.slice a3 m.goal.length c3) m.goal)):=hGo;have HOc:Hid (V.ownsRow L 56 10 (.slice a2 m.cons.length c2) m.cons.length xs):=hOc;have HOl:Hid (∀ g,(Value.slice a2 m.cons.length c2).ownBlock=some g->L<=g/\g<H):=hOlt;have HbV:Hid (Below w.heap.size w V):=hbV;have HLH:Hid (N<L/\L<=H/\H<=V.heap.size/\w.heap.size=N):=⟨hNL,hLH,hHV,HNW.out.2⟩;obtain ⟨⟨k0,k1,k2,k3⟩,_⟩:=box4 gV;try rw [hV]
  clear hV gV hoV hbV hEc hGo hOc hOlt hL hH hLH hNL hHV hb1 hO1 hV1 hVc1 hG1 HCp HF HG0 HB0 HNW y0 y1 y2 y3 yz0 yz1 yz2 yz3 p0 p1 p2 p3;obtain ⟨E,hE⟩:∃ E,V.alloc (.cells #[.slice none 0 0,.int .i64 (m.cons.length:Int),.bool m.has,.slice a3 m.goal.length c3,.int .i64 0,.int .i64 0,.int .i64 0,.int .i64 0,.int .i64 0,.int .i64 0,.slice none 0 0] 83)=E:=⟨_,rfl⟩;have hbE:Below V.heap.size V E:=bAe hE;have gE:E.heap[V.heap.size]?=some (.cells #[.slice none 0 0,.int .i64 (m.cons.length:Int),.bool m.has,.slice a3 m.goal.length c3,.int .i64 0,.int .i64 0,.int .i64 0,.int .i64 0,.int .i64 0,.int .i64 0,.slice none 0 0] 83 (0,0)):=hAe hE;have hEs:E.heap.size=V.heap.size+1:=by rw [<-hE];simp
  obtain ⟨ep,hep⟩:∃ ep,V.heap.size=ep:=⟨_,rfl⟩;rw [hep] at gE hEs;have HbE:Hid (Below V.heap.size V E):=hbE;have HgE:Hid (E.heap[ep]?=some (.cells #[.slice none 0 0,.int .i64 (m.cons.length:Int),.bool m.has,.slice a3 m.goal.length c3,.int .i64 0,.int .i64 0,.int .i64 0,.int .i64 0,.int .i64 0,.int .i64 0,.slice none 0 0] 83 (0,0))):=gE;have HEs:Hid (E.heap.size=ep+1/\V.heap.size=ep/\H<=ep):=⟨hEs,hep,by rw [<-hep];exact HLH.out.2.2.1⟩;have j1:E.cell? ⟨N,1,none⟩=some (.slice a2 m.cons.length c2):=(hbE.cell (p:=⟨N,1,none⟩) (by have:=HLH.out;show N<_;omega)).trans k1;clear gE hEs hbE;go_upto_region 3 with fail
  try rw [hE,hep]
  clear hE hep k0 k1 k2 k3;go_wp2_with fail
  go_loopw [20] (fun iv wr=>∃ (k:Nat) (rv:Value) (ys:List Value),iv=.int .i64 (k:Int)/\k<=m.cons.length/\Hid (wr.heap[ep]?=some (.cells #[rv,.int .i64 (m.cons.length:Int),.bool m.has,.slice a3 m.goal.length c3,.int .i64 0,.int .i64 0,.int .i64 0,.int .i64 0,.int .i64 0,.int .i64 0,.slice none 0 0] 83 (0,0)))/\Hid (RsOwn (EnT L H) (ep+1) wr rv (numL (m.cons.take k)) ys)/\Hid (Off (fun b=>b=ep) E wr)/\Hid (Below w.heap.size w wr)) (fun iv _=>m.cons.length-(intOf iv).toNat)
  case atStart=>exact ⟨0,_,[],rfl,Nat.zero_le _,HgE,⟨World.ownsRow_nil _ _ _ _,fun i hi=>absurd hi (by simp [numL])⟩,Off.refl _ _,HbV.out.trans (HbE.out.mono HbV.out.size)⟩
  case round=>
  obtain ⟨k,rv,ys,rfl,hk,HBx,HRs,HOf,HBw⟩:=hrel;rename World=>wr;clear j1;have HOV:Hid (Off (EnT L H) V wr):=(Off.of_below HbE.out).trans (HOf.out.less fun b e=>.inr (by have:=HEs.out.2.2;omega));have hOw:=HOf.out.size;have hEsz:=HEs.out
  by_cases hkn:k<m.cons.length
  case neg=>
    have hke:k=m.cons.length:=by omega
    subst hke;have hkI:¬ (m.cons.length:Int)<(m.cons.length:Int):=by omega
    have HRf:Hid (RsOwn (EnT L H) (ep+1) wr rv (numL m.cons) ys):=by have:=HRs.out;rw [List.take_length] at this;exact this
    go_wp2_with fail
    go_ret;exact ⟨ep,L,H,rv,_,ys,⟨by have:=HLH.out;omega,HLH.out.2.1,HEs.out.2.2⟩,rfl,HBx.out,HRf.out,fun w' ho=>HGo.out w' (HOV.out.trans ho),HBw.out⟩
  case pos=>
  have hkI:(k:Int)<(m.cons.length:Int):=by omega
  obtain ⟨vt,vx,vb,vr,hx1,hK1⟩:=HEc.out k hkn
  have hOr:wr.ownsRow L 56 10 (.slice a2 m.cons.length c2) m.cons.length xs:=own_off HOc.out (fun g hg e=>by have:=HOl.out g hg;have:=HLH.out;rcases e with e | e <;> omega) HOV.out
  obtain ⟨g,rfl,hg,hcl2⟩:=cons_cell hOr hkn hx1;have hKr:KCn (EnT L H) wr m.cons[k] vt vx vb vr:=hK1.next HOV.out;have HNx:Hid (numL (m.cons.take (k+1))=numL (m.cons.take k)++[(m.cons[k],(k:Int))]):=numL_next hkn;have HNl:Hid ((numL (m.cons.take k)).length=k):=by show _=_;rw [numL_len,List.length_take];omega
  obtain ⟨c,hc⟩:∃ c,m.cons[k]=c:=⟨_,rfl⟩;rw [hc] at hcl2 hKr HNx;obtain ⟨ta,tc,rfl,_⟩:=id hKr.t.now;obtain ⟨xa,xc,rfl,_⟩:=id hKr.x.now;obtain ⟨ba,bc,rfl,_⟩:=id hKr.b.now;obtain ⟨ra,rc,rfl,_⟩:=id hKr.at.r;obtain ⟨q0,q1,q2,q3,q4,q5,q6,q7,q8,q9⟩:_/\_/\_/\_/\_/\_/\_/\_/\_/\_:=⟨hcl2 0 _ rfl,hcl2 1 _ rfl,hcl2 2 _ rfl,hcl2 3 _ rfl,hcl2 4 _ rfl,hcl2 5 _ rfl,hcl2 6 _ rfl,hcl2 7 _ rfl,hcl2 8 _ rfl,hcl2 9 _ rfl⟩;rw [Nat.add_zero] at q0;have HKr:Hid (KCn (EnT L H) wr c (.slice ta c.terms.length tc) (.slice xa c.xs.length xc) (.slice ba c.table.length bc) (.slice ra c.rows.length rc)):=hKr;clear hc hcl2 hKr hOr hx1 hK1
  obtain ⟨X,hX⟩:∃ X,wr.alloc (.cells #[.int .i64 c.kind,.int .i64 c.op,.slice ta c.terms.length tc,.int .i64 c.k,.int .i64 c.v,.int .i64 c.x,.int .i64 c.y,.slice xa c.xs.length xc,.slice ba c.table.length bc,.slice ra c.rows.length rc] 56)=X:=⟨_,rfl⟩;have hbX:Below wr.heap.size wr X:=bAe hX;have gX:X.heap[wr.heap.size]?=some (.cells #[.int .i64 c.kind,.int .i64 c.op,.slice ta c.terms.length tc,.int .i64 c.k,.int .i64 c.v,.int .i64 c.x,.int .i64 c.y,.slice xa c.xs.length xc,.slice ba c.table.length bc,.slice ra c.rows.length rc] 56 (0,0)):=hAe hX;obtain ⟨M,hM⟩:∃ M,wr.heap.size=M:=⟨_,rfl⟩;rw [hM] at gX
  have HgX:Hid (X.heap[M]?=some (.cells #[.int .i64 c.kind,.int .i64 c.op,.slice ta c.terms.length tc,.int .i64 c.k,.int .i64 c.v,.int .i64 c.x,.int .i64 c.y,.slice xa c.xs.length xc,.slice ba c.table.length bc,.slice ra c.rows.length rc] 56 (0,0))):=gX;have HbX:Hid (Below wr.heap.size wr X):=hbX;have HMs:Hid (wr.heap.size=M/\M<X.heap.size/\ep<M):=⟨hM,(hLt gX),by omega⟩;obtain ⟨ra0,rc0,hrv,hrc0⟩:=egOwn_slice HRs.out.own;rw [HNl.out] at hrv;subst hrv
  have HBx1:Hid (∀ w',Below X.heap.size X w'->w'.heap[ep]?=some (.cells #[.slice ra0 k rc0,.int .i64 (m.cons.length:Int),.bool m.has,.slice a3 m.goal.length c3,.int .i64 0,.int .i64 0,.int .i64 0,.int .i64 0,.int .i64 0,.int .i64 0,.slice none 0 0] 83 (0,0))):=fun w' hb=>(hb.block ep (by have:=HMs.out;omega)).trans ((HbX.out.block ep (by have:=HMs.out;omega)).trans HBx.out)
  have HXc:Hid (∀ w',Below X.heap.size X w'->w'.cell? ⟨M,0,none⟩=some (.int .i64 c.kind)/\w'.cell? ⟨M,1,none⟩=some (.int .i64 c.op)/\w'.cell? ⟨M,2,none⟩=some (.slice ta c.terms.length tc)/\w'.cell? ⟨M,3,none⟩=some (.int .i64 c.k)/\w'.cell? ⟨M,4,none⟩=some (.int .i64 c.v)/\w'.cell? ⟨M,5,none⟩=some (.int .i64 c.x)/\w'.cell? ⟨M,6,none⟩=some (.int .i64 c.y)/\w'.cell? ⟨M,7,none⟩=some (.slice xa c.xs.length xc)/\w'.cell? ⟨M,8,none⟩=some (.slice ba c.table.length bc)/\w'.cell? ⟨M,9,none⟩=some (.slice ra c.rows.length rc)):=fun w' hb=>cells10 ((hb.block M HMs.out.2.1).trans HgX.out)
  have HRu:Hid (∀ w',Calls Tryz.prog 27 #[.agg #[.int .i64 c.kind,.int .i64 c.op,.slice ta c.terms.length tc,.int .i64 c.k,.int .i64 c.v,.int .i64 c.x,.int .i64 c.y,.slice xa c.xs.length xc,.slice ba c.table.length bc,.slice ra c.rows.length rc],.int .i64 (k:Int)] w' fun e w2=>e=.returned (.agg #[.func (.func (egC c.kind)) #[] #[],.func (.func (egB c.kind)) #[] #[],.int .i64 c.kind,.int .i64 c.op,.slice ta c.terms.length tc,.int .i64 c.k,.int .i64 c.v,.int .i64 c.x,.int .i64 c.y,.slice xa c.xs.length xc,.slice ba c.table.length bc,.slice ra c.rows.length rc,.int .i64 (k:Int)])/\Below w'.heap.size w' w2):=fun w'=>egRule_any c _ _ _ _ (k:Int) w' ta xa ba ra _ tc _ xc _ bc _ rc rfl rfl rfl rfl
  have HRX:Hid (∀ w',Below X.heap.size X w'->RsOwn (EnT L H) (ep+1) w' (.slice ra0 k rc0) (numL (m.cons.take k)) ys):=fun w' hb=>HRs.out.next (S:=fun _=>False) ((Off.of_below HbX.out).trans (Off.of_below hb)) (fun _ h=>h.elim) (fun _ _ h=>h)
  have HKX:Hid (∀ w',Off (EnT L H) X w'->KCn (EnT L H) w' c (.slice ta c.terms.length tc) (.slice xa c.xs.length xc) (.slice ba c.table.length bc) (.slice ra c.rows.length rc)):=fun w' ho=>HKr.out.next ((Off.of_below HbX.out).trans ho)
  clear gX hbX;go_upto_region 6 with fail
  try rw [hX,hM]
  clear hX hM q0 q1 q2 q3 q4 q5 q6 q7 q8 q9;have HB1:Hid (Below X.heap.size X X.drew):=(Below.refl _ _).drew;refine wp_region_T (fun w'=>w'.cell? ⟨M,0,none⟩=some (.int .i64 c.kind)/\w'.cell? ⟨M,1,none⟩=some (.int .i64 c.op)/\w'.cell? ⟨M,2,none⟩=some (.slice ta c.terms.length tc)/\w'.cell? ⟨M,3,none⟩=some (.int .i64 c.k)/\w'.cell? ⟨M,4,none⟩=some (.int .i64 c.v)/\w'.cell? ⟨M,5,none⟩=some (.int .i64 c.x)/\w'.cell? ⟨M,6,none⟩=some (.int .i64 c.y)/\w'.cell? ⟨M,7,none⟩=some (.slice xa c.xs.length xc)/\w'.cell? ⟨M,8,none⟩=some (.slice ba c.table.length bc)/\w'.cell? ⟨M,9,none⟩=some (.slice ra c.rows.length rc)) (fun w'=>w'.cell? ⟨ep,0,none⟩=some (.slice ra0 k rc0)) [12] (by kernel_rfl) ⟨HXc.out _ HB1.out,(cells11 (HBx1.out _ HB1.out)).1⟩ (fun hHeld=>?_);generalize X.drew=U at HB1 hHeld ⊢
  refine tB (i:=0) (oi:=⟨some 25,.move (.tmp 3),_,_,_,_⟩) (v:=?v_ab) ?hy_ab (by assumption) ?rest_ab
  case hy_ab=>(intro w hSw;(try dsimp only at hSw);go_simp;try (with_reducible rfl))
  try simp only [Act.put,q1,q2,q3]
  refine tB (i:=1) (oi:=⟨some 26,.move (.tmp 3),_,_,_,_⟩) (v:=?v_ag) ?hy_ag (by assumption) ?rest_ag
  case hy_ag=>(intro w hSw;(try dsimp only at hSw);go_simp;try (with_reducible rfl))
  try simp only [Act.put,q1,q2,q3]
  refine tB (i:=2) (oi:=⟨some 27,.nilCheck (.tmp 26),_,_,_,_⟩) (v:=?v_aa) ?hy_aa (by assumption) ?rest_aa
  case hy_aa=>(intro w hSw;(try dsimp only at hSw);go_simp;try (with_reducible rfl))
  try simp only [Act.put,q1,q2,q3]
  refine tB (i:=3) (oi:=⟨some 28,.fieldAddr 83 (.tmp 27) 0,_,_,_,_⟩) (v:=?v_ac) ?hy_ac (by assumption) ?rest_ac
  case hy_ac=>(intro w hSw;(try dsimp only at hSw);go_simp;try (with_reducible rfl))
  try simp only [Act.put,q1,q2,q3]
  refine tA (i:=4) (oi:=⟨some 29,.load 81 (.tmp 28),_,_,_,_⟩) (v:=?v_ae) ?hy_ae (by assumption) ?rest_ae
  case hy_ae=>(intro w hSw;(try dsimp only at hSw);go_simp;try (with_reducible rfl))
  try simp only [Act.put,q1,q2,q3]
  refine tB (i:=5) (oi:=⟨some 30,.load 56 (.tmp 5),_,_,_,_⟩) (v:=?v_ad) ?hy_ad (by assumption) ?rest_ad
  case hy_ad=>(intro w hSw;(try dsimp only at hSw);go_simp;try (with_reducible rfl))
  try simp only [Act.put,q1,q2,q3]
  refine tB (i:=6) (oi:=⟨some 31,.move (.tmp 4),_,_,_,_⟩) (v:=?v_af) ?hy_af (by assumption) ?rest_af
  case hy_af=>(intro w hSw;(try dsimp only at hSw);go_simp;try (with_reducible rfl))
  try simp only [Act.put,q1,q2,q3]
  refine wpAnyT_one (i:=7) (o:=⟨some 32,.call { callee:=.value (.func 27),args:=#[(.tmp 30),(.tmp 31)],argTypes:=#[56,3] },_,_,_,_⟩) (by kernel_rfl) rfl (fun K hK=>?_);go_simp;refine cA (HRu.out _) ?_;rintro e w3 ⟨rfl,hb3⟩;go_wp2_with fail
  have HB3:Hid (Below X.heap.size X w3):=bl_next HB1.out hb3;clear hHeld hb3;have hHeld:_/\_:=⟨HXc.out _ HB3.out,(cells11 (HBx1.out _ HB3.out)).1⟩;refine hK.out _ _ ⟨hHeld.1,fun _=>hHeld.2⟩ ?_;clear hK K;try simp only [Act.put,q1,q2,q3]
  refine wpAnyT_one (i:=8) (o:=⟨some 33,.buildSlice 81 1 #[(0,(.tmp 32))],_,_,_,_⟩) (by kernel_rfl) rfl (fun K hK=>?_);go_simp;obtain ⟨Y,hY⟩:∃ Y,w3.alloc (.cells #[.func (.func (egC c.kind)) #[] #[],.func (.func (egB c.kind)) #[] #[],.int .i64 c.kind,.int .i64 c.op,.slice ta c.terms.length tc,.int .i64 c.k,.int .i64 c.v,.int .i64 c.x,.int .i64 c.y,.slice xa c.xs.length xc,.slice ba c.table.length bc,.slice ra c.rows.length rc,.int .i64 (k:Int)] 89)=Y:=⟨_,rfl⟩;have hbY:Below w3.heap.size w3 Y:=bAe hY
  have gY:Y.heap[w3.heap.size]?=some (.cells #[.func (.func (egC c.kind)) #[] #[],.func (.func (egB c.kind)) #[] #[],.int .i64 c.kind,.int .i64 c.op,.slice ta c.terms.length tc,.int .i64 c.k,.int .i64 c.v,.int .i64 c.x,.int .i64 c.y,.slice xa c.xs.length xc,.slice ba c.table.length bc,.slice ra c.rows.length rc,.int .i64 (k:Int)] 89 (0,0)):=hAe hY;rw [hY];have HBY:Hid (Below X.heap.size X Y):=bl_next HB3.out hbY;have HSc2:Hid (SrcAt Y (.slice (some ⟨w3.heap.size,0,none⟩) 1 1) 1 13 (ruCells c (.slice ta c.terms.length tc) (.slice xa c.xs.length xc) (.slice ba c.table.length bc) (.slice ra c.rows.length rc) (k:Int))):=src_ru gY;clear hbY gY hY;refine hK.out _ _ ⟨HXc.out _ HBY.out,fun _=>(cells11 (HBx1.out _ HBY.out)).1⟩ ?_;clear hHeld;have hHeld:_/\_:=⟨HXc.out _ HBY.out,(cells11 (HBx1.out _ HBY.out)).1⟩;clear hK K
  try simp only [Act.put,q1,q2,q3]
  refine wpAnyT_one (i:=9) (o:=⟨some 34,.call { callee:=.builtin .append,args:=#[(.tmp 29),(.tmp 33)],argTypes:=#[81,81] },_,_,_,_⟩) (by kernel_rfl) rfl (fun K hK=>?_);have hRY:=HRX.out Y HBY.out;have hown:Y.ownsRow (ep+1) 89 13 (.slice ra0 k rc0) k ys:=by have:=hRY.own;rw [HNl.out] at this;exact this
  refine op_append_src Y (.tmp 29) (.tmp 33) 81 89 (.agg #[.nilFunc,.nilFunc,.int .i64 0,.int .i64 0,.slice none 0 0,.int .i64 0,.int .i64 0,.int .i64 0,.int .i64 0,.slice none 0 0,.slice none 0 0,.slice none 0 0,.int .i64 0]) 13 168 rfl und81 info89 rfl (by decide) (ep+1) _ _ k 1 ys _ (by rfl) (by rfl) hown HSc2.out (by unfold maxLen;omega) (by omega) (by have:=HBY.out.size;have:=HMs.out;omega) (by rfl) ?_;intro rv2 w5 o1 o2 o3;obtain ⟨ra2,rc2,rfl⟩:=own_slice o1;have hb5:Below (ep+1) Y w5:=((Below.refl Y.heap.size Y).mono (by have:=HBY.out.size;have:=HMs.out;omega)).grown o2 (by have:=HBY.out.size;have:=HMs.out;omega) (fun g hg=>(hown.lt g hg).1)
  have g5:w5.heap[ep]?=some (.cells #[.slice ra0 k rc0,.int .i64 (m.cons.length:Int),.bool m.has,.slice a3 m.goal.length c3,.int .i64 0,.int .i64 0,.int .i64 0,.int .i64 0,.int .i64 0,.int .i64 0,.slice none 0 0] 83 (0,0)):=(hb5.block ep (by omega)).trans (HBx1.out _ HBY.out);have hx5:w5.heap[M]?=some (.cells #[.int .i64 c.kind,.int .i64 c.op,.slice ta c.terms.length tc,.int .i64 c.k,.int .i64 c.v,.int .i64 c.x,.int .i64 c.y,.slice xa c.xs.length xc,.slice ba c.table.length bc,.slice ra c.rows.length rc] 56 (0,0)):=(o2.block M (by have:=HBY.out.size;have:=HMs.out;omega) (fun e=>own_ty hown ((HBY.out.block M HMs.out.2.1).trans HgX.out) (by decide) e.symm)).trans ((HBY.out.block M HMs.out.2.1).trans HgX.out)
  have HFr:Hid (∀ v:Value,(w5.setCell ⟨ep,0,none⟩ v).cell? ⟨M,0,none⟩=some (.int .i64 c.kind)/\(w5.setCell ⟨ep,0,none⟩ v).cell? ⟨M,1,none⟩=some (.int .i64 c.op)/\(w5.setCell ⟨ep,0,none⟩ v).cell? ⟨M,2,none⟩=some (.slice ta c.terms.length tc)/\(w5.setCell ⟨ep,0,none⟩ v).cell? ⟨M,3,none⟩=some (.int .i64 c.k)/\(w5.setCell ⟨ep,0,none⟩ v).cell? ⟨M,4,none⟩=some (.int .i64 c.v)/\(w5.setCell ⟨ep,0,none⟩ v).cell? ⟨M,5,none⟩=some (.int .i64 c.x)/\(w5.setCell ⟨ep,0,none⟩ v).cell? ⟨M,6,none⟩=some (.int .i64 c.y)/\(w5.setCell ⟨ep,0,none⟩ v).cell? ⟨M,7,none⟩=some (.slice xa c.xs.length xc)/\(w5.setCell ⟨ep,0,none⟩ v).cell? ⟨M,8,none⟩=some (.slice ba c.table.length bc)/\(w5.setCell ⟨ep,0,none⟩ v).cell? ⟨M,9,none⟩=some (.slice ra c.rows.length rc)):=fun v=>cells10 ((heap_setCell_other _ _ _ _ (show M≠ep from Nat.ne_of_gt HMs.out.2.2)).trans hx5)
  have hx5c:=cells10 hx5;have dz:w5.frozen? ⟨ep,0,none⟩=false:=by simp [World.frozen?,g5]
  have d1:w5.cell? ⟨ep,0,none⟩=some (.slice ra0 k rc0):=(cells11 g5).1;have HB6:Hid ((w5.setCell ⟨ep,0,none⟩ (.slice ra2 (k+1) rc2)).heap[ep]?=some (.cells #[.slice ra2 (k+1) rc2,.int .i64 (m.cons.length:Int),.bool m.has,.slice a3 m.goal.length c3,.int .i64 0,.int .i64 0,.int .i64 0,.int .i64 0,.int .i64 0,.int .i64 0,.slice none 0 0] 83 (0,0))):=heap_setCell_same w5 ep 0 _ 83 _ g5
  have hTo:Off (EnT L H) Y w5:=⟨hb5.size,fun b hb hn=>hb5.block b (by
    have hh:=HEs.out.2.2;have:¬ (H<=b):=fun h=>hn (.inr h)
    omega)⟩
  have HR6:Hid (RsOwn (EnT L H) (ep+1) (w5.setCell ⟨ep,0,none⟩ (.slice ra2 (k+1) rc2)) (.slice ra2 (k+1) rc2) (numL (m.cons.take (k+1))) (ys++ruCells c (.slice ta c.terms.length tc) (.slice xa c.xs.length xc) (.slice ba c.table.length bc) (.slice ra c.rows.length rc) (k:Int))):=by
    show RsOwn _ _ _ _ _ _;rw [HNx.out];have hm:=hRY.more (pl:=(k:Int)) hTo (by rw [HNl.out];exact o1) (HKX.out w5 ((Off.of_below HBY.out).trans hTo));exact hm.next (S:=fun b=>b=ep) (Off.set _ rfl) (fun b e=>.inr (by have:=HEs.out.2.2;omega)) (fun g hg e=>by have:=(o1.lt g hg).1;omega)
  have HO6:Hid (Off (fun b=>b=ep) E (w5.setCell ⟨ep,0,none⟩ (.slice ra2 (k+1) rc2))):=by
    have h1:Off (fun b=>b=ep) E Y:=(HOf.out.trans (Off.of_below HbX.out)).trans (Off.of_below HBY.out);have h2:Off (fun b=>b=ep) E w5:=⟨Nat.le_trans h1.size hb5.size,fun b hb hn=>(hb5.block b (by have:=HEs.out.1;omega)).trans (h1.block b hb hn)⟩;exact h2.trans (Off.set _ rfl)
  have HW6:Hid (Below w.heap.size w (w5.setCell ⟨ep,0,none⟩ (.slice ra2 (k+1) rc2))):=by
    have hh:=HLH.out;have h3:=HEs.out;have h1:Below w.heap.size w Y:=(HBw.out.trans (HbX.out.mono HBw.out.size)).trans (HBY.out.mono (Nat.le_trans HBw.out.size HbX.out.size));exact (h1.trans (hb5.mono (by omega))).setCell (show w.heap.size<=ep by omega) _
  clear hb5 hx5 g5 hTo hRY hown o1 o2 o3 hHeld;have hHeld:_/\_:=⟨hx5c,d1⟩;refine hK.out _ _ ⟨hHeld.1,fun _=>hHeld.2⟩ ?_;clear hK K;try simp only [Act.put,q1,q2,q3]
  refine tB (i:=10) (oi:=⟨some 35,.nilCheck (.tmp 25),_,_,_,_⟩) (v:=?v_ah) ?hy_ah (by assumption) ?rest_ah
  case hy_ah=>(intro w hSw;(try dsimp only at hSw);go_simp;try (with_reducible rfl))
  try simp only [Act.put,q1,q2,q3]
  refine tB (i:=11) (oi:=⟨some 36,.fieldAddr 83 (.tmp 35) 0,_,_,_,_⟩) (v:=?v_ai) ?hy_ai (by assumption) ?rest_ai
  case hy_ai=>(intro w hSw;(try dsimp only at hSw);go_simp;try (with_reducible rfl))
  try simp only [Act.put,q1,q2,q3]
  refine wpAnyT_late (i:=12) (o:=⟨none,.store 81 (.tmp 36) (.tmp 34),_,_,_,_⟩) (by kernel_rfl) rfl (by kernel_rfl) (fun K hK=>?_);go_simp;refine hK.out _ _ ?sh_aj ?rest_aj
  case sh_aj=>((try dsimp only);exact (HFr.out _))
  clear hK K;try simp only [Act.put,q1,q2,q3]
  refine wpAnyT_done (by kernel_rfl) ?_ _;go_wp2_with fail
  go_roundw
  case rel=>exact ⟨k+1,_,_,by go_num,hkn,HB6,HR6,HO6,HW6⟩
  case measure=>simp [intOf];omega
def bndC (goal:List (Int × Int)) (k:Int):Md.Cn:=⟨1,1,goal,k,0,0,0,[],[],[]⟩
theorem nil_ints (w:World):IntsAt w (.slice none 0 0) []:=⟨none,0,rfl,by unfold maxLen;simp,fun h=>absurd h (by simp)⟩
theorem bnd_kcn {T:Nat->Prop} {w:World} {goal:List (Int × Int)} {vg:Value} (k:Int) (h:Kept T w (fun w2=>TermsAt w2 vg goal)):KCn T w (bndC goal k) vg (.slice none 0 0) (.slice none 0 0) (.slice none 0 0):=
  ⟨h,fun w' _=>nil_ints w',(fun a n cp e=>by injection e with _ e2 e3;omega),fun w' _=>nil_ints w',[],⟨rfl,⟨none,0,rfl,by unfold maxLen;simp [bndC],fun h=>absurd h (by simp [bndC])⟩,fun j hj=>absurd hj (by simp)⟩⟩
def BeOut (ep L H n:Nat) (rs:List (Md.Cn × Int)) (goal:List (Int × Int)) (vg:Value) (k:Int) (z0 z1 z2 z3 z4 z5 z6:Value) (w:World) (e:Ending) (w':World):Prop:=e=.returned (.tuple #[])/\∃ rv ys,w'.heap[ep]?=some (.cells #[rv,.int .i64 (n:Int),.bool true,vg,z0,z1,z2,z3,z4,z5,z6] 83 (0,0))/\RsOwn (EnT L H) (ep+1) w' rv (rs++[(bndC goal k,(n:Int))]) ys/\Below ep w w'
theorem egBelow_any (ep L H n:Nat) (rv vg:Value) (rs:List (Md.Cn × Int)) (xs:List Value) (goal:List (Int × Int)) (worth:Int) (z0 z1 z2 z3 z4 z5 z6:Value) (w:World) (hE:w.heap[ep]?=some (.cells #[rv,.int .i64 (n:Int),.bool true,vg,z0,z1,z2,z3,z4,z5,z6] 83 (0,0))) (hR:RsOwn (EnT L H) (ep+1) w rv rs xs) (hn:rs.length=n) (hG:Kept (EnT L H) w (fun w2=>TermsAt w2 vg goal)) (hH:H<=ep) (hnn:n<=1000000) (hw1:-536870912<=worth) (hw2:worth<=536870912):Calls Tryz.prog 11 #[.pointer (some ⟨ep,0,none⟩),.int .i64 worth] w (BeOut ep L H n rs goal vg (worth-1) z0 z1 z2 z3 z4 z5 z6 w):=by
  obtain ⟨ga,gc,rfl,_⟩:=id hG.now;obtain ⟨ra0,rc0,hrv,hrc⟩:=egOwn_slice hR.own;rw [hn] at hrv hrc;subst hrv;have hep:ep<w.heap.size:=(hLt hE);have hmx:max worth (-1152921504606846975)=worth:=by omega
  have hmn:min worth 1152921504606846977=worth:=by omega
  have hwr:IntKind.i64.wrap (worth-1)=worth-1:=by rw [IntKind.wrap_i64];omega
  have hcI:(n:Int)<=(rc0:Int):=by omega
  obtain ⟨X,hX⟩:∃ X,w.alloc (.cells #[.int .i64 1,.int .i64 1,.slice ga goal.length gc,.int .i64 (worth-1),.int .i64 0,.int .i64 0,.int .i64 0,.slice none 0 0,.slice none 0 0,.slice none 0 0] 56)=X:=⟨_,rfl⟩;have hbX:Below w.heap.size w X:=bAe hX;have gX:X.heap[w.heap.size]?=some (.cells #[.int .i64 1,.int .i64 1,.slice ga goal.length gc,.int .i64 (worth-1),.int .i64 0,.int .i64 0,.int .i64 0,.slice none 0 0,.slice none 0 0,.slice none 0 0] 56 (0,0)):=hAe hX;obtain ⟨M,hM⟩:∃ M,w.heap.size=M:=⟨_,rfl⟩;rw [hM] at gX;have HgX:Hid (X.heap[M]?=some (.cells #[.int .i64 1,.int .i64 1,.slice ga goal.length gc,.int .i64 (worth-1),.int .i64 0,.int .i64 0,.int .i64 0,.slice none 0 0,.slice none 0 0,.slice none 0 0] 56 (0,0))):=gX;have HbX:Hid (Below w.heap.size w X):=hbX
  have HMs:Hid (w.heap.size=M/\M<X.heap.size/\ep<M):=⟨hM,(hLt gX),by omega⟩;have HBx1:Hid (∀ w',Below X.heap.size X w'->w'.heap[ep]?=some (.cells #[.slice ra0 n rc0,.int .i64 (n:Int),.bool true,.slice ga goal.length gc,z0,z1,z2,z3,z4,z5,z6] 83 (0,0))):=fun w' hb=>(hb.block ep (by have:=HMs.out;omega)).trans ((HbX.out.block ep (by have:=HMs.out;omega)).trans hE)
  have HXc:Hid (∀ w',Below X.heap.size X w'->w'.cell? ⟨M,0,none⟩=some (.int .i64 1)/\w'.cell? ⟨M,1,none⟩=some (.int .i64 1)/\w'.cell? ⟨M,2,none⟩=some (.slice ga goal.length gc)/\w'.cell? ⟨M,3,none⟩=some (.int .i64 (worth-1))/\w'.cell? ⟨M,4,none⟩=some (.int .i64 0)/\w'.cell? ⟨M,5,none⟩=some (.int .i64 0)/\w'.cell? ⟨M,6,none⟩=some (.int .i64 0)/\w'.cell? ⟨M,7,none⟩=some (.slice none 0 0)/\w'.cell? ⟨M,8,none⟩=some (.slice none 0 0)/\w'.cell? ⟨M,9,none⟩=some (.slice none 0 0)):=fun w' hb=>cells10 ((hb.block M HMs.out.2.1).trans HgX.out)
  have HRu:Hid (∀ w',Calls Tryz.prog 27 #[.agg #[.int .i64 1,.int .i64 1,.slice ga goal.length gc,.int .i64 (worth-1),.int .i64 0,.int .i64 0,.int .i64 0,.slice none 0 0,.slice none 0 0,.slice none 0 0],.int .i64 (n:Int)] w' fun e w2=>e=.returned (.agg #[.func (.func 78) #[] #[],.func (.func 79) #[] #[],.int .i64 1,.int .i64 1,.slice ga goal.length gc,.int .i64 (worth-1),.int .i64 0,.int .i64 0,.int .i64 0,.slice none 0 0,.slice none 0 0,.slice none 0 0,.int .i64 (n:Int)])/\Below w'.heap.size w' w2):=fun w'=>egRule_any (bndC goal (worth-1)) _ _ _ _ (n:Int) w' ga none none none _ gc _ 0 _ 0 _ 0 rfl rfl rfl rfl
  have HRX:Hid (∀ w',Below X.heap.size X w'->RsOwn (EnT L H) (ep+1) w' (.slice ra0 n rc0) rs xs):=fun w' hb=>hR.next (S:=fun _=>False) ((Off.of_below HbX.out).trans (Off.of_below hb)) (fun _ h=>h.elim) (fun _ _ h=>h)
  have HKX:Hid (∀ w',Off (EnT L H) w w'->KCn (EnT L H) w' (bndC goal (worth-1)) (.slice ga goal.length gc) (.slice none 0 0) (.slice none 0 0) (.slice none 0 0)):=fun w' ho=>(bnd_kcn (worth-1) hG).next ho
  have HN:Hid (rs.length=n/\H<=ep):=⟨hn,hH⟩;have e0:=cell_of hE 0;have e1:=cell_of hE 1;have e2:=cell_of hE 2;have e3:=cell_of hE 3;have HXe:Hid (w.alloc (.cells #[.int .i64 1,.int .i64 1,.slice ga goal.length gc,.int .i64 (worth-1),.int .i64 0,.int .i64 0,.int .i64 0,.slice none 0 0,.slice none 0 0,.slice none 0 0] 56)=X):=hX;clear hE hR hG gX hbX hn hep hX hM;go_enter Tryz.func11,Tryz.ntmps11;go_upto_region 3 with fail
  rw [HXe.out,HMs.out.1];clear HXe e0 e1 e2 e3;have HB1:Hid (Below X.heap.size X X.drew):=(Below.refl _ _).drew;refine wp_region_T (fun w'=>w'.cell? ⟨ep,1,none⟩=some (.int .i64 (n:Int))/\w'.cell? ⟨M,0,none⟩=some (.int .i64 1)/\w'.cell? ⟨M,1,none⟩=some (.int .i64 1)/\w'.cell? ⟨M,2,none⟩=some (.slice ga goal.length gc)/\w'.cell? ⟨M,3,none⟩=some (.int .i64 (worth-1))/\w'.cell? ⟨M,4,none⟩=some (.int .i64 0)/\w'.cell? ⟨M,5,none⟩=some (.int .i64 0)/\w'.cell? ⟨M,6,none⟩=some (.int .i64 0)/\w'.cell? ⟨M,7,none⟩=some (.slice none 0 0)/\w'.cell? ⟨M,8,none⟩=some (.slice none 0 0)/\w'.cell? ⟨M,9,none⟩=some (.slice none 0 0)) (fun w'=>w'.cell? ⟨ep,0,none⟩=some (.slice ra0 n rc0)) [20] (by kernel_rfl) ⟨⟨cell_of (HBx1.out _ HB1.out) 1,HXc.out _ HB1.out⟩,cell_of (HBx1.out _ HB1.out) 0⟩ (fun hHeld=>?_)
  generalize X.drew=U at HB1 hHeld ⊢
  refine tB (i:=0) (oi:=⟨some 21,.move (.tmp 0),_,_,_,_⟩) (v:=?v_ae) ?hy_ae (by assumption) ?rest_ae
  case hy_ae=>(intro w hSw;(try dsimp only at hSw);go_simp;try (with_reducible rfl))
  try simp only [Act.put,q1,q2,q3]
  refine tB (i:=1) (oi:=⟨some 22,.move (.tmp 0),_,_,_,_⟩) (v:=?v_af) ?hy_af (by assumption) ?rest_af
  case hy_af=>(intro w hSw;(try dsimp only at hSw);go_simp;try (with_reducible rfl))
  try simp only [Act.put,q1,q2,q3]
  refine tB (i:=2) (oi:=⟨some 23,.nilCheck (.tmp 22),_,_,_,_⟩) (v:=?v_ah) ?hy_ah (by assumption) ?rest_ah
  case hy_ah=>(intro w hSw;(try dsimp only at hSw);go_simp;try (with_reducible rfl))
  try simp only [Act.put,q1,q2,q3]
  refine tB (i:=3) (oi:=⟨some 24,.fieldAddr 83 (.tmp 23) 0,_,_,_,_⟩) (v:=?v_ag) ?hy_ag (by assumption) ?rest_ag
  case hy_ag=>(intro w hSw;(try dsimp only at hSw);go_simp;try (with_reducible rfl))
  try simp only [Act.put,q1,q2,q3]
  refine tA (i:=4) (oi:=⟨some 25,.load 81 (.tmp 24),_,_,_,_⟩) (v:=?v_ai) ?hy_ai (by assumption) ?rest_ai
  case hy_ai=>(intro w hSw;(try dsimp only at hSw);go_simp;try (with_reducible rfl))
  try simp only [Act.put,q1,q2,q3]
  refine tB (i:=5) (oi:=⟨some 26,.move (.tmp 0),_,_,_,_⟩) (v:=?v_aj) ?hy_aj (by assumption) ?rest_aj
  case hy_aj=>(intro w hSw;(try dsimp only at hSw);go_simp;try (with_reducible rfl))
  try simp only [Act.put,q1,q2,q3]
  refine tB (i:=6) (oi:=⟨some 27,.nilCheck (.tmp 26),_,_,_,_⟩) (v:=?v_ab) ?hy_ab (by assumption) ?rest_ab
  case hy_ab=>(intro w hSw;(try dsimp only at hSw);go_simp;try (with_reducible rfl))
  try simp only [Act.put,q1,q2,q3]
  refine tB (i:=7) (oi:=⟨some 28,.fieldAddr 83 (.tmp 27) 1,_,_,_,_⟩) (v:=?v_aa) ?hy_aa (by assumption) ?rest_aa
  case hy_aa=>(intro w hSw;(try dsimp only at hSw);go_simp;try (with_reducible rfl))
  try simp only [Act.put,q1,q2,q3]
  refine tB (i:=8) (oi:=⟨some 29,.load 3 (.tmp 28),_,_,_,_⟩) (v:=?v_ac) ?hy_ac (by assumption) ?rest_ac
  case hy_ac=>(intro w hSw;(try dsimp only at hSw);go_simp;try (with_reducible rfl))
  try simp only [Act.put,q1,q2,q3]
  refine tB (i:=9) (oi:=⟨some 30,.slice 81 (.tmp 25) none (some (.tmp 29)) none,_,_,_,_⟩) (v:=?v_ad) ?hy_ad (by assumption) ?rest_ad
  case hy_ad=>(intro w hSw;(try dsimp only at hSw);go_simp;try (with_reducible rfl))
  try simp only [Act.put,q1,q2,q3]
  refine tB (i:=10) (oi:=⟨some 31,.load 56 (.tmp 5),_,_,_,_⟩) (v:=?v_al) ?hy_al (by assumption) ?rest_al
  case hy_al=>(intro w hSw;(try dsimp only at hSw);go_simp;try (with_reducible rfl))
  try simp only [Act.put,q1,q2,q3]
  refine tB (i:=11) (oi:=⟨some 32,.move (.tmp 0),_,_,_,_⟩) (v:=?v_ap) ?hy_ap (by assumption) ?rest_ap
  case hy_ap=>(intro w hSw;(try dsimp only at hSw);go_simp;try (with_reducible rfl))
  try simp only [Act.put,q1,q2,q3]
  refine tB (i:=12) (oi:=⟨some 33,.nilCheck (.tmp 32),_,_,_,_⟩) (v:=?v_ao) ?hy_ao (by assumption) ?rest_ao
  case hy_ao=>(intro w hSw;(try dsimp only at hSw);go_simp;try (with_reducible rfl))
  try simp only [Act.put,q1,q2,q3]
  refine tB (i:=13) (oi:=⟨some 34,.fieldAddr 83 (.tmp 33) 1,_,_,_,_⟩) (v:=?v_aq) ?hy_aq (by assumption) ?rest_aq
  case hy_aq=>(intro w hSw;(try dsimp only at hSw);go_simp;try (with_reducible rfl))
  try simp only [Act.put,q1,q2,q3]
  refine tB (i:=14) (oi:=⟨some 35,.load 3 (.tmp 34),_,_,_,_⟩) (v:=?v_ak) ?hy_ak (by assumption) ?rest_ak
  case hy_ak=>(intro w hSw;(try dsimp only at hSw);go_simp;try (with_reducible rfl))
  try simp only [Act.put,q1,q2,q3]
  refine wpAnyT_one (i:=15) (o:=⟨some 36,.call { callee:=.value (.func 27),args:=#[(.tmp 31),(.tmp 35)],argTypes:=#[56,3] },_,_,_,_⟩) (by kernel_rfl) rfl (fun K hK=>?_);go_simp;refine cA (HRu.out _) ?_;rintro e w3 ⟨rfl,hb3⟩;go_wp2_with fail
  have HB3:Hid (Below X.heap.size X w3):=bl_next HB1.out hb3;clear hHeld hb3;have hHeld:_/\_:=⟨(⟨cell_of (HBx1.out _ HB3.out) 1,HXc.out _ HB3.out⟩:_/\_),(cell_of (HBx1.out _ HB3.out) 0:_)⟩;refine hK.out _ _ ⟨hHeld.1,fun _=>hHeld.2⟩ ?_;clear hK K;try simp only [Act.put,q1,q2,q3]
  refine wpAnyT_one (i:=16) (o:=⟨some 37,.buildSlice 81 1 #[(0,(.tmp 36))],_,_,_,_⟩) (by kernel_rfl) rfl (fun K hK=>?_);go_simp;obtain ⟨Y,hY⟩:∃ Y,w3.alloc (.cells #[.func (.func 78) #[] #[],.func (.func 79) #[] #[],.int .i64 1,.int .i64 1,.slice ga goal.length gc,.int .i64 (worth-1),.int .i64 0,.int .i64 0,.int .i64 0,.slice none 0 0,.slice none 0 0,.slice none 0 0,.int .i64 (n:Int)] 89)=Y:=⟨_,rfl⟩;have hbY:Below w3.heap.size w3 Y:=bAe hY;have gY:Y.heap[w3.heap.size]?=some (.cells #[.func (.func 78) #[] #[],.func (.func 79) #[] #[],.int .i64 1,.int .i64 1,.slice ga goal.length gc,.int .i64 (worth-1),.int .i64 0,.int .i64 0,.int .i64 0,.slice none 0 0,.slice none 0 0,.slice none 0 0,.int .i64 (n:Int)] 89 (0,0)):=hAe hY;rw [hY];have HBY:Hid (Below X.heap.size X Y):=bl_next HB3.out hbY
  have HSc2:Hid (SrcAt Y (.slice (some ⟨w3.heap.size,0,none⟩) 1 1) 1 13 (ruCells (bndC goal (worth-1)) (.slice ga goal.length gc) (.slice none 0 0) (.slice none 0 0) (.slice none 0 0) (n:Int))):=src_ru gY;clear hbY gY hY;clear hHeld;have hHeld:_/\_:=⟨(⟨cell_of (HBx1.out _ HBY.out) 1,HXc.out _ HBY.out⟩:_/\_),(cell_of (HBx1.out _ HBY.out) 0:_)⟩;refine hK.out _ _ ⟨hHeld.1,fun _=>hHeld.2⟩ ?_;clear hK K;try simp only [Act.put,q1,q2,q3]
  refine wpAnyT_one (i:=17) (o:=⟨some 38,.call { callee:=.builtin .append,args:=#[(.tmp 30),(.tmp 37)],argTypes:=#[81,81] },_,_,_,_⟩) (by kernel_rfl) rfl (fun K hK=>?_);have hRY:=HRX.out Y HBY.out;have hown:Y.ownsRow (ep+1) 89 13 (.slice ra0 n rc0) n xs:=by have:=hRY.own;rw [HN.out.1] at this;exact this
  refine op_append_src Y (.tmp 30) (.tmp 37) 81 89 (.agg #[.nilFunc,.nilFunc,.int .i64 0,.int .i64 0,.slice none 0 0,.int .i64 0,.int .i64 0,.int .i64 0,.int .i64 0,.slice none 0 0,.slice none 0 0,.slice none 0 0,.int .i64 0]) 13 168 rfl und81 info89 rfl (by decide) (ep+1) _ _ n 1 xs _ (by rfl) (by rfl) hown HSc2.out (by unfold maxLen;omega) (by omega) (by have:=HBY.out.size;have:=HMs.out;omega) (by rfl) ?_;intro rv2 w5 o1 o2 o3;obtain ⟨ra2,rc2,rfl⟩:=own_slice o1;have hb5:Below (ep+1) Y w5:=((Below.refl Y.heap.size Y).mono (by have:=HBY.out.size;have:=HMs.out;omega)).grown o2 (by have:=HBY.out.size;have:=HMs.out;omega) (fun g hg=>(hown.lt g hg).1)
  have g5:w5.heap[ep]?=some (.cells #[.slice ra0 n rc0,.int .i64 (n:Int),.bool true,.slice ga goal.length gc,z0,z1,z2,z3,z4,z5,z6] 83 (0,0)):=(hb5.block ep (by omega)).trans (HBx1.out _ HBY.out);have hx5:w5.heap[M]?=some (.cells #[.int .i64 1,.int .i64 1,.slice ga goal.length gc,.int .i64 (worth-1),.int .i64 0,.int .i64 0,.int .i64 0,.slice none 0 0,.slice none 0 0,.slice none 0 0] 56 (0,0)):=(o2.block M (by have:=HBY.out.size;have:=HMs.out;omega) (fun e=>own_ty hown ((HBY.out.block M HMs.out.2.1).trans HgX.out) (by decide) e.symm)).trans ((HBY.out.block M HMs.out.2.1).trans HgX.out);have HB6:Hid ((w5.setCell ⟨ep,0,none⟩ (.slice ra2 (n+1) rc2)).heap[ep]?=some (.cells #[.slice ra2 (n+1) rc2,.int .i64 (n:Int),.bool true,.slice ga goal.length gc,z0,z1,z2,z3,z4,z5,z6] 83 (0,0))):=heap_setCell_same w5 ep 0 _ 83 _ g5
  have HFr:Hid (∀ v:Value,(w5.setCell ⟨ep,0,none⟩ v).cell? ⟨ep,1,none⟩=some (.int .i64 (n:Int))/\(w5.setCell ⟨ep,0,none⟩ v).cell? ⟨M,0,none⟩=some (.int .i64 1)/\(w5.setCell ⟨ep,0,none⟩ v).cell? ⟨M,1,none⟩=some (.int .i64 1)/\(w5.setCell ⟨ep,0,none⟩ v).cell? ⟨M,2,none⟩=some (.slice ga goal.length gc)/\(w5.setCell ⟨ep,0,none⟩ v).cell? ⟨M,3,none⟩=some (.int .i64 (worth-1))/\(w5.setCell ⟨ep,0,none⟩ v).cell? ⟨M,4,none⟩=some (.int .i64 0)/\(w5.setCell ⟨ep,0,none⟩ v).cell? ⟨M,5,none⟩=some (.int .i64 0)/\(w5.setCell ⟨ep,0,none⟩ v).cell? ⟨M,6,none⟩=some (.int .i64 0)/\(w5.setCell ⟨ep,0,none⟩ v).cell? ⟨M,7,none⟩=some (.slice none 0 0)/\(w5.setCell ⟨ep,0,none⟩ v).cell? ⟨M,8,none⟩=some (.slice none 0 0)/\(w5.setCell ⟨ep,0,none⟩ v).cell? ⟨M,9,none⟩=some (.slice none 0 0)):=fun v=>⟨cell_of (heap_setCell_same w5 ep 0 _ 83 v g5) 1,cells10 ((heap_setCell_other _ _ _ _ (show M≠ep from Nat.ne_of_gt HMs.out.2.2)).trans hx5)⟩
  have hx5c:=cells10 hx5;have dz:w5.frozen? ⟨ep,0,none⟩=false:=by simp [World.frozen?,g5]
  have d1:w5.cell? ⟨ep,0,none⟩=some (.slice ra0 n rc0):=cell_of g5 0;have d2:w5.cell? ⟨ep,1,none⟩=some (.int .i64 (n:Int)):=cell_of g5 1
  have hTo:Off (EnT L H) Y w5:=⟨hb5.size,fun b hb hn=>hb5.block b (by
    have hh:=HN.out.2;have:¬ (H<=b):=fun h=>hn (.inr h)
    omega)⟩
  have HR6:Hid (RsOwn (EnT L H) (ep+1) (w5.setCell ⟨ep,0,none⟩ (.slice ra2 (n+1) rc2)) (.slice ra2 (n+1) rc2) (rs++[(bndC goal (worth-1),(n:Int))]) (xs++ruCells (bndC goal (worth-1)) (.slice ga goal.length gc) (.slice none 0 0) (.slice none 0 0) (.slice none 0 0) (n:Int))):=by
    have hm:=hRY.more (pl:=(n:Int)) hTo (by rw [HN.out.1];exact o1) (HKX.out w5 (((Off.of_below HbX.out).trans (Off.of_below HBY.out)).trans hTo));exact hm.next (S:=fun b=>b=ep) (Off.set _ rfl) (fun b e=>.inr (by have:=HN.out.2;omega)) (fun g hg e=>by have:=(o1.lt g hg).1;omega)
  have HW6:Hid (Below ep w (w5.setCell ⟨ep,0,none⟩ (.slice ra2 (n+1) rc2))):=by
    have hm:=HMs.out;have h1:Below w.heap.size w Y:=HbX.out.trans (HBY.out.mono HbX.out.size);exact ((h1.mono (by omega)).trans (hb5.mono (by omega))).setCell (show ep<=ep from Nat.le_refl _) _
  clear hb5 hx5 g5 hTo hRY hown o1 o2 o3 hHeld;have hHeld:_/\_:=⟨(⟨d2,hx5c⟩:_/\_),d1⟩;refine hK.out _ _ ⟨hHeld.1,fun _=>hHeld.2⟩ ?_;clear hK K;try simp only [Act.put,q1,q2,q3]
  refine tB (i:=18) (oi:=⟨some 39,.nilCheck (.tmp 21),_,_,_,_⟩) (v:=?v_ar) ?hy_ar (by assumption) ?rest_ar
  case hy_ar=>(intro w hSw;(try dsimp only at hSw);go_simp;try (with_reducible rfl))
  try simp only [Act.put,q1,q2,q3]
  refine tB (i:=19) (oi:=⟨some 40,.fieldAddr 83 (.tmp 39) 0,_,_,_,_⟩) (v:=?v_am) ?hy_am (by assumption) ?rest_am
  case hy_am=>(intro w hSw;(try dsimp only at hSw);go_simp;try (with_reducible rfl))
  try simp only [Act.put,q1,q2,q3]
  refine wpAnyT_late (i:=20) (o:=⟨none,.store 81 (.tmp 40) (.tmp 38),_,_,_,_⟩) (by kernel_rfl) rfl (by kernel_rfl) (fun K hK=>?_);go_simp;refine hK.out _ _ ?sh_an ?rest_an
  case sh_an=>((try dsimp only);exact (HFr.out _))
  clear hK K;try simp only [Act.put,q1,q2,q3]
  refine wpAnyT_done (by kernel_rfl) ?_ _;go_wp2_with fail
  go_end0;exact ⟨rfl,_,_,HB6.out,HR6.out,HW6.out⟩
end Go.Proofs.YtjnckfchgcmmpaaGreatDoor
