import Derived.Test.YtjnckfchgcmmpaaGreatDoorJ05
import Derived.Test.YtjnckfchgcmmpaaGreatDoorJ50
namespace Go.Proofs.YtjnckfchgcmmpaaGreatDoor
open Go.RowKit
set_option maxRecDepth 10000
set_option maxHeartbeats 8000000
theorem lies_inside:∀ {l:List Md.Vr} {vs:List Int},(∀ v∈l,Md.boundsB v.lo v.hi=true)->Lies (l.map wholeD) vs->Md.insideB l vs=true
  | [],[],_,_=>rfl
  | [],_ :: _,_,h=>by cases h
  | _ :: _,[],_,h=>by cases h
  | v :: l, x :: xs, hb, h => by
    have h:(wholeD v).has x=true/\Lies (l.map wholeD) xs:=h;show (decide (v.lo<=x/\x<=v.hi)&&Md.insideB l xs)=true;rw [lies_inside (fun u hu=>hb u (List.mem_cons_of_mem _ hu)) h.2,decide_eq_true ((new_has (hb v (List.mem_cons_self ..)) x).1 h.1)];rfl
theorem new_now {m:Md.Mo} (h:(Md.check m).2=0):(newS m).now=m.vars.map wholeD:=by
  unfold newS;rw [if_pos h]
theorem cp_mo {w w':World} {m:Md.Mo} {v1 v2 v3:Value} {xs:List Value} (h1:COwn w.heap.size m.cons.length w.heap.size (w.heap.size+1) w' v2 m.cons xs) (h2:Kept (fun b=>b<w.heap.size∨ob v2 b∨b=w.heap.size+1) w' (fun w2=>VarsAt w2 v1 m.vars)) (h3:∀ a n cp,v1=.slice a n cp->n<=cp) (h4:Kept (fun b=>b<w.heap.size∨ob v2 b∨b=w.heap.size+1) w' (fun w2=>TermsAt w2 v3 m.goal)) (hl:m.cons.length<=1000000):MoAt w' m v1 v2 v3:=⟨h2.now,h3,h1.cons (by unfold maxLen;omega),h4.now⟩
theorem right_small {m:Md.Mo} (h:(Md.check m).2=0):(m.vars.length<=1000000/\m.cons.length<=1000000/\m.goal.length<=1000000)/\∀ c∈m.cons,c.terms.length<=1000000/\c.xs.length<=1000000/\c.table.length<=1000000/\c.rows.length<=1000000/\∀ r∈c.rows,r.length<=1000000:=by
  have hR:=Md.right_of h;have hg:m.goal.length<=64:=by
    have hg:=hR.goal;unfold Md.goalFault at hg
    split at hg
    · split at hg
      · cases hg
      · omega
    · split at hg
      · cases hg
      · rename_i hf
        have hf:¬ (m.goal.length<1∨64<m.goal.length):=by simpa [Md.fewB] using hf
        omega
  have hnv:=hR.nv;have hnc:=hR.nc;refine ⟨⟨by omega,by omega,by omega⟩,fun c hc=>?_⟩;have hf:=Md.fit_of (hR.con c hc);have h1:=hf.tl;have h2:=hf.xl;have h3:=hf.bl;have h4:=hf.rl;exact ⟨by omega,by omega,by omega,by omega,fun r hr=>by have:=hf.rr r hr;omega⟩
theorem fx_run {K B p ep L H:Nat} {nv mv rv e1 e2 e3 z0 z1 z2 z3 z4 z5 z6:Value} {xs:List Value} {rs:List (Md.Cn × Int)} {s:St} {vs:List Int} {w2:World} (hS:StAt B w2 p nv mv s) (hA:Alls s) (hl:Lies s.now vs) (h1:Ones s.now) (hn:1<=s.now.length/\s.now.length<=32) (hO:∀ k,Own p nv mv k->k<L) (hL:1<=L/\L<=H/\H<=ep) (hE:w2.heap[ep]?=some (.cells #[rv,e1,e2,e3,z0,z1,z2,z3,z4,z5,z6] 83 (0,0))) (hR:RsOwn (EnT L H) (ep+1) w2 rv rs xs) (hrs:∀ r∈rs,Md.fault r.1 s.now.length=0) (hT:Tz w2) (hK:K<=B/\K<=ep) (f0:Nat) (hf:rs.length<f0) (hf2:f0<=1000000):Calls Tryz.prog 12 #[.pointer (some ⟨ep,0,none⟩),.pointer (some ⟨p,0,none⟩),.int .i64 (f0:Int)] w2 fun e w3=>∃ a cap f how,e=.returned (.tuple #[.slice a 0 cap,.int .i64 f,.int .i64 how])/\how≠3/\(how=1↔∀ r∈rs,Md.hold r.1 vs=true)/\Below K w2 w3:=by
  obtain ⟨ra,rc,rfl,_⟩:=egOwn_slice hR.own;refine (egRun_any K B p ep hK.1 hK.2 nv mv s w2 ra rc rs _ _ _ _ _ _ _ _ _ _ f0 hE (by omega) (fun h=>by have:=hO ep h;omega) (hR.ru (fun b hb=>?_) (fun g h2 h3 hs=>?_)) (fun r hr=>?_) (by omega) (by omega) hS hA hT (fun d i f s' acc h=>?_)).mono ?_
  · rcases hb with hb | hb
    · exact .inl (hO b hb)
    · exact .inr (by omega)
  · rcases hs with hs | hs
    · have:=hO g hs
      omega
    · omega
  · have:=(Md.fit_of (hrs r hr)).xl
    omega
  · obtain ⟨_,rfl,_⟩:=fixed_reach hA hl h1 hn hrs h
    simp
  · rintro e w3 ⟨acc,f,how,s',v,hr,rfl,ho,hS3,hof,hbl⟩
    obtain ⟨rfl,h2,h3⟩:=fixed_run hA hl h1 hn hrs hf hr;obtain ⟨a,cap,rfl,_⟩:=egOwn_slice ho;exact ⟨a,cap,f,how,rfl,h2,h3,hbl⟩
def FxP (m:Md.Mo) (ins:List Int) (worth:Int) (bb:Bool) (p:Nat) (nv mv:Value) (B K ep L H:Nat) (s:St) (w wx:World):Prop:=∃ rv e3 xs rs,wx.heap[ep]?=some (.cells #[rv,.int .i64 (m.cons.length:Int),.bool m.has,e3,.int .i64 0,.int .i64 0,.int .i64 0,.int .i64 0,.int .i64 0,.int .i64 0,.slice none 0 0] 83 (0,0))/\RsOwn (EnT L H) (ep+1) wx rv rs xs/\(∀ r∈rs,Md.fault r.1 m.vars.length=0)/\rs.length<=m.cons.length+1/\((∀ r∈rs,Md.hold r.1 ins=true)↔((m.cons.all fun c=>Md.hold c ins)=true/\(bb=true->Md.sum m.goal ins<worth)))/\StAt B wx p nv mv s/\Tz wx/\Below K w wx
theorem num_hold {l:List Md.Cn} {vs:List Int}:(∀ r∈numL l,Md.hold r.1 vs=true)↔(l.all fun c=>Md.hold c vs)=true:=by
  rw [List.all_eq_true]
  constructor
  · intro h c hc
    obtain ⟨i,hi,rfl⟩:=List.getElem_of_mem hc;have hi2:i<(numL l).length:=by rw [numL_len];exact hi
    have:=h _ (List.getElem_mem hi2);rw [numL_get] at this;exact this
  · intro h r hr
    obtain ⟨i,hi,rfl⟩:=List.getElem_of_mem hr;rw [numL_get];exact h _ (List.getElem_mem _)
theorem num_fault {m:Md.Mo} (hR:Md.Right m):∀ r∈numL m.cons,Md.fault r.1 m.vars.length=0:=by
  intro r hr;obtain ⟨i,hi,rfl⟩:=List.getElem_of_mem hr;rw [numL_get];exact hR.con _ (List.getElem_mem _)
theorem engineFixed_walk (m:Md.Mo) (vv vc vg:Value) (ia:Option Addr) (ic:Nat) (ins:List Int) (worth:Int) (bnd:Bool) (w:World) (hM:MoAt w m vv vc vg) (hI:IntsAt w (.slice ia ins.length ic) ins) (hT:Tz w) (hs:0<w.heap.size):Calls Tryz.prog 3 #[moVal m vv vc vg,.slice ia ins.length ic,.int .i64 worth,.bool bnd] w fun e w'=>e=.returned (.bool true)/\Below w.heap.size w w':=by
  obtain ⟨W,hW⟩:∃ W,w.alloc (.cells #[vv,vc,.bool m.has,vg] 26)=W:=⟨_,rfl⟩;have hb0:Below w.heap.size w W:=bAe hW;have g0:W.heap[w.heap.size]?=some (.cells #[vv,vc,.bool m.has,vg] 26 (0,0)):=hAe hW;have hsW:0<W.heap.size:=Nat.lt_of_lt_of_le hs hb0.size;have HTW:Hid (Tz W/\0<W.heap.size):=⟨hT.below hb0 hs,hsW⟩;have HBW:Hid (Below w.heap.size w W):=hb0;have HM:Hid (∀ w',Below W.heap.size W w'->MoAt w' m vv vc vg):=fun w' hb=>hM.below (hb0.trans (hb.mono hb0.size))
  have HI:Hid (∀ w',Below W.heap.size W w'->IntsAt w' (.slice ia ins.length ic) ins):=fun w' hb=>hI.below (hb0.trans (hb.mono hb0.size))
  have HG:Hid (∀ w',Below W.heap.size W w'->w'.cell? ⟨w.heap.size,0,none⟩=some vv/\w'.cell? ⟨w.heap.size,1,none⟩=some vc/\w'.cell? ⟨w.heap.size,2,none⟩=some (.bool m.has)/\w'.cell? ⟨w.heap.size,3,none⟩=some vg):=fun w' hb=>by
    have e0:=(hb.block _ (hLt g0)).trans g0;exact ⟨cell_of e0 0,cell_of e0 1,cell_of e0 2,cell_of e0 3⟩
  have HKn:Hid (Calls Tryz.prog 4 #[] W fun e w2=>e=.returned (.bool true)/\Below W.heap.size W w2):=known_any W HTW.out.1 hsW;have HCk:Hid (∀ w',Below W.heap.size W w'->Calls Tryz.prog 5 #[.agg #[vv,vc,.bool m.has,vg]] w' fun e w2=>e=.returned (.tuple #[.int .i64 (Md.check m).1,.int .i64 (Md.check m).2])/\Below w'.heap.size w' w2):=fun w' hb=>check_any m vv vc vg w' (HM.out w' hb)
  obtain ⟨va,vcp,rfl,_⟩:=id hM.v;obtain ⟨ca,ccp,rfl,_⟩:=id hM.c;obtain ⟨ga,gcp,rfl,_⟩:=id hM.g;have hmv:moVal m (.slice va m.vars.length vcp) (.slice ca m.cons.length ccp) (.slice ga m.goal.length gcp)=.agg #[.slice va m.vars.length vcp,.slice ca m.cons.length ccp,.bool m.has,.slice ga m.goal.length gcp]:=rfl;rw [hmv];clear hM hI hT hs hb0 g0 hsW hmv;go_enter Tryz.func3,Tryz.ntmps3;go_upto_region 1 with fail
  try rw [hW]
  clear hW;go_upto_region 3 with (go_at_call 4;refine cA HKn.out ?_;rintro e w1 ⟨rfl,hb1⟩);have HB1:Hid (Below W.heap.size W w1):=hb1;obtain ⟨p0,p1,p2,p3⟩:=HG.out w1 hb1;have HCk1:=HCk.out w1 hb1;obtain ⟨k1,hk1⟩:∃ k,(Md.check m).1=k:=⟨_,rfl⟩;obtain ⟨k2,hk2⟩:∃ k,(Md.check m).2=k:=⟨_,rfl⟩;rw [hk1,hk2] at HCk1;have HCk2:Hid (Calls Tryz.prog 5 #[.agg #[.slice va m.vars.length vcp,.slice ca m.cons.length ccp,.bool m.has,.slice ga m.goal.length gcp]] w1 fun e w2=>e=.returned (.tuple #[.int .i64 k1,.int .i64 k2])/\Below w1.heap.size w1 w2):=HCk1;have HK2:Hid ((Md.check m).2=k2):=hk2;clear hb1 HKn HCk HCk1 hk1 hk2;go_upto_region 4 with (go_at_call 5;refine cA HCk2.out ?_;rintro e w2 ⟨rfl,hb2⟩);have HB2:Hid (Below W.heap.size W w2):=bl_next HB1.out hb2;clear hb2 p0 p1 p2 p3 HCk2 HB1
  obtain ⟨p0,p1,p2,p3⟩:=HG.out w2 HB2.out;go_cut [42] from 25 to 42 (fun s42 wx=>∃ b:Bool,s42=.bool b/\Hid (b=false->k2=0/\ins.length=m.vars.length/\-536870912<=worth/\worth<=536870912)/\Hid (Below W.heap.size W wx))
  case first=>
    by_cases c1:k2=0
    case neg=>
      go_wp2_with fail
      go_meet;exact ⟨true,by simp,(fun h=>by cases h),HB2⟩
    case pos=>
    subst c1
    by_cases c2:ins.length=m.vars.length
    case neg=>
      have c2I:¬ ((ins.length:Int)=(m.vars.length:Int)):=by omega
      go_wp2_with fail
      go_meet;exact ⟨true,by simp,(fun h=>by cases h),HB2⟩
    case pos=>
    have HC2:Hid (ins.length=m.vars.length):=c2;have c2b:((ins.length:Int) != (m.vars.length:Int))=false:=by simp [c2]
    have c2e:((ins.length:Int)==(m.vars.length:Int))=true:=by simp [c2]
    clear c2
    by_cases c3:worth < -536870912
    case pos=>
      go_wp2_with fail
      go_meet;exact ⟨true,rfl,(fun h=>by cases h),HB2⟩
    case neg=>
    by_cases c4:536870912<worth
    case pos=>
      go_wp2_with fail
      go_meet;exact ⟨true,rfl,(fun h=>by cases h),HB2⟩
    case neg=>
      go_wp2_with fail
      go_meet;exact ⟨false,rfl,(fun _=>⟨by trivial,HC2.out,by omega,by omega⟩),HB2⟩
  case rest=>
  clear HB2 p0 p1 p2 p3;obtain ⟨b42,rfl,HC42,HB2⟩:=hcut;rename World=>w2
  cases b42 with
  | true =>
    go_wp2_with fail
    go_ret;exact ⟨rfl,HBW.out.trans (HB2.out.mono HBW.out.size)⟩
  | false=>
  obtain ⟨hk0,hil,hw1,hw2⟩:=HC42.out rfl;subst hk0;have hR:=Md.right_of HK2.out;have hnv:=hR.nv;have hnc:=hR.nc;have HRt:Hid (Md.Right m):=hR;have HSm:Hid ((m.vars.length<=1000000/\m.cons.length<=1000000/\m.goal.length<=1000000)/\∀ c∈m.cons,c.terms.length<=1000000/\c.xs.length<=1000000/\c.table.length<=1000000/\c.rows.length<=1000000/\∀ r∈c.rows,r.length<=1000000):=right_small HK2.out;have HIl:Hid (ins.length=m.vars.length):=hil;have HCp:Hid (∀ w',Below W.heap.size W w'->Calls Tryz.prog 7 #[.agg #[.slice va m.vars.length vcp,.slice ca m.cons.length ccp,.bool m.has,.slice ga m.goal.length gcp]] w' (CpMOut w' m)):=fun w' hb=>copy_any m _ _ _ w' (HM.out w' hb) HSm.out.1 HSm.out.2
  have HCp2:Hid (Calls Tryz.prog 7 #[.agg #[.slice va m.vars.length vcp,.slice ca m.cons.length ccp,.bool m.has,.slice ga m.goal.length gcp]] w2 (CpMOut w2 m)):=HCp.out w2 HB2.out;have HwW:Hid (-536870912<=worth/\worth<=536870912):=⟨hw1,hw2⟩;obtain ⟨p0,p1,p2,p3⟩:=HG.out w2 HB2.out;clear hR hil hw1 hw2 HC42
  go_upto_region 7 with (first
    | (go_at_call 7;refine cA HCp2.out ?_;intro e w3 hh;(obtain ⟨v1,v2,v3,xs3,rfl,hb3,hO3,hV3,hVc3,hG3⟩:=hh);(have HM3:Hid (MoAt w3 m v1 v2 v3):=cp_mo hO3 hV3 hVc3 hG3 HSm.out.1.2.1);(have HB3:Hid (Below W.heap.size W w3):=bl_next HB2.out hb3);(have HNw:Hid (Calls Tryz.prog 6 #[.agg #[v1,v2,.bool m.has,v3]] w3 (NewOut m w3)):=new_any m v1 v2 v3 w3 HM3.out (Nat.lt_of_lt_of_le HTW.out.2 HB3.out.size));clear hb3 hO3 hV3 hVc3 hG3 HCp2 HM3 HB2)
    | (go_at_call 6;refine cA HNw.out ?_;intro e w4 hh;(obtain ⟨p,nv,mv,rfl,hS4,hb4⟩:=hh);(have HB4:Hid (Below W.heap.size W w4):=bl_next HB3.out hb4);(have HS4:Hid (StAt w3.heap.size w4 p nv mv (newS m)):=hS4);clear hS4 hb4 HNw))
  have HCp4:Hid (Calls Tryz.prog 7 #[.agg #[.slice va m.vars.length vcp,.slice ca m.cons.length ccp,.bool m.has,.slice ga m.goal.length gcp]] w4 (CpMOut w4 m)):=HCp.out w4 HB4.out;clear p0 p1 p2 p3;obtain ⟨p0,p1,p2,p3⟩:=HG.out w4 HB4.out
  go_upto_region 8 with (first
    | (go_at_call 7;refine cA HCp4.out ?_;intro e w5 hh;(obtain ⟨v1,v2,v3,xs5,rfl,hb5,hO5,hV5,hVc5,hG5⟩:=hh);(have HM5:Hid (MoAt w5 m v1 v2 v3):=cp_mo hO5 hV5 hVc5 hG5 HSm.out.1.2.1);(have HB5:Hid (Below W.heap.size W w5):=bl_next HB4.out hb5);(have HS5:Hid (StAt w3.heap.size w5 p nv mv (newS m)):=HS4.out.below hb5);(have HNe:Hid (Calls Tryz.prog 8 #[.agg #[v1,v2,.bool m.has,v3]] w5 (NeOut m w5)):=egNew_any m v1 v2 v3 w5 HM5.out HSm.out.1 HSm.out.2);clear hb5 hO5 hV5 hVc5 hG5 HCp4 HM5 HB4 HS4)
    | (go_at_call 8;refine cA HNe.out ?_;intro e w6 hh;(obtain ⟨ep,L,H,rv,vg6,xs6,hL6,rfl,hE6,hR6,hG6,hb6⟩:=hh)))
  have HB6:Hid (Below W.heap.size W w6):=bl_next HB5.out hb6;have HS6:Hid (StAt w3.heap.size w6 p nv mv (newS m)):=HS5.out.below hb6;have HOw:Hid (∀ k,Own p nv mv k->k<w5.heap.size/\w3.heap.size<=k):=fun k hk=>HS5.out.old hk
  have HL6:Hid (w5.heap.size<=L/\L<=H/\H<=ep):=hL6;have HE6:Hid (w6.heap[ep]?=some (.cells #[rv,.int .i64 (m.cons.length:Int),.bool m.has,vg6,.int .i64 0,.int .i64 0,.int .i64 0,.int .i64 0,.int .i64 0,.int .i64 0,.slice none 0 0] 83 (0,0))):=hE6;have HR6:Hid (RsOwn (EnT L H) (ep+1) w6 rv (numL m.cons) xs6):=hR6;have HG6:Hid (Kept (EnT L H) w6 (fun w2=>TermsAt w2 vg6 m.goal)):=hG6;have HnS:Hid ((newS m).now.length=m.vars.length):=by show _=_;rw [new_now HK2.out,List.length_map]
  have HLi:Hid (Calls Tryz.prog 9 #[.pointer (some ⟨p,0,none⟩),.slice ia ins.length ic] w6 (LiOut (newS m).now ins w6)):=egLies_any w3.heap.size p nv mv (newS m) w6 HS6.out ia ic ins (HI.out w6 HB6.out) (by rw [HIl.out,HnS.out]);clear hL6 hE6 hR6 hG6 hb6 HNe HS5 p0 p1 p2 p3 HCp HB5;go_wp2_with (go_at_call 9;refine cA HLi.out ?_;intro e w7 hh;(obtain ⟨⟨b7,h1,h2⟩,h3⟩:=hh);subst h1;cases b7)
  · go_ret
    exact ⟨rfl,HBW.out.trans ((bl_next HB6.out h3).mono HBW.out.size)⟩
  have HLs:Hid (Lies (newS m).now ins):=by
    show Lies _ _;simpa using h2
  have HB7:Hid (Below W.heap.size W w7):=bl_next HB6.out h3;have HS7:Hid (StAt w3.heap.size w7 p nv mv (newS m)):=HS6.out.below h3;have HO7:Hid (Off (fun _=>False) w6 w7):=Off.of_below h3;have H3s:Hid (W.heap.size<=w3.heap.size/\w3.heap.size<=w5.heap.size/\w5.heap.size<=w6.heap.size):=by
    have h1:=HB3.out.size;have h2:=HS6.out.b1;have h4:=(HOw.out p (.inl rfl));exact ⟨h1,by omega,by have h5:=(hLt HE6.out);have h6:=HL6.out;omega⟩
  have hil32:ins.length<=32:=by have:=HIl.out;omega
  clear h2 h3 HLi HB6 HS6;go_loopw [13] (fun iv wr=>∃ k:Nat,iv=.int .i64 (k:Int)/\k<=ins.length/\Hid (StAt w3.heap.size wr p nv mv (oneS (newS m) ins k))/\Hid (Stp w3.heap.size p nv mv w7 wr)) (fun iv _=>ins.length-(intOf iv).toNat)
  case atStart=>exact ⟨0,rfl,Nat.zero_le _,HS7,Stp.refl _ _ _ _ _⟩
  case round=>
  obtain ⟨k,rfl,hk,HSk,HSt⟩:=hrel;rename World=>wr;have HBr:Hid (Below W.heap.size W wr):=HB7.out.trans (HSt.out.below.mono H3s.out.1)
  by_cases hkn:k<ins.length
  case pos=>
    have hkI:(k:Int)<(ins.length:Int):=by omega
    have HNx:Hid (oneS (newS m) ins (k+1)=((oneS (newS m) ins k).cut 1 (k:Int) ins[k]).cut 2 (k:Int) ins[k]):=by
      show _=_;have e:ins.getD k 0=ins[k]:=by rw [List.getD_eq_getElem?_getD,List.getElem?_eq_getElem hkn];rfl
      show ((oneS (newS m) ins k).cut 1 (k:Int) (ins.getD k 0)).cut 2 (k:Int) (ins.getD k 0)=_;rw [e]
    have HIc:Hid (∀ w',Below W.heap.size W w'->∃ b off,ia=some ⟨b,off,none⟩/\w'.cell? ⟨b,off+k,none⟩=some (.int .i64 ins[k])):=fun w' hb=>egInts_cells (HI.out w' hb) k hkn
    obtain ⟨v,hv⟩:∃ v,ins[k]=v:=⟨_,rfl⟩;rw [hv] at HNx HIc;obtain ⟨b,off,rfl,u0⟩:=HIc.out wr HBr.out;have HC1:Hid (Calls Tryz.prog 10 #[.pointer (some ⟨p,0,none⟩),.agg #[.int .i64 1,.int .i64 (k:Int),.int .i64 v]] wr (CutOut w3.heap.size p nv mv (oneS (newS m) ins k) 1 (k:Int) v wr)):=cut_any _ p nv mv _ 1 (k:Int) v wr HSk.out;clear hv;go_upto_region 14 with (go_at_call 10;refine cA HC1.out ?_;intro e w8 hh;(obtain ⟨h1,hS8,hT8⟩:=hh);subst h1);have HT8:Hid (Stp w3.heap.size p nv mv w7 w8):=⟨HSt.out.below.trans hT8.below,HSt.out.off.trans hT8.off⟩;have HB8:Hid (Below W.heap.size W w8):=HB7.out.trans (HT8.out.below.mono H3s.out.1)
    have HC2:Hid (Calls Tryz.prog 10 #[.pointer (some ⟨p,0,none⟩),.agg #[.int .i64 2,.int .i64 (k:Int),.int .i64 v]] w8 (CutOut w3.heap.size p nv mv ((oneS (newS m) ins k).cut 1 (k:Int) v) 2 (k:Int) v w8)):=cut_any _ p nv mv _ 2 (k:Int) v w8 hS8;clear u0;obtain ⟨b',off',hbo,u0⟩:=HIc.out w8 HB8.out;injection hbo with hbo;injection hbo with hb1 hb2;subst hb1 hb2;clear hS8 hT8 HC1;go_wp2_with (go_at_call 10;refine cA HC2.out ?_;intro e w9 hh;(obtain ⟨h1,hS9,hT9⟩:=hh);subst h1);have HS9:Hid (StAt w3.heap.size w9 p nv mv (oneS (newS m) ins (k+1))):=by
      show StAt _ _ _ _ _ _;rw [HNx.out];exact hS9
    have HT9:Hid (Stp w3.heap.size p nv mv w7 w9):=⟨HT8.out.below.trans hT9.below,HT8.out.off.trans hT9.off⟩;clear hS9 hT9 u0;go_roundw
    case rel=>exact ⟨k+1,by go_num,hkn,HS9,HT9⟩
    case measure=>simp [intOf];omega
  case neg=>
  have hke:k=ins.length:=by omega
  subst hke;have hkI:¬ (ins.length:Int)<(ins.length:Int):=by omega
  have hol:=one_lies (alls_new m) HLs.out;have hee:(newS m).now.length=ins.length:=by rw [HnS.out,HIl.out]
  rw [hee] at hol;obtain ⟨s,hs1⟩:∃ s,oneS (newS m) ins ins.length=s:=⟨_,rfl⟩;rw [hs1] at hol HSk;have HFx:Hid (Lies s.now ins/\Ones s.now/\Alls s/\s.now.length=m.vars.length):=⟨hol.1,hol.2.1,hol.2.2.1,by rw [hol.2.2.2];exact HIl.out⟩;have HOr:Hid (Off (Own p nv mv) w6 wr):=(HO7.out.less fun _ h=>h.elim).trans HSt.out.off;have HOe:Hid (¬ Own p nv mv ep/\∀ k,Own p nv mv k->k<L):=⟨fun h=>by have:=(HOw.out ep h).1;have:=HL6.out;omega,fun k hk=>by have:=(HOw.out k hk).1;have:=HL6.out;omega⟩;have HEr:Hid (wr.heap[ep]?=some (.cells #[rv,.int .i64 (m.cons.length:Int),.bool m.has,vg6,.int .i64 0,.int .i64 0,.int .i64 0,.int .i64 0,.int .i64 0,.int .i64 0,.slice none 0 0] 83 (0,0))):=(HOr.out.block ep (hLt HE6.out) HOe.out.1).trans HE6.out
  have HRr:Hid (RsOwn (EnT L H) (ep+1) wr rv (numL m.cons) xs6):=HR6.out.next HOr.out (fun b hb=>.inl (HOe.out.2 b hb)) (fun g hg hs=>by have:=(HR6.out.own.lt g hg).1;have:=HOe.out.2 g hs;have:=HL6.out;omega);have HGr:Hid (Kept (EnT L H) wr (fun w2=>TermsAt w2 vg6 m.goal)):=fun w' ho=>HG6.out w' ((HOr.out.less fun b hb=>.inl (HOe.out.2 b hb)).trans ho)
  have HTr:Hid (Tz wr):=HTW.out.1.below HBr.out HTW.out.2;have HKB:Hid (W.heap.size<=w3.heap.size/\W.heap.size<=ep):=⟨H3s.out.1,by have:=H3s.out;have:=HL6.out;omega⟩;obtain ⟨p0,p1,p2,p3⟩:=HG.out wr HBr.out;generalize hmh:m.has=mh at p2 ⊢
  have HMh:Hid (m.has=mh):=hmh;clear hee hol hs1 hmh HS7 HO7 HE6 HR6 HG6 HB7 HSt;go_upto_region 15 with fail
  go_cut [3] from 89 to 93 (fun s3 wx=>∃ bb:Bool,s3=.bool bb/\Hid (bb=true->mh=true)/\Hid (wr=wx))
  case first=>
    cases bnd with
    | false =>
      go_wp2_with fail
      go_meet;exact ⟨false,rfl,(fun h=>by cases h),rfl⟩
    | true=>
    cases mh with
    | false =>
      go_wp2_with fail
      go_meet;exact ⟨false,rfl,(fun h=>by cases h),rfl⟩
    | true =>
      go_wp2_with fail
      go_meet;exact ⟨true,rfl,(fun _=>by trivial),rfl⟩
  case rest=>
  obtain ⟨bb,rfl,Hbb,HWe⟩:=hcut;have hwe:=HWe.out;subst hwe;clear HWe;have HF0:Hid (FxP m ins worth false p nv mv w3.heap.size W.heap.size ep L H s W wr):=⟨rv,vg6,xs6,numL m.cons,HEr.out,HRr.out,num_fault HRt.out,by rw [numL_len];omega,⟨fun h=>⟨num_hold.1 h,fun h=>by cases h⟩,fun h=>num_hold.2 h.1⟩,HSk.out,HTr.out,HBr.out⟩;go_upto_if 94 with fail
  go_cut [97] from 95 to 97 (fun _ wx=>Hid (FxP m ins worth bb p nv mv w3.heap.size W.heap.size ep L H s W wx))
  case first=>
    cases bb with
    | false =>
      go_wp2_with fail
      go_meet;exact HF0
    | true =>
      have hmt:mh=true:=Hbb.out rfl;subst hmt;have hE2:=HEr.out;rw [HMh.out] at hE2;have HBe:Hid (Calls Tryz.prog 11 #[.pointer (some ⟨ep,0,none⟩),.int .i64 worth] wr (BeOut ep L H m.cons.length (numL m.cons) m.goal vg6 (worth-1) (.int .i64 0) (.int .i64 0) (.int .i64 0) (.int .i64 0) (.int .i64 0) (.int .i64 0) (.slice none 0 0) wr)):=egBelow_any ep L H m.cons.length rv vg6 (numL m.cons) xs6 m.goal worth _ _ _ _ _ _ _ wr hE2 HRr.out (numL_len _) HGr.out HL6.out.2.2 (by omega) HwW.out.1 HwW.out.2;clear hE2;go_wp2_with (go_at_call 11;refine cA HBe.out ?_;intro e w10 hh;(obtain ⟨h1,rv2,ys,hE10,hR10,hb10⟩:=hh);subst h1);go_meet;refine ⟨rv2,vg6,ys,_,by rw [HMh.out];exact hE10,hR10,?_,by rw [List.length_append,numL_len];simp,?_,?_,?_,?_⟩
      · intro r hr
        rcases List.mem_append.1 hr with hr | hr
        · exact num_fault HRt.out r hr
        · rw [List.mem_singleton.1 hr]
          exact bnd_fault HRt.out HMh.out (by have:=HwW.out;omega) (by have:=HwW.out;omega)
      · constructor
        · intro h
          refine ⟨num_hold.1 fun r hr=>h r (List.mem_append.2 (.inl hr)),fun _=>?_⟩;have:=h _ (List.mem_append.2 (.inr (List.mem_singleton.2 rfl)));rw [bnd_hold,decide_eq_true_eq] at this;omega
        · rintro ⟨h1,h2⟩ r hr
          rcases List.mem_append.1 hr with hr | hr
          · exact num_hold.2 h1 r hr
          · rw [List.mem_singleton.1 hr,bnd_hold,decide_eq_true_eq]
            have:=h2 rfl;omega
      · exact HSk.out.keep fun j _ hj=>hb10.block j (by have:=HOe.out.2 j hj;have:=HL6.out;omega)
      · exact HTr.out.below hb10 (by have:=HKB.out;have:=HTW.out.2;omega)
      · exact HBr.out.trans (hb10.mono HKB.out.2)
  case rest=>
  clear p0 p1 p2 p3 HEr HRr HGr HTr HSk HBr HOr HF0;have HF:=hcut;rename World=>wx;obtain ⟨rv8,e8,xs8,rs,hE8,hR8,hrs8,hrl8,hiff,hS8,hT8,hb8⟩:=HF.out;have HB8:Hid (Below W.heap.size W wx):=hb8;have HFu:Hid (Calls Tryz.prog 13 #[.agg #[.slice va m.vars.length vcp,.slice ca m.cons.length ccp,.bool mh,.slice ga m.goal.length gcp]] wx (FuOut m wx)):=by
    show Calls _ _ _ _ _;rw [<-HMh.out];exact egFull_any m _ _ _ wx (HM.out wx hb8) HK2.out
  have HRn:Hid (∀ (f0:Nat) w',Below wx.heap.size wx w'->m.cons.length+2<=f0->f0<=1000000->Calls Tryz.prog 12 #[.pointer (some ⟨ep,0,none⟩),.pointer (some ⟨p,0,none⟩),.int .i64 (f0:Int)] w' fun e w3=>∃ a cap f how,e=.returned (.tuple #[.slice a 0 cap,.int .i64 f,.int .i64 how])/\how≠3/\(how=1↔((m.cons.all fun c=>Md.hold c ins)=true/\(bb=true->Md.sum m.goal ins<worth)))/\Below W.heap.size w' w3):=fun f0 w' hb hf1 hf2=>by
    have hx:=HFx.out;have hso:StAt w3.heap.size w' p nv mv s:=hS8.below hb;refine (fx_run (vs:=ins) hso hx.2.2.1 hx.1 hx.2.1 (by rw [hx.2.2.2];exact hnv) HOe.out.2 ⟨by have:=H3s.out;have:=HL6.out;have:=HTW.out.2;omega,HL6.out.2⟩ ((hb.block ep (hLt hE8)).trans hE8) (hR8.next (S:=fun _=>False) (Off.of_below hb) (fun _ h=>h.elim) (fun _ _ h=>h)) (by rw [hx.2.2.2];exact hrs8) (hT8.below hb (Nat.lt_of_lt_of_le HTW.out.2 hb8.size)) HKB.out f0 (by omega) hf2).mono ?_;rintro e w3' ⟨a,cap,f,how,h1,h2,h3,h4⟩;exact ⟨a,cap,f,how,h1,h2,h3.trans hiff,h4⟩
  obtain ⟨p0,p1,p2,p3⟩:=HG.out wx hb8;rw [HMh.out] at p2;clear hE8 hR8 hrs8 hrl8 hiff hS8 hT8 hb8 HF
  go_upto_region 19 with (first
    | (go_at_call 13;refine cA HFu.out ?_;intro e w11 hh;(obtain ⟨⟨f0,h1,hf1,hf2⟩,hb11⟩:=hh);subst h1;(have HRn1:Hid (Calls Tryz.prog 12 #[.pointer (some ⟨ep,0,none⟩),.pointer (some ⟨p,0,none⟩),.int .i64 (f0:Int)] w11 fun e w3=>∃ a cap f how,e=.returned (.tuple #[.slice a 0 cap,.int .i64 f,.int .i64 how])/\how≠3/\(how=1↔((m.cons.all fun c=>Md.hold c ins)=true/\(bb=true->Md.sum m.goal ins<worth)))/\Below W.heap.size w11 w3):=HRn.out f0 w11 hb11 hf1 hf2);(have HB11:Hid (Below W.heap.size W w11):=bl_next HB8.out hb11);clear hb11 hf1 hf2 HRn HFu)
    | (go_at_call 12;refine cA HRn1.out ?_;intro e w12 hh;(obtain ⟨ra,rcp,rf,how,h1,h2,h3,h4⟩:=hh);subst h1))
  have HB12:Hid (Below W.heap.size W w12):=HB11.out.trans h4;have HWh:Hid (how=1↔((m.cons.all fun c=>Md.hold c ins)=true/\(bb=true->Md.sum m.goal ins<worth))):=h3;have HN3:¬ how=3:=h2;have hn3b:(how != 3)=true:=by simpa using h2
  have hsol:Md.solution m ins=(m.cons.all fun c=>Md.hold c ins):=by
    unfold Md.solution;have h1:=HLs.out;rw [new_now HK2.out] at h1;rw [decide_eq_true HK2.out,lies_inside (fun v hv=>(HRt.out.var v hv).2) h1];rfl
  have hwor:Md.worth m ins=Md.sum m.goal ins:=by
    unfold Md.worth;rw [if_pos ⟨HK2.out,HIl.out,new_nums HLs.out⟩]
  have hSo:=solution_any m _ _ _ _ ins w12 (HM.out w12 HB12.out) (HI.out w12 HB12.out);have hWo:=fun w' (hb:Below W.heap.size W w')=>worth_any m _ _ _ _ ins w' (HM.out w' hb) (HI.out w' hb)
  rw [hsol] at hSo;rw [hwor] at hWo;obtain ⟨A,hA⟩:∃ A,(m.cons.all fun c=>Md.hold c ins)=A:=⟨_,rfl⟩;obtain ⟨S,hS⟩:∃ S,Md.sum m.goal ins=S:=⟨_,rfl⟩;have hWh:=HWh.out;rw [hA,hS] at hWh;rw [hA] at hSo;rw [hS] at hWo;unfold moVal at hSo hWo;rw [HMh.out] at hSo hWo;have HSo:Hid (Calls Tryz.prog 14 #[.agg #[.slice va m.vars.length vcp,.slice ca m.cons.length ccp,.bool mh,.slice ga m.goal.length gcp],.slice ia ins.length ic] w12 fun e w'=>e=.returned (.bool A)/\Below w12.heap.size w12 w'):=hSo;have HWo:Hid (∀ w',Below W.heap.size W w'->Calls Tryz.prog 15 #[.agg #[.slice va m.vars.length vcp,.slice ca m.cons.length ccp,.bool mh,.slice ga m.goal.length gcp],.slice ia ins.length ic] w' fun e w2=>e=.returned (.int .i64 S)/\Below w'.heap.size w' w2):=hWo
  have HG2:Hid (∀ w',Below W.heap.size W w'->w'.cell? ⟨w.heap.size,0,none⟩=some (.slice va m.vars.length vcp)/\w'.cell? ⟨w.heap.size,1,none⟩=some (.slice ca m.cons.length ccp)/\w'.cell? ⟨w.heap.size,2,none⟩=some (.bool mh)/\w'.cell? ⟨w.heap.size,3,none⟩=some (.slice ga m.goal.length gcp)):=fun w' hb=>by
    have:=HG.out w' hb;rw [HMh.out] at this;exact this
  clear p0 p1 p2 p3;obtain ⟨p0,p1,p2,p3⟩:=HG2.out w12 HB12.out;clear h2 h3 h4 hsol hwor hSo hWo hA hS HWh HRn1 HB11
  cases A with
  | false =>
    have h1:¬ how=1:=fun h=>by have:=(hWh.1 h).1;cases this
    clear hWh;go_wp2_with (first | (go_at_call 14;refine cA HSo.out ?_;intro e w13 hh;(obtain ⟨h1,hb13⟩:=hh);subst h1;(have HB13:Hid (Below W.heap.size W w13):=bl_next HB12.out hb13);(obtain ⟨r0,r1,r2,r3⟩:=HG2.out w13 HB13.out);clear hb13 p0 p1 p2 p3) | (go_at_call 15;refine cA (HWo.out _ HB13.out) ?_;intro e w14 hh;(obtain ⟨h1,hb14⟩:=hh);subst h1;(have HB14:Hid (Below W.heap.size W w14):=bl_next HB13.out hb14);clear hb14));go_ret;exact ⟨rfl,HBW.out.trans (HB13.out.mono HBW.out.size)⟩
  | true=>
  cases bb with
  | false =>
    have h1:how=1:=hWh.2 ⟨rfl,fun h=>by cases h⟩;subst h1;clear hWh HN3 hn3b;go_wp2_with (first | (go_at_call 14;refine cA HSo.out ?_;intro e w13 hh;(obtain ⟨h1,hb13⟩:=hh);subst h1;(have HB13:Hid (Below W.heap.size W w13):=bl_next HB12.out hb13);(obtain ⟨r0,r1,r2,r3⟩:=HG2.out w13 HB13.out);clear hb13 p0 p1 p2 p3) | (go_at_call 15;refine cA (HWo.out _ HB13.out) ?_;intro e w14 hh;(obtain ⟨h1,hb14⟩:=hh);subst h1;(have HB14:Hid (Below W.heap.size W w14):=bl_next HB13.out hb14);clear hb14));go_ret;exact ⟨rfl,HBW.out.trans (HB13.out.mono HBW.out.size)⟩
  | true=>
  by_cases hw:S<worth
  case pos=>
    have h1:how=1:=hWh.2 ⟨rfl,fun _=>hw⟩;subst h1;clear hWh HN3 hn3b;go_wp2_with (first | (go_at_call 14;refine cA HSo.out ?_;intro e w13 hh;(obtain ⟨h1,hb13⟩:=hh);subst h1;(have HB13:Hid (Below W.heap.size W w13):=bl_next HB12.out hb13);(obtain ⟨r0,r1,r2,r3⟩:=HG2.out w13 HB13.out);clear hb13 p0 p1 p2 p3) | (go_at_call 15;refine cA (HWo.out _ HB13.out) ?_;intro e w14 hh;(obtain ⟨h1,hb14⟩:=hh);subst h1;(have HB14:Hid (Below W.heap.size W w14):=bl_next HB13.out hb14);clear hb14));go_ret;exact ⟨rfl,HBW.out.trans (HB14.out.mono HBW.out.size)⟩
  case neg=>
    have h1:¬ how=1:=fun h=>hw ((hWh.1 h).2 rfl)
    have hwb:decide (S<worth)=false:=decide_eq_false hw;have h1b:(how==1)=false:=by simpa using h1
    clear hWh hw;go_wp2_with (first | (go_at_call 14;refine cA HSo.out ?_;intro e w13 hh;(obtain ⟨h1,hb13⟩:=hh);subst h1;(have HB13:Hid (Below W.heap.size W w13):=bl_next HB12.out hb13);(obtain ⟨r0,r1,r2,r3⟩:=HG2.out w13 HB13.out);clear hb13 p0 p1 p2 p3) | (go_at_call 15;refine cA (HWo.out _ HB13.out) ?_;intro e w14 hh;(obtain ⟨h1,hb14⟩:=hh);subst h1;(have HB14:Hid (Below W.heap.size W w14):=bl_next HB13.out hb14);clear hb14));go_ret;exact ⟨rfl,HBW.out.trans (HB14.out.mono HBW.out.size)⟩
end Go.Proofs.YtjnckfchgcmmpaaGreatDoor
