import Derived.Test.YtpcijhecaedkpaaGreatDoorRvA
import Derived.Test.YtpcijhecaedkpaaGreatDoorRwC
namespace Go.Proofs.YtpcijhecaedkpaaGreatDoor
open Go.RowKit
set_option maxRecDepth 20000
set_option maxHeartbeats 8000000
theorem num_any (n:Int) (w:World):Calls Tryz.prog 12 #[.int .i64 n] w fun e w'=>e=.returned (.int .i64 n)/\w'=w:=by
  go_enter Tryz.func12,Tryz.ntmps12;go_wp2_with fail
  go_ret;exact ⟨rfl,rfl⟩
theorem prints_any (ds:List SL) (v:Value) (w:World) (hS:StsR w v ds) (hI:∀ d∈ds,SlI d) (hM:∀ d∈ds,SlM d) (hg:Gl w):Calls Tryz.prog 4 #[v] w fun e w'=>e=.returned (.bool true)/\Below w.heap.size w w':=by
  obtain ⟨a,c,rfl,hn,_⟩:=id hS;have HS:Hid (StsR w (.slice a ds.length c) ds):=hS;have HI:Hid (∀ d∈ds,SlI d):=hI;have HG:Hid (∀ w',Below w.heap.size w w'->Gl w'):=fun w' hb=>hg.next hb
  have HCt:Hid (Calls Tryz.prog 16 #[.pointer (some ⟨w.heap.size,0,none⟩),.slice a ds.length c] (w.alloc (.cells #[.int .i64 200000] 90)) fun e w'=>e=.returned (.tuple #[])/\CtO w.heap.size w.heap.size 200000 (wtS ds) (w.alloc (.cells #[.int .i64 200000] 90)) w'):=csteps_any w ds _ hS hM 200000 _ ⟨heap_alloc_new w _,by omega,by omega⟩ (Nat.le_refl _) ((Below.refl _ _).alloc (Nat.le_refl _) _);clear hS hI hM hg;go_enter Tryz.func4,Tryz.ntmps4;go_wp2_with fail
  refine calls_at (many_any w) (by with_reducible rfl) (by with_reducible rfl) ?_;rintro e w1 ⟨rfl,hw1⟩;have HCs:Hid (Calls Tryz.prog 16 #[.pointer (some ⟨w.heap.size,0,none⟩),.slice a ds.length c] w1 fun e w'=>e=.returned (.tuple #[])/\CtO w.heap.size w.heap.size 200000 (wtS ds) w1 w'):=by rw [hw1];exact HCt.out
  have HB1:Hid (Below w.heap.size w w1):=by rw [hw1];exact (Below.refl _ _).alloc (Nat.le_refl _) _
  clear hw1 HCt;go_wp2_with fail
  refine calls_at HCs.out (by with_reducible rfl) (by with_reducible rfl) ?_;rintro e w2 ⟨rfl,L0,hL1,hL2,hL3⟩;have HB2:Hid (Below w.heap.size w w2):=HB1.out.trans (hL3.below);have HOk:Hid (Calls Tryz.prog 9 #[.pointer (some ⟨w.heap.size,0,none⟩)] w2 fun e w3=>e=.returned (.bool (decide (0<=L0)))/\w3=w2):=cok_any _ L0 w2 hL1;have HLt:Hid (0<=L0->L0+(wtS ds:Int)<=200000):=hL2;clear hL1 hL2 hL3 HCs HB1
  by_cases h60:60<ds.length
  · have h60I:(60:Int)<(ds.length:Int):=by omega
    clear HLt HOk;go_wp2_with fail
    go_ret;exact ⟨rfl,HB2.out⟩
  have h60I:¬ (60:Int)<(ds.length:Int):=by omega
  go_wp2_with fail
  refine calls_at HOk.out (by with_reducible rfl) (by with_reducible rfl) ?_;rintro e w3 ⟨rfl,hw3⟩;rw [hw3];clear hw3 HOk
  by_cases hL:0<=L0
  case neg=>
    rw [decide_eq_false hL];clear HLt;go_wp2_with fail
    go_ret;exact ⟨rfl,HB2.out⟩
  rw [decide_eq_true hL];have hwt:wtS ds<=200000:=by have:=HLt.out hL;omega
  have HWt:Hid (∀ d∈ds,stW d<=200000):=fun d hd=>Nat.le_trans (wt_mem hd) hwt
  have HPr:Hid (∀ d∈ds,∀ (w':World) (vo vp vl vi:Value),Below w.heap.size w w'->SlR w' d vo vp vl vi->Calls Tryz.prog 19 #[.agg (slC d vo vp vl vi)] w' (PrO d w')):=fun d hd w' vo vp vl vi hb hs=>print_any d vo vp vl vi w' hs (HI.out d hd) (by have:=lnW_len d (HI.out d hd);have:=HWt.out d hd;omega) (HG.out w' hb) (HG.out w' hb).size
  have HRp:Hid (∀ d∈ds,∀ (w':World) (vo vp vl vi:Value),Below w.heap.size w w'->SlR w' d vo vp vl vi->Calls Tryz.prog 18 #[.agg (slC d vo vp vl vi)] w' (PrO d w')):=fun d hd w' vo vp vl vi hb hs=>rprint_any d vo vp vl vi w' hs (HI.out d hd) (by have:=lnX_len d (HI.out d hd);have:=sz_le d;have:=HWt.out d hd;omega) (by have:=sz_le d;have:=HWt.out d hd;omega) (HG.out w' hb)
  have HFw:Hid (∀ d∈ds,Few1 d):=fun d hd=>few_of (HWt.out d hd)
  clear hwt HLt hL;go_wp2_with fail
  obtain ⟨W,hW⟩:∃ W,w2.alloc (.cells #[.slice none 0 0,.slice none 0 0,.slice none 0 0,.slice none 0 0,.slice none 0 0,.slice none 0 0,.slice none 0 0,.slice none 0 0,.slice none 0 0,.slice none 0 0,.slice none 0 0,.slice none 0 0,.slice none 0 0,.slice none 0 0,.slice none 0 0,.slice none 0 0,.slice none 0 0,.slice none 0 0,.slice none 0 0,.slice none 0 0,.slice none 0 0,.slice none 0 0,.slice none 0 0,.slice none 0 0,.slice none 0 0,.slice none 0 0,.slice none 0 0,.slice none 0 0] 65)=W:=⟨_,rfl⟩;rw [hW];have hbW:Below w2.heap.size w2 W:=by rw [<-hW];exact (Below.refl _ _).alloc (Nat.le_refl _) _
  have hR0:RoomG w2.heap.size w2.heap.size (lab0 w2.heap.size) 0 W:=by rw [<-hW];exact room_new w2 _ rfl
  have HLd:Hid (Calls Tryz.prog 17 #[.pointer (some ⟨w2.heap.size,0,none⟩),.slice a ds.length c] W (LaidT w2.heap.size w2.heap.size (lab0 w2.heap.size) 0 W ds 40)):=roomSteps_any _ _ _ _ _ ds W hR0 (st0_in (HS.out.below HB2.out) hbW (fun k hk=>by unfold lab0;rw [if_neg (by omega)])) HFw.out (by omega) (by decide);have HBW:Hid (Below w2.heap.size w2 W):=hbW;clear hW hbW hR0;refine calls_at HLd.out (by with_reducible rfl) (by with_reducible rfl) ?_;rintro e w3 ⟨⟨b,S2,he,hG3,hA3,hS3⟩⟩;obtain ⟨cp,hcp⟩:∃ cp,ds.length+40=cp:=⟨_,rfl⟩;rw [hcp] at he;subst he;have HB23:Hid (Below w2.heap.size w2 w3):=HBW.out.trans (hA3.below HBW.out.size (fun k hk=>by unfold lab0;rw [if_neg (by omega)]));have HB3:Hid (Below w.heap.size w w3):=bl_next HB2.out HB23.out
  have HRm:Hid (RoomG w2.heap.size w2.heap.size S2 (4*ds.length+1) w3):=by rw [Nat.zero_add] at hG3;exact hG3
  have HLo:Hid (∀ k,k<w2.heap.size->S2 k=0):=fun k hk=>by rw [hA3.lab k (Nat.lt_of_lt_of_le hk HBW.out.size)];unfold lab0;rw [if_neg (by omega)]
  have HSt:Hid (St1 S2 w3 b ds):=hS3;clear hG3 hA3 hS3 hcp HLd HBW;have hnz:ds.length<=60:=by omega
  go_wp2_with fail
  go_loopw [6] (fun iv wr=>∃ i:Nat,iv=.int .i64 (i:Int)/\i<=2*ds.length/\Hid (Below w3.heap.size w3 wr)) (fun iv _=>2*ds.length-(intOf iv).toNat)
  case atStart=>exact ⟨0,rfl,Nat.zero_le _,Below.refl _ _⟩
  case round=>
    obtain ⟨i,rfl,hi,HB⟩:=hrel;have HBwr:Hid (Below w.heap.size w wr):=bl_next HB3.out HB.out
    by_cases hin:i<2*ds.length
    · have hiI:(i:Int)<2*(ds.length:Int):=by omega
      have hm2:wrap64 (2*(ds.length:Int))=2*(ds.length:Int):=by unfold wrap64;omega
      have hl0:((ds.length:Int)==0)=false:=by simpa using (by omega:¬ ((ds.length:Int)=0))
      obtain ⟨q,hq⟩:∃ q,i % ds.length=q:=⟨_,rfl⟩;have hql:q<ds.length:=by rw [<-hq];exact Nat.mod_lt _ (by omega)
      have hrem:(i:Int).tmod (ds.length:Int)=(q:Int):=by rw [<-hq];rfl
      have hqi:q<=i:=by rw [<-hq];exact Nat.mod_le _ _
      clear hq;obtain ⟨a0,c0,e0,_,hC⟩:=HS.out.below HBwr.out;obtain ⟨rfl,_,rfl⟩:a=a0/\ds.length=ds.length/\c=c0:=by simpa using e0
      obtain ⟨g,off,vo,vp,vl,vi,rfl,hgl,hsl,hce⟩:=hC q hql;obtain ⟨a1,c1,e1,_,hC2⟩:=(HSt.out.st0 cp).now.below HB.out;obtain ⟨g2,off2,vo2,vp2,vl2,vi2,hge,hgl2,hsl2,hce2⟩:=hC2 q hql;rw [<-(Value.slice.inj e1).1] at hge;obtain ⟨rfl,rfl⟩:b=g2/\0=off2:=by
        have h:=Option.some.inj hge;injection h with p1 p2 p3;exact ⟨p1,p2⟩
      have HPd:=HPr.out ds[q] (List.getElem_mem hql);have HRd:=HRp.out ds[q] (List.getElem_mem hql);obtain ⟨d,hd⟩:∃ d,ds[q]=d:=⟨_,rfl⟩;rw [hd] at hsl hce hsl2 hce2 HPd HRd;obtain ⟨oa,oc,rfl,_,_⟩:=id hsl.o;obtain ⟨pa,pc,rfl,_,_⟩:=id hsl.p;obtain ⟨la,lc,rfl,_,_⟩:=id hsl.l;obtain ⟨ia,ic,rfl,_,_⟩:=id hsl.i;obtain ⟨oa2,oc2,rfl,_,_⟩:=id hsl2.o;obtain ⟨pa2,pc2,rfl,_,_⟩:=id hsl2.p;obtain ⟨la2,lc2,rfl,_,_⟩:=id hsl2.l;obtain ⟨ia2,ic2,rfl,_,_⟩:=id hsl2.i;simp only [Nat.zero_add] at hce2
      have HH:Hid (∀ w',Below wr.heap.size wr w'->(w'.cell? ⟨g,off+q*10,none⟩=some (.int .i64 d.k)/\w'.cell? ⟨g,off+q*10+1,none⟩=some (.string (txtOf d.n))/\w'.cell? ⟨g,off+q*10+2,none⟩=some (.slice oa d.ops.length oc)/\w'.cell? ⟨g,off+q*10+3,none⟩=some (.slice pa d.pcs.length pc)/\w'.cell? ⟨g,off+q*10+4,none⟩=some (.string (txtOf d.deg))/\w'.cell? ⟨g,off+q*10+5,none⟩=some (.slice la d.lits.length lc)/\w'.cell? ⟨g,off+q*10+6,none⟩=some (.slice ia d.ids.length ic)/\w'.cell? ⟨g,off+q*10+7,none⟩=some (.int .i64 d.ends)/\w'.cell? ⟨g,off+q*10+8,none⟩=some (.string (txtOf d.low))/\w'.cell? ⟨g,off+q*10+9,none⟩=some (.string (txtOf d.high)))/\(w'.cell? ⟨b,q*10,none⟩=some (.int .i64 d.k)/\w'.cell? ⟨b,q*10+1,none⟩=some (.string (txtOf d.n))/\w'.cell? ⟨b,q*10+2,none⟩=some (.slice oa2 d.ops.length oc2)/\w'.cell? ⟨b,q*10+3,none⟩=some (.slice pa2 d.pcs.length pc2)/\w'.cell? ⟨b,q*10+4,none⟩=some (.string (txtOf d.deg))/\w'.cell? ⟨b,q*10+5,none⟩=some (.slice la2 d.lits.length lc2)/\w'.cell? ⟨b,q*10+6,none⟩=some (.slice ia2 d.ids.length ic2)/\w'.cell? ⟨b,q*10+7,none⟩=some (.int .i64 d.ends)/\w'.cell? ⟨b,q*10+8,none⟩=some (.string (txtOf d.low))/\w'.cell? ⟨b,q*10+9,none⟩=some (.string (txtOf d.high)))):=fun w' hb=>by
        have k1:=fun j hj=>(hb.cell (p:=⟨g,off+q*10+j,none⟩) hgl).trans (hce j hj)
        have k2:=fun j hj=>(hb.cell (p:=⟨b,q*10+j,none⟩) hgl2).trans (hce2 j hj)
        exact ⟨⟨k1 0 (by omega),k1 1 (by omega),k1 2 (by omega),k1 3 (by omega),k1 4 (by omega),k1 5 (by omega),k1 6 (by omega),k1 7 (by omega),k1 8 (by omega),k1 9 (by omega)⟩,k2 0 (by omega),k2 1 (by omega),k2 2 (by omega),k2 3 (by omega),k2 4 (by omega),k2 5 (by omega),k2 6 (by omega),k2 7 (by omega),k2 8 (by omega),k2 9 (by omega)⟩
      unfold PrO at HPd HRd;obtain ⟨T,hT⟩:∃ T,txtOf (prT d).1=T:=⟨_,rfl⟩;obtain ⟨E,hE⟩:∃ E,(prT d).2=E:=⟨_,rfl⟩;rw [hT,hE] at HPd HRd;have HR1:Hid (Calls Tryz.prog 18 #[.agg #[.int .i64 d.k,.string (txtOf d.n),.slice oa d.ops.length oc,.slice pa d.pcs.length pc,.string (txtOf d.deg),.slice la d.lits.length lc,.slice ia d.ids.length ic,.int .i64 d.ends,.string (txtOf d.low),.string (txtOf d.high)]] wr fun e w'=>e=.returned (.tuple #[.string T,.int .i64 E])/\Below wr.heap.size wr w'):=HRd wr _ _ _ _ HBwr.out hsl
      have HP1:Hid (∀ w',Below wr.heap.size wr w'->Calls Tryz.prog 19 #[.agg #[.int .i64 d.k,.string (txtOf d.n),.slice oa2 d.ops.length oc2,.slice pa2 d.pcs.length pc2,.string (txtOf d.deg),.slice la2 d.lits.length lc2,.slice ia2 d.ids.length ic2,.int .i64 d.ends,.string (txtOf d.low),.string (txtOf d.high)]] w' fun e w2=>e=.returned (.tuple #[.string T,.int .i64 E])/\Below w'.heap.size w' w2):=fun w' hb=>HPd w' _ _ _ _ (bl_next HBwr.out hb) (hsl2.below hb)
      have HSm:Hid (∀ w',Below wr.heap.size wr w'->Calls Tryz.prog 13 #[.agg #[.int .i64 d.k,.string (txtOf d.n),.slice oa2 d.ops.length oc2,.slice pa2 d.pcs.length pc2,.string (txtOf d.deg),.slice la2 d.lits.length lc2,.slice ia2 d.ids.length ic2,.int .i64 d.ends,.string (txtOf d.low),.string (txtOf d.high)],.agg #[.int .i64 d.k,.string (txtOf d.n),.slice oa d.ops.length oc,.slice pa d.pcs.length pc,.string (txtOf d.deg),.slice la d.lits.length lc,.slice ia d.ids.length ic,.int .i64 d.ends,.string (txtOf d.low),.string (txtOf d.high)]] w' fun e w2=>e=.returned (.bool true)/\Below w'.heap.size w' w2):=fun w' hb=>same_eq d _ _ _ _ _ _ _ _ w' (hsl2.below hb) (hsl.below hb)
      obtain ⟨⟨s0,s1,s2,s3,s4,s5,s6,s7,s8,s9⟩,r0,r1,r2,r3,r4,r5,r6,r7,r8,r9⟩:=HH.out wr (Below.refl _ _);have HNum:Hid (∀ n w',Calls Tryz.prog 12 #[.int .i64 n] w' fun e w2=>e=.returned (.int .i64 n)/\w2=w'):=num_any;have hqI:(q:Int)<(ds.length:Int):=by omega
      clear hce hce2 hsl hsl2 hC hC2 hd hgl hgl2 HPd HRd hT hE e0 e1 hge;go_wp2_with fail
      refine calls_at HR1.out (by with_reducible rfl) (by with_reducible rfl) ?_;rintro e w4 ⟨rfl,hb4⟩;have HB4:Hid (Below wr.heap.size wr w4):=hb4;clear hb4 HR1 s0 r0 s1 r1 s2 r2 s3 r3 s4 r4 s5 r5 s6 r6 s7 r7 s8 r8 s9 r9;obtain ⟨⟨s0,s1,s2,s3,s4,s5,s6,s7,s8,s9⟩,r0,r1,r2,r3,r4,r5,r6,r7,r8,r9⟩:=HH.out w4 HB4.out;go_wp2_with fail
      refine calls_at (HP1.out w4 HB4.out) (by with_reducible rfl) (by with_reducible rfl) ?_;rintro e w5 ⟨rfl,hb5⟩;have HB5:Hid (Below wr.heap.size wr w5):=bl_next HB4.out hb5;clear hb5 HP1 s0 r0 s1 r1 s2 r2 s3 r3 s4 r4 s5 r5 s6 r6 s7 r7 s8 r8 s9 r9;go_wp2_with fail
      have HBd:Hid (Below wr.heap.size wr w5.drew):=HB5.out.drew
      refine wp_region_T (fun w'=>(w'.cell? ⟨g,off+q*10,none⟩=some (.int .i64 d.k)/\w'.cell? ⟨g,off+q*10+1,none⟩=some (.string (txtOf d.n))/\w'.cell? ⟨g,off+q*10+2,none⟩=some (.slice oa d.ops.length oc)/\w'.cell? ⟨g,off+q*10+3,none⟩=some (.slice pa d.pcs.length pc)/\w'.cell? ⟨g,off+q*10+4,none⟩=some (.string (txtOf d.deg))/\w'.cell? ⟨g,off+q*10+5,none⟩=some (.slice la d.lits.length lc)/\w'.cell? ⟨g,off+q*10+6,none⟩=some (.slice ia d.ids.length ic)/\w'.cell? ⟨g,off+q*10+7,none⟩=some (.int .i64 d.ends)/\w'.cell? ⟨g,off+q*10+8,none⟩=some (.string (txtOf d.low))/\w'.cell? ⟨g,off+q*10+9,none⟩=some (.string (txtOf d.high)))/\(w'.cell? ⟨b,q*10,none⟩=some (.int .i64 d.k)/\w'.cell? ⟨b,q*10+1,none⟩=some (.string (txtOf d.n))/\w'.cell? ⟨b,q*10+2,none⟩=some (.slice oa2 d.ops.length oc2)/\w'.cell? ⟨b,q*10+3,none⟩=some (.slice pa2 d.pcs.length pc2)/\w'.cell? ⟨b,q*10+4,none⟩=some (.string (txtOf d.deg))/\w'.cell? ⟨b,q*10+5,none⟩=some (.slice la2 d.lits.length lc2)/\w'.cell? ⟨b,q*10+6,none⟩=some (.slice ia2 d.ids.length ic2)/\w'.cell? ⟨b,q*10+7,none⟩=some (.int .i64 d.ends)/\w'.cell? ⟨b,q*10+8,none⟩=some (.string (txtOf d.low))/\w'.cell? ⟨b,q*10+9,none⟩=some (.string (txtOf d.high)))) (fun _=>True) [] (by kernel_rfl) ⟨HH.out _ HBd.out,trivial⟩ (fun hHeld=>?_)
      generalize w5.drew=U at hHeld HBd ⊢
      refine wpAnyT_takeB (i:=0) (oi:=⟨some 63,.move (.tmp 11),_,_,_,_⟩) (v:=?va0) rfl (by kernel_rfl) (by kernel_rfl) (by kernel_rfl) (by kernel_rfl) (fun _ _ _ h=>h) (Or.inl ⟨by rfl,?hya0⟩) (by assumption) ?resta0
      case hya0=>(intro w hSw;(try dsimp only at hSw);obtain ⟨⟨s0,s1,s2,s3,s4,s5,s6,s7,s8,s9⟩,r0,r1,r2,r3,r4,r5,r6,r7,r8,r9⟩:=hSw;go_simp;try (first | (with_reducible rfl) | exact (wrap_id (by omega) (by omega)).symm))
      try simp only [Act.put,List.setIfInBounds_toArray,List.set_cons_zero,List.set_cons_succ]
      refine wpAnyT_takeB (i:=2) (oi:=⟨some 65,.move (.tmp 9),_,_,_,_⟩) (v:=?va2) rfl (by kernel_rfl) (by kernel_rfl) (by kernel_rfl) (by kernel_rfl) (fun _ _ _ h=>h) (Or.inl ⟨by rfl,?hya2⟩) (by assumption) ?resta2
      case hya2=>(intro w hSw;(try dsimp only at hSw);obtain ⟨⟨s0,s1,s2,s3,s4,s5,s6,s7,s8,s9⟩,r0,r1,r2,r3,r4,r5,r6,r7,r8,r9⟩:=hSw;go_simp;try (first | (with_reducible rfl) | exact (wrap_id (by omega) (by omega)).symm))
      try simp only [Act.put,List.setIfInBounds_toArray,List.set_cons_zero,List.set_cons_succ]
      refine wpAnyT_one (i:=1) (o:=⟨some 64,.call { callee:=.value (.func 12),args:=#[(.tmp 63)],argTypes:=#[54] },_,_,_,_⟩) (by kernel_rfl) rfl (fun K hK=>?_);go_simp;refine calls_at (HNum.out E U) (by with_reducible rfl) (by with_reducible rfl) ?_;rintro e w7 ⟨rfl,hw7⟩;rw [hw7];clear hw7;go_wp2_with fail
      refine hK.out _ _ ⟨hHeld.1,fun _=>trivial⟩ ?_;clear hK K;try simp only [Act.put,List.setIfInBounds_toArray,List.set_cons_zero,List.set_cons_succ]
      refine wpAnyT_takeB (i:=3) (oi:=⟨some 66,.binOp .neq 3 (.tmp 64) (.tmp 65) 3,_,_,_,_⟩) (v:=.bool false) rfl (by kernel_rfl) (by kernel_rfl) (by kernel_rfl) (by kernel_rfl) (fun _ _ _ h=>h) (Or.inl ⟨by rfl,?hyb3⟩) (by assumption) ?restb3
      case hyb3=>(intro w hSw;go_simp;try simp)
      try simp only [Act.put,List.setIfInBounds_toArray,List.set_cons_zero,List.set_cons_succ]
      refine wpAnyT_takeB (i:=4) (oi:=⟨some 67,.move (.tmp 66),_,_,_,_⟩) (v:=?vb4) rfl (by kernel_rfl) (by kernel_rfl) (by kernel_rfl) (by kernel_rfl) (fun _ _ _ h=>h) (Or.inl ⟨by rfl,?hyb4⟩) (by assumption) ?restb4
      case hyb4=>(intro w hSw;(try dsimp only at hSw);obtain ⟨⟨s0,s1,s2,s3,s4,s5,s6,s7,s8,s9⟩,r0,r1,r2,r3,r4,r5,r6,r7,r8,r9⟩:=hSw;go_simp;try (first | (with_reducible rfl) | exact (wrap_id (by omega) (by omega)).symm))
      try simp only [Act.put,List.setIfInBounds_toArray,List.set_cons_zero,List.set_cons_succ]
      refine wpAnyT_takeB (i:=5) (oi:=⟨some 68,.move (.tmp 10),_,_,_,_⟩) (v:=?vb5) rfl (by kernel_rfl) (by kernel_rfl) (by kernel_rfl) (by kernel_rfl) (fun _ _ _ h=>h) (Or.inl ⟨by rfl,?hyb5⟩) (by assumption) ?restb5
      case hyb5=>(intro w hSw;(try dsimp only at hSw);obtain ⟨⟨s0,s1,s2,s3,s4,s5,s6,s7,s8,s9⟩,r0,r1,r2,r3,r4,r5,r6,r7,r8,r9⟩:=hSw;go_simp;try (first | (with_reducible rfl) | exact (wrap_id (by omega) (by omega)).symm))
      try simp only [Act.put,List.setIfInBounds_toArray,List.set_cons_zero,List.set_cons_succ]
      refine wpAnyT_takeB (i:=6) (oi:=⟨some 69,.move (.tmp 8),_,_,_,_⟩) (v:=?vb6) rfl (by kernel_rfl) (by kernel_rfl) (by kernel_rfl) (by kernel_rfl) (fun _ _ _ h=>h) (Or.inl ⟨by rfl,?hyb6⟩) (by assumption) ?restb6
      case hyb6=>(intro w hSw;(try dsimp only at hSw);obtain ⟨⟨s0,s1,s2,s3,s4,s5,s6,s7,s8,s9⟩,r0,r1,r2,r3,r4,r5,r6,r7,r8,r9⟩:=hSw;go_simp;try (first | (with_reducible rfl) | exact (wrap_id (by omega) (by omega)).symm))
      try simp only [Act.put,List.setIfInBounds_toArray,List.set_cons_zero,List.set_cons_succ]
      refine wpAnyT_takeB (i:=7) (oi:=⟨some 70,.binOp .neq 9 (.tmp 68) (.tmp 69) 9,_,_,_,_⟩) (v:=.bool false) rfl (by kernel_rfl) (by kernel_rfl) (by kernel_rfl) (by kernel_rfl) (fun _ _ _ h=>h) (Or.inl ⟨by rfl,?hyb7⟩) (by assumption) ?restb7
      case hyb7=>(intro w hSw;go_simp;try simp)
      try simp only [Act.put,List.setIfInBounds_toArray,List.set_cons_zero,List.set_cons_succ]
      refine wpAnyT_takeB (i:=8) (oi:=⟨some 71,.pick (.tmp 67) (.const (.bool true)) (.tmp 70),_,_,_,_⟩) (v:=.bool false) rfl (by kernel_rfl) (by kernel_rfl) (by kernel_rfl) (by kernel_rfl) (fun _ _ _ h=>h) (Or.inl ⟨by rfl,?hyb8⟩) (by assumption) ?restb8
      case hyb8=>(intro w hSw;go_simp;try simp)
      try simp only [Act.put,List.setIfInBounds_toArray,List.set_cons_zero,List.set_cons_succ]
      refine wpAnyT_takeB (i:=9) (oi:=⟨some 72,.move (.tmp 71),_,_,_,_⟩) (v:=?vb9) rfl (by kernel_rfl) (by kernel_rfl) (by kernel_rfl) (by kernel_rfl) (fun _ _ _ h=>h) (Or.inl ⟨by rfl,?hyb9⟩) (by assumption) ?restb9
      case hyb9=>(intro w hSw;(try dsimp only at hSw);obtain ⟨⟨s0,s1,s2,s3,s4,s5,s6,s7,s8,s9⟩,r0,r1,r2,r3,r4,r5,r6,r7,r8,r9⟩:=hSw;go_simp;try (first | (with_reducible rfl) | exact (wrap_id (by omega) (by omega)).symm))
      try simp only [Act.put,List.setIfInBounds_toArray,List.set_cons_zero,List.set_cons_succ]
      refine wpAnyT_takeB (i:=10) (oi:=⟨some 73,.move (.tmp 5),_,_,_,_⟩) (v:=?vb10) rfl (by kernel_rfl) (by kernel_rfl) (by kernel_rfl) (by kernel_rfl) (fun _ _ _ h=>h) (Or.inl ⟨by rfl,?hyb10⟩) (by assumption) ?restb10
      case hyb10=>(intro w hSw;(try dsimp only at hSw);obtain ⟨⟨s0,s1,s2,s3,s4,s5,s6,s7,s8,s9⟩,r0,r1,r2,r3,r4,r5,r6,r7,r8,r9⟩:=hSw;go_simp;try (first | (with_reducible rfl) | exact (wrap_id (by omega) (by omega)).symm))
      try simp only [Act.put,List.setIfInBounds_toArray,List.set_cons_zero,List.set_cons_succ]
      refine wpAnyT_takeB (i:=11) (oi:=⟨some 74,.move (.tmp 7),_,_,_,_⟩) (v:=?vb11) rfl (by kernel_rfl) (by kernel_rfl) (by kernel_rfl) (by kernel_rfl) (fun _ _ _ h=>h) (Or.inl ⟨by rfl,?hyb11⟩) (by assumption) ?restb11
      case hyb11=>(intro w hSw;(try dsimp only at hSw);obtain ⟨⟨s0,s1,s2,s3,s4,s5,s6,s7,s8,s9⟩,r0,r1,r2,r3,r4,r5,r6,r7,r8,r9⟩:=hSw;go_simp;try (first | (with_reducible rfl) | exact (wrap_id (by omega) (by omega)).symm))
      try simp only [Act.put,List.setIfInBounds_toArray,List.set_cons_zero,List.set_cons_succ]
      refine wpAnyT_takeB (i:=12) (oi:=⟨some 75,.indexAddr 61 (.tmp 73) (.tmp 74),_,_,_,_⟩) (v:=?vb12) rfl (by kernel_rfl) (by kernel_rfl) (by kernel_rfl) (by kernel_rfl) (fun _ _ _ h=>h) (Or.inl ⟨by rfl,?hyb12⟩) (by assumption) ?restb12
      case hyb12=>(intro w hSw;(try dsimp only at hSw);obtain ⟨⟨s0,s1,s2,s3,s4,s5,s6,s7,s8,s9⟩,r0,r1,r2,r3,r4,r5,r6,r7,r8,r9⟩:=hSw;go_simp;try (first | (with_reducible rfl) | exact (wrap_id (by omega) (by omega)).symm))
      try simp only [Act.put,List.setIfInBounds_toArray,List.set_cons_zero,List.set_cons_succ]
      refine wpAnyT_takeB (i:=13) (oi:=⟨some 76,.load 51 (.tmp 75),_,_,_,_⟩) (v:=?vb13) rfl (by kernel_rfl) (by kernel_rfl) (by kernel_rfl) (by kernel_rfl) (fun _ _ _ h=>h) (Or.inl ⟨by rfl,?hyb13⟩) (by assumption) ?restb13
      case hyb13=>(intro w hSw;(try dsimp only at hSw);obtain ⟨⟨s0,s1,s2,s3,s4,s5,s6,s7,s8,s9⟩,r0,r1,r2,r3,r4,r5,r6,r7,r8,r9⟩:=hSw;go_simp;try (first | (with_reducible rfl) | exact (wrap_id (by omega) (by omega)).symm))
      try simp only [Act.put,List.setIfInBounds_toArray,List.set_cons_zero,List.set_cons_succ]
      refine wpAnyT_takeB (i:=14) (oi:=⟨some 77,.move (.tmp 0),_,_,_,_⟩) (v:=?vb14) rfl (by kernel_rfl) (by kernel_rfl) (by kernel_rfl) (by kernel_rfl) (fun _ _ _ h=>h) (Or.inl ⟨by rfl,?hyb14⟩) (by assumption) ?restb14
      case hyb14=>(intro w hSw;(try dsimp only at hSw);obtain ⟨⟨s0,s1,s2,s3,s4,s5,s6,s7,s8,s9⟩,r0,r1,r2,r3,r4,r5,r6,r7,r8,r9⟩:=hSw;go_simp;try (first | (with_reducible rfl) | exact (wrap_id (by omega) (by omega)).symm))
      try simp only [Act.put,List.setIfInBounds_toArray,List.set_cons_zero,List.set_cons_succ]
      refine wpAnyT_takeB (i:=15) (oi:=⟨some 78,.move (.tmp 7),_,_,_,_⟩) (v:=?vb15) rfl (by kernel_rfl) (by kernel_rfl) (by kernel_rfl) (by kernel_rfl) (fun _ _ _ h=>h) (Or.inl ⟨by rfl,?hyb15⟩) (by assumption) ?restb15
      case hyb15=>(intro w hSw;(try dsimp only at hSw);obtain ⟨⟨s0,s1,s2,s3,s4,s5,s6,s7,s8,s9⟩,r0,r1,r2,r3,r4,r5,r6,r7,r8,r9⟩:=hSw;go_simp;try (first | (with_reducible rfl) | exact (wrap_id (by omega) (by omega)).symm))
      try simp only [Act.put,List.setIfInBounds_toArray,List.set_cons_zero,List.set_cons_succ]
      refine wpAnyT_takeB (i:=16) (oi:=⟨some 79,.indexAddr 61 (.tmp 77) (.tmp 78),_,_,_,_⟩) (v:=?vb16) rfl (by kernel_rfl) (by kernel_rfl) (by kernel_rfl) (by kernel_rfl) (fun _ _ _ h=>h) (Or.inl ⟨by rfl,?hyb16⟩) (by assumption) ?restb16
      case hyb16=>(intro w hSw;(try dsimp only at hSw);obtain ⟨⟨s0,s1,s2,s3,s4,s5,s6,s7,s8,s9⟩,r0,r1,r2,r3,r4,r5,r6,r7,r8,r9⟩:=hSw;go_simp;try (first | (with_reducible rfl) | exact (wrap_id (by omega) (by omega)).symm))
      try simp only [Act.put,List.setIfInBounds_toArray,List.set_cons_zero,List.set_cons_succ]
      refine wpAnyT_takeB (i:=17) (oi:=⟨some 80,.load 51 (.tmp 79),_,_,_,_⟩) (v:=?vb17) rfl (by kernel_rfl) (by kernel_rfl) (by kernel_rfl) (by kernel_rfl) (fun _ _ _ h=>h) (Or.inl ⟨by rfl,?hyb17⟩) (by assumption) ?restb17
      case hyb17=>(intro w hSw;(try dsimp only at hSw);obtain ⟨⟨s0,s1,s2,s3,s4,s5,s6,s7,s8,s9⟩,r0,r1,r2,r3,r4,r5,r6,r7,r8,r9⟩:=hSw;go_simp;try (first | (with_reducible rfl) | exact (wrap_id (by omega) (by omega)).symm))
      try simp only [Act.put,List.setIfInBounds_toArray,List.set_cons_zero,List.set_cons_succ]
      refine wpAnyT_one (i:=18) (o:=⟨some 81,.call { callee:=.value (.func 13),args:=#[(.tmp 76),(.tmp 80)],argTypes:=#[51,51] },_,_,_,_⟩) (by kernel_rfl) rfl (fun K hK=>?_);go_simp;refine calls_at (HSm.out U HBd.out) (by with_reducible rfl) (by with_reducible rfl) ?_;rintro e w7 ⟨rfl,hb7⟩;have HB7:Hid (Below wr.heap.size wr w7):=bl_next HBd.out hb7;clear hb7;go_wp2_with fail
      have hHeld:=(⟨HH.out _ HB7.out,trivial⟩:_/\True);refine hK.out _ _ ⟨hHeld.1,fun _=>trivial⟩ ?_;clear hK K;try simp only [Act.put,List.setIfInBounds_toArray,List.set_cons_zero,List.set_cons_succ]
      refine wpAnyT_takeB (i:=19) (oi:=⟨some 82,.unOp .not 4 (.tmp 81),_,_,_,_⟩) (v:=.bool false) rfl (by kernel_rfl) (by kernel_rfl) (by kernel_rfl) (by kernel_rfl) (fun _ _ _ h=>h) (Or.inl ⟨by rfl,?hyc19⟩) (by assumption) ?restc19
      case hyc19=>(intro w hSw;go_simp;try simp)
      try simp only [Act.put,List.setIfInBounds_toArray,List.set_cons_zero,List.set_cons_succ]
      refine wpAnyT_takeB (i:=20) (oi:=⟨some 83,.pick (.tmp 72) (.const (.bool true)) (.tmp 82),_,_,_,_⟩) (v:=.bool false) rfl (by kernel_rfl) (by kernel_rfl) (by kernel_rfl) (by kernel_rfl) (fun _ _ _ h=>h) (Or.inl ⟨by rfl,?hyc20⟩) (by assumption) ?restc20
      case hyc20=>(intro w hSw;go_simp;try simp)
      try simp only [Act.put,List.setIfInBounds_toArray,List.set_cons_zero,List.set_cons_succ]
      refine wpAnyT_done (by kernel_rfl) ?_ _;have HB8:Hid (Below w3.heap.size w3 w7):=bl_next HB.out HB7.out;clear hHeld HH HSm HBd HB7;go_wp2_with fail
      go_roundw
      case rel=>exact ⟨i+1,by go_num,by omega,HB8⟩
      case measure=>simp [intOf];omega
    · have hiI:¬ (i:Int)<2*(ds.length:Int):=by omega
      have hm2:wrap64 (2*(ds.length:Int))=2*(ds.length:Int):=by unfold wrap64;omega
      have HW0:Hid (Wc S2 w3 wr):=(Wc.refl S2 w3).next HB.out;clear HBwr HB HPr HRp;go_wp2_with fail
      clear hiI hm2 hi hin;go_loopw [12] (fun iv wr=>∃ i:Nat,iv=.int .i64 (i:Int)/\i<=ds.length/\Hid (Wc S2 w3 wr)) (fun iv _=>ds.length-(intOf iv).toNat)
      case atStart=>exact ⟨0,rfl,Nat.zero_le _,HW0⟩
      case round=>
        obtain ⟨i2,rfl,hi2,HC⟩:=hrel;clear HW0;rename World=>wr
        by_cases hin2:i2<ds.length
        · have hiI2:(i2:Int)<(ds.length:Int):=by omega
          obtain ⟨hn1,hLb,L,hLd,hLs,hLc⟩:=HSt.out;have hiL:i2<L.length:=by have:=congrArg List.length hLd;simp at this;omega
          obtain ⟨s,hs⟩:∃ s,L[i2]=s:=⟨_,rfl⟩;have hsl:SlB S2 w3 s:=hs▸hLs _ (List.getElem_mem hiL);have hdm:s.d∈ds:=by rw [<-hLd,<-hs];exact List.mem_map_of_mem (List.getElem_mem hiL)
          have hcw:∀ w',Wc S2 w3 w'->∀ j,j<10->w'.cell? ⟨b,i2*10+j,none⟩=(slC s.d s.o s.p s.l s.i)[j]?:=fun w' hc j hj=>by
            rw [World.cell?_of_block (a:=⟨b,i2*10+j,none⟩) (hc.block b hLb.2.1 (.inr (by rw [hLb.1];unfold lb;omega))),hLc i2 j hiL hj,svC_get L i2 j hiL hj,hs]
          have hwc:∀ w',Wc S2 w3 w'->∃ (li:List Int) (id:List (List UInt8)),tot id<=2*tot s.d.ids/\SlI { s.d with lits:=li,ids:=id }/\li.length=s.d.lits.length/\id.length=s.d.ids.length/\SlR w' { s.d with lits:=li,ids:=id } s.o s.p s.l s.i:=fun w' hc=>sl_wc hsl hc (HI.out _ hdm) (HFw.out _ hdm)
          have hfw:=HFw.out _ hdm;have hst:=HWt.out _ hdm;have hii:=HI.out _ hdm;clear hLs hLc hiL hLd hs hn1;obtain ⟨d,vo,vp,vl,vi⟩:=s;obtain ⟨hs0,bO,bP,bL,bI,e1,e2,e3,e4,h1,h2,h3,h4⟩:=hsl;simp only at e1 e2 e3 e4 h1 h2 h3 h4 hcw hwc hfw hst hii hdm hs0;subst e1 e2 e3 e4;have hrd:=hs0.now;obtain ⟨cO,hcO⟩:∃ cO,d.ops.length+4=cO:=⟨_,rfl⟩;obtain ⟨cP,hcP⟩:∃ cP,d.pcs.length+4=cP:=⟨_,rfl⟩;obtain ⟨cL,hcL⟩:∃ cL,d.lits.length+4=cL:=⟨_,rfl⟩;obtain ⟨cI,hcI⟩:∃ cI,d.ids.length+4=cI:=⟨_,rfl⟩;rw [hcO,hcP,hcL,hcI] at hcw hwc hrd
          have HTen:Hid (∀ w',Wc S2 w3 w'->w'.cell? ⟨b,i2*10,none⟩=some (.int .i64 d.k)/\w'.cell? ⟨b,i2*10+1,none⟩=some (.string (txtOf d.n))/\w'.cell? ⟨b,i2*10+2,none⟩=some (.slice (some ⟨bO,0,none⟩) d.ops.length cO)/\w'.cell? ⟨b,i2*10+3,none⟩=some (.slice (some ⟨bP,0,none⟩) d.pcs.length cP)/\w'.cell? ⟨b,i2*10+4,none⟩=some (.string (txtOf d.deg))/\w'.cell? ⟨b,i2*10+5,none⟩=some (.slice (some ⟨bL,0,none⟩) d.lits.length cL)/\w'.cell? ⟨b,i2*10+6,none⟩=some (.slice (some ⟨bI,0,none⟩) d.ids.length cI)/\w'.cell? ⟨b,i2*10+7,none⟩=some (.int .i64 d.ends)/\w'.cell? ⟨b,i2*10+8,none⟩=some (.string (txtOf d.low))/\w'.cell? ⟨b,i2*10+9,none⟩=some (.string (txtOf d.high))):=fun w' hc=>by
            have k:=hcw w' hc;exact ⟨k 0 (by omega),k 1 (by omega),k 2 (by omega),k 3 (by omega),k 4 (by omega),k 5 (by omega),k 6 (by omega),k 7 (by omega),k 8 (by omega),k 9 (by omega)⟩
          have HIn:Hid (∀ w',Wc S2 w3 w'->∀ j,j<d.lits.length->∃ a,w'.cell? ⟨bL,j,none⟩=some (.int .i64 a)/\w'.frozen? ⟨bL,j,none⟩=false):=fun w' hc j hj=>by
            obtain ⟨a,q1,_⟩:=hc.ints bL _ h3.2.1 h3.1 hfw.2.2.1 j d.lits[j] hj (rd_cell hrd.l j hj _ (by simp [hj])) (hii.l _ (List.getElem_mem hj));obtain ⟨cur,t,hf⟩:=hc.form bL h3.2.1 h3.2.2;exact ⟨a,q1,frozen_of hf j⟩
          have HTx:Hid (∀ w',Wc S2 w3 w'->∀ j,j<d.ids.length->∃ x,w'.cell? ⟨bI,j,none⟩=some (.string (txtOf x))/\w'.frozen? ⟨bI,j,none⟩=false):=fun w' hc j hj=>by
            obtain ⟨a,q1,_⟩:=hc.txts bI _ h4.2.1 h4.1 hfw.2.2.2 j d.ids[j] hj (rd_cell hrd.i j hj _ (by simp [hj]));obtain ⟨cur,t,hf⟩:=hc.form bI h4.2.1 h4.2.2;exact ⟨a,q1,frozen_of hf j⟩
          have HSI:Hid (∀ w' j a,Wc S2 w3 w'->j<d.lits.length->I6 a->Wc S2 w3 (w'.setCell ⟨bL,j,none⟩ (.int .i64 a))):=fun w' j a hc hj ha=>hc.setI h3.2.1 h3.1 hfw.2.2.1 hj a ha (hc.form bL h3.2.1 h3.2.2)
          have HST:Hid (∀ w' j,Wc S2 w3 w'->j<d.ids.length->Wc S2 w3 (w'.setCell ⟨bI,j,none⟩ (.string ⟨#[53]⟩))):=fun w' j hc hj=>hc.setT h4.2.1 h4.1 hfw.2.2.2 hj [53] (by decide) (hc.form bI h4.2.1 h4.2.2)
          have HPt:Hid (∀ w',Wc S2 w3 w'->∃ T E,(Calls Tryz.prog 18 #[.agg #[.int .i64 d.k,.string (txtOf d.n),.slice (some ⟨bO,0,none⟩) d.ops.length cO,.slice (some ⟨bP,0,none⟩) d.pcs.length cP,.string (txtOf d.deg),.slice (some ⟨bL,0,none⟩) d.lits.length cL,.slice (some ⟨bI,0,none⟩) d.ids.length cI,.int .i64 d.ends,.string (txtOf d.low),.string (txtOf d.high)]] w' fun e w2=>e=.returned (.tuple #[.string T,.int .i64 E])/\Below w'.heap.size w' w2)/\∀ w2,Below w'.heap.size w' w2->Calls Tryz.prog 19 #[.agg #[.int .i64 d.k,.string (txtOf d.n),.slice (some ⟨bO,0,none⟩) d.ops.length cO,.slice (some ⟨bP,0,none⟩) d.pcs.length cP,.string (txtOf d.deg),.slice (some ⟨bL,0,none⟩) d.lits.length cL,.slice (some ⟨bI,0,none⟩) d.ids.length cI,.int .i64 d.ends,.string (txtOf d.low),.string (txtOf d.high)]] w2 fun e w4=>e=.returned (.tuple #[.string T,.int .i64 E])/\Below w2.heap.size w2 w4):=fun w' hc=>by
            obtain ⟨li,id,q1,q2,q3,q4,q5⟩:=hwc w' hc;have hb':Below w.heap.size w w':=HB3.out.trans ((hc.below HB23.out.size HLo.out).mono HB2.out.size);have e1:rW { d with lits:=li,ids:=id }=rW d:=by unfold rW;simp only;omega
            have e2:=st_rW d;have e3:tot (SL.ids { d with lits:=li,ids:=id })=tot id:=rfl;have e4:=lnX_len2 _ q2;have e5:=lnW_len2 _ q2;have e6:=sz_le { d with lits:=li,ids:=id };have e7:=st_rW { d with lits:=li,ids:=id };rw [e1,e3] at e4 e5 e7;refine ⟨txtOf (prT { d with lits:=li,ids:=id }).1,(prT { d with lits:=li,ids:=id }).2,rprint_any _ _ _ _ _ w' q5 q2 (by omega) (by omega) (HG.out w' hb'),fun w2 hb2=>print_any _ _ _ _ _ w2 (q5.below hb2) q2 (by omega) (HG.out w2 (bl_next hb' hb2)) (HG.out w2 (bl_next hb' hb2)).size⟩
          have hLl:d.lits.length<=1000000:=hfw.2.2.1;have hIl:d.ids.length<=1000000:=hfw.2.2.2;clear hcw hwc hfw hst hii hdm hs0 h1 h2 h3 h4 hrd hcO hcP hcL hcI hLb;go_wp2_with fail
          go_loopw [13] (fun jv wr=>∃ j:Nat,jv=.int .i64 (j:Int)/\j<=d.lits.length/\Hid (Wc S2 w3 wr)) (fun jv _=>d.lits.length-(intOf jv).toNat)
          case atStart=>exact ⟨0,rfl,Nat.zero_le _,HC⟩
          case round=>
            obtain ⟨j,rfl,hj,HCj⟩:=hrel;clear HC;rename World=>wr;obtain ⟨p0,p1,p2,p3,p4,p5,p6,p7,p8,p9⟩:=HTen.out wr HCj.out
            by_cases hjn:j<d.lits.length
            · have hjI:(j:Int)<(d.lits.length:Int):=by omega
              obtain ⟨av,hav,hfv⟩:=HIn.out wr HCj.out j hjn;have H3:Hid (Wc S2 w3 (wr.setCell ⟨bL,j,none⟩ (.int .i64 (wrap64 (-av)))).drew):=(HSI.out wr j (wrap64 (-av)) HCj.out hjn (by unfold I6 wrap64;omega)).drew;go_wp2_with fail
              go_region;go_wp2_with fail
              go_roundw
              case rel=>exact ⟨j+1,by go_num,hjn,H3⟩
              case measure=>simp [intOf];omega
            · have hjI:¬ (j:Int)<(d.lits.length:Int):=by omega
              go_wp2_with fail
              clear p0 p1 p2 p3 p4 p5 p6 p7 p8 p9 hjI hjn hj;go_loopw [14] (fun jv wr=>∃ j:Nat,jv=.int .i64 (j:Int)/\j<=d.ids.length/\Hid (Wc S2 w3 wr)) (fun jv _=>d.ids.length-(intOf jv).toNat)
              case atStart=>exact ⟨0,rfl,Nat.zero_le _,HCj⟩
              case round=>
                obtain ⟨j4,rfl,hj4,HC4⟩:=hrel;clear HCj;rename World=>wr;obtain ⟨p0,p1,p2,p3,p4,p5,p6,p7,p8,p9⟩:=HTen.out wr HC4.out
                by_cases hjn4:j4<d.ids.length
                · have hjI4:(j4:Int)<(d.ids.length:Int):=by omega
                  obtain ⟨xv,hxv,hfv⟩:=HTx.out wr HC4.out j4 hjn4;have H4:Hid (Wc S2 w3 (wr.setCell ⟨bI,j4,none⟩ (.string ⟨#[53]⟩))):=HST.out wr j4 HC4.out hjn4;go_wp2_with fail
                  go_roundw
                  case rel=>exact ⟨j4+1,by go_num,hjn4,H4⟩
                  case measure=>simp [intOf];omega
                · have hjI4:¬ (j4:Int)<(d.ids.length:Int):=by omega
                  obtain ⟨T,E,hR,hP⟩:=HPt.out wr HC4.out;have HR1:Hid (Calls Tryz.prog 18 #[.agg #[.int .i64 d.k,.string (txtOf d.n),.slice (some ⟨bO,0,none⟩) d.ops.length cO,.slice (some ⟨bP,0,none⟩) d.pcs.length cP,.string (txtOf d.deg),.slice (some ⟨bL,0,none⟩) d.lits.length cL,.slice (some ⟨bI,0,none⟩) d.ids.length cI,.int .i64 d.ends,.string (txtOf d.low),.string (txtOf d.high)]] wr fun e w2=>e=.returned (.tuple #[.string T,.int .i64 E])/\Below wr.heap.size wr w2):=hR
                  have HP1:Hid (∀ w2,Below wr.heap.size wr w2->Calls Tryz.prog 19 #[.agg #[.int .i64 d.k,.string (txtOf d.n),.slice (some ⟨bO,0,none⟩) d.ops.length cO,.slice (some ⟨bP,0,none⟩) d.pcs.length cP,.string (txtOf d.deg),.slice (some ⟨bL,0,none⟩) d.lits.length cL,.slice (some ⟨bI,0,none⟩) d.ids.length cI,.int .i64 d.ends,.string (txtOf d.low),.string (txtOf d.high)]] w2 fun e w4=>e=.returned (.tuple #[.string T,.int .i64 E])/\Below w2.heap.size w2 w4):=hP;have HNum:Hid (∀ n w',Calls Tryz.prog 12 #[.int .i64 n] w' fun e w2=>e=.returned (.int .i64 n)/\w2=w'):=num_any;clear hR hP HPt;go_wp2_with fail
                  refine calls_at HR1.out (by with_reducible rfl) (by with_reducible rfl) ?_;rintro e w4 ⟨rfl,hb4⟩;have HB4:Hid (Below wr.heap.size wr w4):=hb4;clear hb4 HR1 p0 p1 p2 p3 p4 p5 p6 p7 p8 p9;obtain ⟨p0,p1,p2,p3,p4,p5,p6,p7,p8,p9⟩:=HTen.out w4 (HC4.out.next HB4.out);go_wp2_with fail
                  refine calls_at (HP1.out w4 HB4.out) (by with_reducible rfl) (by with_reducible rfl) ?_;rintro e w5 ⟨rfl,hb5⟩;have HB5:Hid (Below wr.heap.size wr w5):=bl_next HB4.out hb5;clear hb5 HP1 p0 p1 p2 p3 p4 p5 p6 p7 p8 p9;have H5:Hid (Wc S2 w3 w5):=HC4.out.next HB5.out;have hTT:(T.toList==T.toList)=true:=by simp
                  go_wp2_with fail
                  refine calls_at (HNum.out E w5) (by with_reducible rfl) (by with_reducible rfl) ?_;rintro e w6 ⟨rfl,hw6⟩;rw [hw6];clear hw6;go_wp2_with fail
                  go_roundw
                  case rel=>exact ⟨i2+1,by go_num,hin2,H5⟩
                  case measure=>simp [intOf];omega
        · have hiI2:¬ (i2:Int)<(ds.length:Int):=by omega
          have HGe:Hid (RoomG w2.heap.size w2.heap.size S2 (4*ds.length+1) wr):=by
            obtain ⟨F,hF⟩:=HRm.out;exact ⟨F,room_wc hF HC.out⟩
          have HBe:Hid (Below w.heap.size w wr):=HB3.out.trans ((HC.out.below HB23.out.size HLo.out).mono HB2.out.size);have HHo:Hid (Calls Tryz.prog 20 #[.pointer (some ⟨w2.heap.size,0,none⟩)] wr fun e w'=>e=.returned (.bool true)/\Below wr.heap.size wr w'):=hold_any _ _ _ _ wr HGe.out (by omega);go_wp2_with fail
          refine calls_at HHo.out (by with_reducible rfl) (by with_reducible rfl) ?_;rintro e w5 ⟨rfl,hb5⟩;have HB5:Hid (Below w.heap.size w w5):=bl_next HBe.out hb5;clear hb5;go_wp2_with fail
          go_ret;exact ⟨rfl,HB5.out⟩
end Go.Proofs.YtpcijhecaedkpaaGreatDoor
