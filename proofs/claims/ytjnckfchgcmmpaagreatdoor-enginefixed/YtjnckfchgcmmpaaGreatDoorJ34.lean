import Derived.Test.YtjnckfchgcmmpaaGreatDoorDmMark
import Derived.Laws.CopyRow
import Derived.Lib.SliceRun
import Derived.Test.YtjnckfchgcmmpaaGreatDoorJ05
import Derived.Test.YtjnckfchgcmmpaaGreatDoorJ21
import Derived.Test.YtjnckfchgcmmpaaGreatDoorJ31
import Derived.Shelf.Abstract
import Derived.Deep.RegionHeld3
import Derived.Test.YtjnckfchgcmmpaaGreatDoorJ26
namespace Go.Proofs.YtjnckfchgcmmpaaGreatDoor
open Go.RowKit
theorem bl_alloc {W a:World} (h:Below W.heap.size W a) (o:Obj):Below W.heap.size W (a.alloc o):=h.alloc h.size o
end Go.Proofs.YtjnckfchgcmmpaaGreatDoor
namespace Go.Proofs.YtjnckfchgcmmpaaGreatDoor
open Go.RowKit
set_option maxRecDepth 10000
set_option maxHeartbeats 8000000
def wholeD (v:Md.Vr):Dm:=⟨v.lo,wWd v.lo v.hi 0,wWd v.lo v.hi 1⟩
def newS (m:Md.Mo):St:=if (Md.check m).2=0 then ⟨m.vars.map wholeD,[],0⟩ else ⟨[],[],0⟩
theorem wholeD_ok {v:Md.Vr} (h:Md.boundsB v.lo v.hi=true):(wholeD v).Ok:=by
  have hb:=Md.bounds_of h;exact ⟨hb.1.1,hb.1.2,isW_bits .andNot _ _,isW_bits .andNot _ _⟩
theorem new_at {B p k:Nat} {na na2:Option Addr} {nc nc2:Nat} {L M:List Dm} {d:Dm} {X w2:World} (h:StAt B X p (.slice na k nc) (.slice none 0 0) ⟨L,[],0⟩) (hl:L.length=k) (hM:M=L++[d]) (hd:d.Ok) (hk:k+1<=32)
    (g1:w2.ownsRow B 73 3 (.slice na2 (k+1) nc2) (k+1) (dms L++dms [d])) (g2:X.grownBy w2 (Value.slice na k nc).ownBlock) (g3:(Value.slice na2 (k+1) nc2).ownBlock=(Value.slice na k nc).ownBlock∨(Value.slice na2 (k+1) nc2).ownBlock=some X.heap.size) :
    StAt B (w2.setCell ⟨p,0,none⟩ (.slice na2 (k+1) nc2)) p (.slice na2 (k+1) nc2) (.slice none 0 0) ⟨M,[],0⟩/\Below B X (w2.setCell ⟨p,0,none⟩ (.slice na2 (k+1) nc2)):=by
  subst hM;have hlt:=h.lt;have hne:(Value.slice na2 (k+1) nc2).ownBlock≠some p:=fun e=>by
    rcases g3 with g3 | g3
    · exact h.ne1 (g3.symm.trans e)
    · rw [g3] at e
      injection e with e;omega
  have gp:=(g2.block p hlt (fun e=>h.ne1 e.symm)).trans h.o;have hE:=heap_setCell_same w2 p 0 _ 68 (.slice na2 (k+1) nc2) gp;have hoth:∀ j,j≠p->(w2.setCell ⟨p,0,none⟩ (.slice na2 (k+1) nc2)).heap[j]?=w2.heap[j]?:=fun j hj=>heap_setCell_other _ _ _ _ hj
  refine ⟨{
    o:=by simpa only [List.setIfInBounds_toArray,List.set_cons_zero] using hE
    n:=by
      show World.ownsRow _ _ _ _ _ (L++[d]).length (dms (L++[d]));rw [List.length_append,dms_append,hl];exact row_kept g1 (fun g hg=>hoth g (fun e=>hne (by rw [<-e];exact hg)))
    m:=World.ownsRow_nil _ _ _ _
    b1:=h.b1
    p1:=h.p1
    ne1:=hne
    ne2:=fun e=>by cases e
    ne3:=fun j _ e=>by cases e
    good:=fun x hx=>by
      rcases List.mem_append.1 hx with hx | hx
      · exact h.good x hx
      · rw [List.mem_singleton.1 hx];exact hd
    goodm:=fun x hx=>by cases hx
    len:=by show 0=0*_;rw [Nat.zero_mul]
    n32:=by show (L++[d]).length<=32;rw [List.length_append,hl];exact hk
    mks:=by show 0<=10000;omega },?_⟩
  exact ((Below.refl _ _).grown g2 h.size (fun g hg=>(row_lt h.n hg).1)).setCell h.p1 _
def NewOut (m:Md.Mo) (w:World) (e:Ending) (w':World):Prop:=∃ p nv mv,e=.returned (.pointer (some ⟨p,0,none⟩))/\StAt w.heap.size w' p nv mv (newS m)/\Below w.heap.size w w'
theorem new_any (m:Md.Mo) (vv vc vg:Value) (w:World) (h:MoAt w m vv vc vg) (hs:0<w.heap.size):Calls Tryz.prog 6 #[moVal m vv vc vg] w (NewOut m w):=by
  obtain ⟨W,hW⟩:∃ W,(w.alloc (.cells #[vv,vc,.bool m.has,vg] 26)).alloc (.cells #[.slice none 0 0,.slice none 0 0,.int .i64 0] 68)=W:=⟨_,rfl⟩;have hb0:Below w.heap.size w W:=by rw [<-hW];exact ((Below.refl _ _).alloc (Nat.le_refl _) _).alloc (by simp) _
  have HB:Hid (Below w.heap.size w W):=hb0;have g0:W.heap[w.heap.size]?=some (.cells #[vv,vc,.bool m.has,vg] 26 (0,0)):=by rw [<-hW,heap_alloc_old (w.alloc _) _ (by simp)];exact heap_alloc_new w _
  have g1:W.heap[w.heap.size+1]?=some (.cells #[.slice none 0 0,.slice none 0 0,.int .i64 0] 68 (0,0)):=by rw [<-hW];exact heap_alloc2_new w _ _
  have hlt:=(hLt g0);have HG0:Hid (∀ w',Below W.heap.size W w'->w'.heap[w.heap.size]?=some (.cells #[vv,vc,.bool m.has,vg] 26 (0,0))):=fun w' hb=>(hb.block _ hlt).trans g0
  have HM:Hid (MoAt w m vv vc vg):=h;have HCh:Hid (Calls Tryz.prog 5 #[.agg #[vv,vc,.bool m.has,vg]] W fun e w'=>e=.returned (.tuple #[.int .i64 (Md.check m).1,.int .i64 (Md.check m).2])/\Below W.heap.size W w'):=check_any m vv vc vg W (h.below hb0)
  have HE0:Hid (∀ w',Below W.heap.size W w'->StAt w.heap.size w' (w.heap.size+1) (.slice none 0 0) (.slice none 0 0) ⟨[],[],0⟩):=fun w' hb=>{
    o:=(hb.block _ (hLt g1)).trans g1
    n:=World.ownsRow_nil _ _ _ _
    m:=World.ownsRow_nil _ _ _ _
    b1:=hs
    p1:=Nat.le_succ _
    ne1:=fun e=>by cases e
    ne2:=fun e=>by cases e
    ne3:=fun j _ e=>by cases e
    good:=fun x hx=>by cases hx
    goodm:=fun x hx=>by cases hx
    len:=rfl
    n32:=Nat.zero_le _
    mks:=Nat.zero_le _ }
  have c0:W.cell? ⟨w.heap.size,0,none⟩=some vv:=cell_of g0 0;have c1:W.cell? ⟨w.heap.size,1,none⟩=some vc:=cell_of g0 1;have c2:W.cell? ⟨w.heap.size,2,none⟩=some (.bool m.has):=cell_of g0 2;have c3:W.cell? ⟨w.heap.size,3,none⟩=some vg:=cell_of g0 3;clear hb0 g0 g1 hlt h;unfold moVal;go_enter Tryz.func6,Tryz.ntmps6;go_wp2_with fail
  refine cA HCh.out ?_;rintro e w1 ⟨rfl,hb1⟩;have HB1:Hid (Below W.heap.size W w1):=hb1;clear hb1 c0 c1 c2 c3 hW
  by_cases hok:(Md.check m).2=0
  · have hR:=Md.right_of hok
    have HNs:Hid (newS m=⟨m.vars.map wholeD,[],0⟩):=by show _=_;unfold newS;rw [if_pos hok]
    have hn:=hR.nv;have HOk:Hid (∀ v∈m.vars,Md.boundsB v.lo v.hi=true):=fun v hv=>(hR.var v hv).2
    clear hR;have d0:w1.cell? ⟨w.heap.size,0,none⟩=some vv:=cell_of (HG0.out w1 HB1.out) 0;obtain ⟨va,vp,rfl,hvm,_,hvo⟩:=id HM.out.v;have HVC:Hid (∀ w',Below w.heap.size w w'->∀ j (hj:j<m.vars.length),∃ b off,va=some ⟨b,off,none⟩/\w'.cell? ⟨b,off+j*3,none⟩=some (.string m.vars[j].name)/\w'.cell? ⟨b,off+j*3+1,none⟩=some (.int .i64 m.vars[j].lo)/\w'.cell? ⟨b,off+j*3+2,none⟩=some (.int .i64 m.vars[j].hi)):=fun w' hb j hj=>by
      obtain ⟨b,off,e1,e2,e3⟩:=hvo (by omega);obtain ⟨f1,f2,f3⟩:=e3 j hj;exact ⟨b,off,e1,(hb.cell (p:=⟨b,off+j*3,none⟩) e2).trans f1,(hb.cell (p:=⟨b,off+j*3+1,none⟩) e2).trans f2,(hb.cell (p:=⟨b,off+j*3+2,none⟩) e2).trans f3⟩
    clear hvo;go_wp2_with fail
    go_loopw [21] (fun iv wr=>∃ (k:Nat) (na:Option Addr) (nc:Nat),iv=.int .i64 (k:Int)/\k<=m.vars.length/\Hid (StAt w.heap.size wr (w.heap.size+1) (.slice na k nc) (.slice none 0 0) ⟨(m.vars.take k).map wholeD,[],0⟩)/\Hid (Below w.heap.size w wr)) (fun iv _=>m.vars.length-(intOf iv).toNat)
    case atStart=>exact ⟨0,none,0,rfl,Nat.zero_le _,HE0.out w1 HB1.out,HB.out.trans (HB1.out.mono HB.out.size)⟩
    case round=>
      obtain ⟨k,na,nc,rfl,hk,HAr,HBr⟩:=hrel
      by_cases hkn:k<m.vars.length
      · have hkI:(k:Int)<(m.vars.length:Int):=by omega
        obtain ⟨b,off,rfl,x0,x1,x2⟩:=HVC.out wr HBr.out k hkn;have HKl:Hid (((m.vars.take k).map wholeD).length=k):=by show _=_;rw [List.length_map,List.length_take];omega
        have HTk:Hid ((m.vars.take (k+1)).map wholeD=(m.vars.take k).map wholeD++[wholeD m.vars[k]]):=by show _=_;rw [List.take_succ_eq_append_getElem hkn,List.map_append];rfl
        have hbd:=HOk.out m.vars[k] (List.getElem_mem hkn);have HOkv:Hid ((wholeD m.vars[k]).Ok):=wholeD_ok hbd;obtain ⟨v,hv⟩:∃ v,m.vars[k]=v:=⟨_,rfl⟩;rw [hv] at x0 x1 x2 HTk hbd HOkv;have hbb:=Md.bounds_of hbd;have HWh:Hid (∀ w',Calls Tryz.prog 21 #[.agg #[.string v.name,.int .i64 v.lo,.int .i64 v.hi]] w' fun e w2=>e=.returned (.agg #[.int .i64 v.lo,.int .u32 (wWd v.lo v.hi 0),.int .u32 (wWd v.lo v.hi 1)])/\Below w'.heap.size w' w2):=fun w'=>whole_any v.name v.lo v.hi w' (by omega) (by omega)
        clear hbd hv hbb;go_wp2_with fail
        obtain ⟨Y,hY⟩:∃ Y,wr.alloc (.cells #[.string v.name,.int .i64 v.lo,.int .i64 v.hi] 51)=Y:=⟨_,rfl⟩;have hbY:Below wr.heap.size wr Y:=bAe hY;have HAY:Hid (StAt w.heap.size Y.drew (w.heap.size+1) (.slice na k nc) (.slice none 0 0) ⟨(m.vars.take k).map wholeD,[],0⟩):=(HAr.out.below hbY).below (Below.refl _ _).drew;have HBY:Hid (Below w.heap.size w Y.drew):=(HBr.out.trans (hbY.mono HBr.out.size)).drew;have hgY:Y.drew.heap[wr.heap.size]?=some (.cells #[.string v.name,.int .i64 v.lo,.int .i64 v.hi] 51 (0,0)):=hAe (X:=Y) hY;have HC0:Hid (Y.drew.cell? ⟨w.heap.size+1,0,none⟩=some (.slice na k nc)):=cell_of HAY.out.o 0;have HYg:Hid (Y.drew.heap[wr.heap.size]?=some (.cells #[.string v.name,.int .i64 v.lo,.int .i64 v.hi] 51 (0,0))):=hgY;have HYlt:Hid (wr.heap.size<Y.drew.heap.size):=(hLt hgY)
        have HCC:Hid (∀ w':World,StAt w.heap.size w' (w.heap.size+1) (.slice na k nc) (.slice none 0 0) ⟨(m.vars.take k).map wholeD,[],0⟩->w'.heap[wr.heap.size]?=some (.cells #[.string v.name,.int .i64 v.lo,.int .i64 v.hi] 51 (0,0))->w'.cell? ⟨w.heap.size+1,0,none⟩=some (.slice na k nc)/\w'.cell? ⟨wr.heap.size,0,none⟩=some (.string v.name)/\w'.cell? ⟨wr.heap.size,1,none⟩=some (.int .i64 v.lo)/\w'.cell? ⟨wr.heap.size,2,none⟩=some (.int .i64 v.hi)):=fun w' h1 h2=>⟨cell_of h1.o 0,cell_of h2 0,cell_of h2 1,cell_of h2 2⟩
        rw [hY];refine wp_region_T (fun _=>True) (fun w'=>w'.cell? ⟨w.heap.size+1,0,none⟩=some (.slice na k nc)/\w'.cell? ⟨wr.heap.size,0,none⟩=some (.string v.name)/\w'.cell? ⟨wr.heap.size,1,none⟩=some (.int .i64 v.lo)/\w'.cell? ⟨wr.heap.size,2,none⟩=some (.int .i64 v.hi)) [11] (by kernel_rfl) ⟨trivial,HCC.out _ HAY.out hgY⟩ (fun hHeld=>?_);clear hgY HC0 hbY hY x0 x1 x2;have HAU:=HAY;have HBU:=HBY;generalize Y.drew=U at HAU HBU HYg HYlt hHeld ⊢
        refine tB (i:=0) (oi:=⟨some 25,.move (.tmp 3),_,_,_,_⟩) (v:=?v_ad) ?hy_ad (by assumption) ?rest_ad
        case hy_ad=>(intro w hSw;(try dsimp only at hSw);go_simp;try (with_reducible rfl))
        try simp only [Act.put,q1,q2,q3]
        refine tB (i:=1) (oi:=⟨some 26,.move (.tmp 3),_,_,_,_⟩) (v:=?v_af) ?hy_af (by assumption) ?rest_af
        case hy_af=>(intro w hSw;(try dsimp only at hSw);go_simp;try (with_reducible rfl))
        try simp only [Act.put,q1,q2,q3]
        refine tB (i:=2) (oi:=⟨some 27,.nilCheck (.tmp 26),_,_,_,_⟩) (v:=?v_ac) ?hy_ac (by assumption) ?rest_ac
        case hy_ac=>(intro w hSw;(try dsimp only at hSw);go_simp;try (with_reducible rfl))
        try simp only [Act.put,q1,q2,q3]
        refine tB (i:=3) (oi:=⟨some 28,.fieldAddr 68 (.tmp 27) 0,_,_,_,_⟩) (v:=?v_ae) ?hy_ae (by assumption) ?rest_ae
        case hy_ae=>(intro w hSw;(try dsimp only at hSw);go_simp;try (with_reducible rfl))
        try simp only [Act.put,q1,q2,q3]
        refine tA (i:=4) (oi:=⟨some 29,.load 66 (.tmp 28),_,_,_,_⟩) (v:=?v_aa) ?hy_aa (by assumption) ?rest_aa
        case hy_aa=>(intro w hSw;(try dsimp only at hSw);go_simp;try (with_reducible rfl))
        try simp only [Act.put,q1,q2,q3]
        refine tA (i:=5) (oi:=⟨some 30,.load 51 (.tmp 7),_,_,_,_⟩) (v:=?v_ag) ?hy_ag (by assumption) ?rest_ag
        case hy_ag=>(intro w hSw;(try dsimp only at hSw);go_simp;try (with_reducible rfl))
        try simp only [Act.put,q1,q2,q3]
        refine wpAnyT_one (i:=6) (o:=⟨some 31,.call { callee:=.value (.func 21),args:=#[(.tmp 30)],argTypes:=#[51] },_,_,_,_⟩) (by kernel_rfl) rfl (fun K hK=>?_);go_simp;refine cA (HWh.out _) ?_;rintro e w1 ⟨rfl,hb1⟩;have HA1:Hid (StAt w.heap.size w1 (w.heap.size+1) (.slice na k nc) (.slice none 0 0) ⟨(m.vars.take k).map wholeD,[],0⟩):=HAU.out.below hb1;have HB1:Hid (Below U.heap.size U w1):=hb1;have p0:=HCC.out w1 HA1.out ((HB1.out.block _ HYlt.out).trans HYg.out);go_wp2_with fail
        refine hK.out _ _ ⟨trivial,fun _=>p0⟩ ?_;have hHeld:=(⟨trivial,p0⟩:True/\_);clear hK K hb1;try simp only [Act.put,q1,q2,q3]
        refine wpAnyT_one (i:=7) (o:=⟨some 32,.buildSlice 66 1 #[(0,(.tmp 31))],_,_,_,_⟩) (by kernel_rfl) rfl (fun K hK=>?_);go_simp;obtain ⟨X,hX⟩:∃ X,w1.alloc (.cells #[.int .i64 v.lo,.int .u32 (wWd v.lo v.hi 0),.int .u32 (wWd v.lo v.hi 1)] 73)=X:=⟨_,rfl⟩;have hbX:Below w1.heap.size w1 X:=bAe hX;have HAX:Hid (StAt w.heap.size X (w.heap.size+1) (.slice na k nc) (.slice none 0 0) ⟨(m.vars.take k).map wholeD,[],0⟩):=HA1.out.below hbX;have HBX:Hid (Below U.heap.size U X):=bl_next HB1.out hbX;have HSX:Hid (SrcAt X (.slice (some ⟨w1.heap.size,0,none⟩) 1 1) 1 3 (dms [wholeD v])):=by
          have hg:X.heap[w1.heap.size]?=some (.cells #[.int .i64 v.lo,.int .u32 (wWd v.lo v.hi 0),.int .u32 (wWd v.lo v.hi 1)] 73 (0,0)):=hAe hX;exact row_src (B:=0) (e:=73) (L:=[wholeD v]) ⟨rfl,.inr ⟨w1.heap.size,1,_,rfl,Nat.zero_le _,hg,Nat.le_refl _,by unfold maxLen;decide,rfl,rfl⟩⟩
        have px:=HCC.out X HAX.out ((HBX.out.block _ HYlt.out).trans HYg.out);have HXg:Hid (X.heap[wr.heap.size]?=some (.cells #[.string v.name,.int .i64 v.lo,.int .i64 v.hi] 51 (0,0))/\wr.heap.size<X.heap.size):=⟨(HBX.out.block _ HYlt.out).trans HYg.out,Nat.lt_of_lt_of_le HYlt.out HBX.out.size⟩;rw [hX];refine hK.out _ _ ⟨trivial,fun _=>px⟩ ?_;have hHeld:=(⟨trivial,px⟩:True/\_);clear hK K hbX hX p0;try simp only [Act.put,q1,q2,q3]
        refine wpAnyT_one (i:=8) (o:=⟨some 33,.call { callee:=.builtin .append,args:=#[(.tmp 29),(.tmp 32)],argTypes:=#[66,66] },_,_,_,_⟩) (by kernel_rfl) rfl (fun K hK=>?_);refine op_append_src X (.tmp 29) (.tmp 32) 66 73 (.agg #[.int .i64 0,.int .u32 0,.int .u32 0]) 3 16 rfl und57 info67b rfl (by decide) w.heap.size _ _ k 1 (dms ((m.vars.take k).map wholeD)) (dms [wholeD v]) (by rfl) (by rfl) (by have hq:=HAX.out.n;rw [HKl.out] at hq;exact hq) HSX.out (by unfold maxLen;omega) (by omega) HAX.out.size (by rfl) ?_;intro nv2 w2 g1 g2 g3;obtain ⟨na2,nc2,rfl⟩:=own_slice g1
        have HF2:Hid (StAt w.heap.size (w2.setCell ⟨w.heap.size+1,0,none⟩ (.slice na2 (k+1) nc2)) (w.heap.size+1) (.slice na2 (k+1) nc2) (.slice none 0 0) ⟨(m.vars.take (k+1)).map wholeD,[],0⟩/\Below w.heap.size X (w2.setCell ⟨w.heap.size+1,0,none⟩ (.slice na2 (k+1) nc2))):=new_at HAX.out HKl.out HTk.out HOkv.out (by omega) g1 g2 g3;have HG2:Hid (w2.heap[w.heap.size+1]?=some (.cells #[.slice na k nc,.slice none 0 0,.int .i64 0] 68 (0,0))):=(g2.block _ HAX.out.lt (fun e=>HAX.out.ne1 e.symm)).trans HAX.out.o;have hwv:=(g2.block _ HXg.out.2 (fun e=>Nat.lt_irrefl _ (row_lt HAr.out.n e.symm).2)).trans HXg.out.1
        have pw:=(⟨cell_of HG2.out 0,cell_of hwv 0,cell_of hwv 1,cell_of hwv 2⟩:w2.cell? ⟨w.heap.size+1,0,none⟩=some (.slice na k nc)/\w2.cell? ⟨wr.heap.size,0,none⟩=some (.string v.name)/\w2.cell? ⟨wr.heap.size,1,none⟩=some (.int .i64 v.lo)/\w2.cell? ⟨wr.heap.size,2,none⟩=some (.int .i64 v.hi));clear hwv;have pz:∀ i,w2.frozen? ⟨w.heap.size+1,i,none⟩=false:=frozen_of HG2.out;clear g1 g2 g3 px hHeld;refine hK.out _ _ ⟨trivial,fun _=>pw⟩ ?_;have hHeld:=(⟨trivial,pw⟩:True/\_);clear hK K;try simp only [Act.put,q1,q2,q3]
        refine tB (i:=9) (oi:=⟨some 34,.nilCheck (.tmp 25),_,_,_,_⟩) (v:=?v_ab) ?hy_ab (by assumption) ?rest_ab
        case hy_ab=>(intro w hSw;(try dsimp only at hSw);go_simp;try (with_reducible rfl))
        try simp only [Act.put,q1,q2,q3]
        refine tB (i:=10) (oi:=⟨some 35,.fieldAddr 68 (.tmp 34) 0,_,_,_,_⟩) (v:=?v_ah) ?hy_ah (by assumption) ?rest_ah
        case hy_ah=>(intro w hSw;(try dsimp only at hSw);go_simp;try (with_reducible rfl))
        try simp only [Act.put,q1,q2,q3]
        refine wpAnyT_late (i:=11) (o:=⟨none,.store 66 (.tmp 35) (.tmp 33),_,_,_,_⟩) (by kernel_rfl) rfl (by kernel_rfl) (fun K hK=>?_);go_simp;refine hK.out _ _ ?sh_ai ?rest_ai
        case sh_ai=>trivial
        clear hK K;try simp only [Act.put,q1,q2,q3]
        refine wpAnyT_done (by kernel_rfl) ?_ _;clear hHeld pw pz;go_wp2_with fail
        go_roundw
        case rel=>exact ⟨k+1,na2,nc2,by go_num,hkn,HF2.out.1,HBU.out.trans ((HBX.out.mono (Nat.le_trans (Nat.le_refl _) HBU.out.size)).trans HF2.out.2)⟩
        case measure=>simp [intOf];omega
      · have hke:k=m.vars.length:=by omega
        subst hke;rw [List.take_length,<-HNs.out] at HAr;go_wp2_with fail
        go_ret;exact ⟨_,_,_,rfl,HAr.out,HBr.out⟩
  · have HNs:Hid (newS m=⟨[],[],0⟩):=by show _=_;unfold newS;rw [if_neg hok]
    have hne:((Md.check m).2==0)=false:=by simp [hok]
    go_wp2_with fail
    go_ret;exact ⟨_,_,_,rfl,by rw [HNs.out];exact HE0.out w1 HB1.out,HB.out.trans (HB1.out.mono HB.out.size)⟩
end Go.Proofs.YtjnckfchgcmmpaaGreatDoor
namespace Go.Proofs.YtjnckfchgcmmpaaGreatDoor
open Go.RowKit
theorem cut_len (s:St) (k x v:Int):(s.cut k x v).now.length=s.now.length/\(s.cut k x v).noted=s.noted/\(s.cut k x v).marks=s.marks:=by
  unfold St.cut
  split
  · exact ⟨rfl,rfl,rfl⟩
  · split
    · exact ⟨List.length_set,rfl,rfl⟩
    · exact ⟨rfl,rfl,rfl⟩
def Soft (o:Obj):Prop:=∃ cs f,o=.cells cs 190 f∨o=.cells cs 93 f
structure Kq (B:Nat) (w w':World):Prop where
  below:Below B w w'
  keep:∀ (k:Nat) (o:Obj),w.heap[k]?=some o->¬ Soft o->w'.heap[k]?=some o
theorem Kq.refl (B:Nat) (w:World):Kq B w w:=⟨Below.refl _ _,fun _ _ h _=>h⟩
theorem Kq.trans {B:Nat} {a b c:World} (h:Kq B a b) (k:Kq B b c):Kq B a c:=⟨h.below.trans k.below,fun i o hi hs=>k.keep i o (h.keep i o hi hs) hs⟩
theorem Kq.of_below {B:Nat} {w w':World} (h:Below w.heap.size w w') (hB:B<=w.heap.size):Kq B w w':=
  ⟨h.mono hB,fun k _ hk _=>(h.block k (hLt hk)).trans hk⟩
theorem Kq.next {B:Nat} {a b c:World} (h:Kq B a b) (k:Below b.heap.size b c) (hB:B<=b.heap.size):Kq B a c:=h.trans (Kq.of_below k hB)
theorem soft105 (cs:Array Value) (f:Nat × Nat):Soft (.cells cs 190 f):=⟨cs,f,.inl rfl⟩
theorem soft58 (cs:Array Value) (f:Nat × Nat):Soft (.cells cs 93 f):=⟨cs,f,.inr rfl⟩
theorem not_soft {cs:Array Value} {t:TypeId} {f:Nat × Nat} (h1:t≠190) (h2:t≠93):¬ Soft (.cells cs t f):=by
  rintro ⟨c,g,h | h⟩
  · injection h with _ e _
    exact h1 e
  · injection h with _ e _
    exact h2 e
theorem Kq.set {B:Nat} {w:World} {g i:Nat} {cs:Array Value} {f:Nat × Nat} (v:Value) (hB:B<=g) (h:w.heap[g]?=some (.cells cs 190 f)):Kq B w (w.setCell ⟨g,i,none⟩ v):=
  ⟨(Below.refl _ _).setCell hB v,fun k o hk hs=>by
    by_cases e:k=g
    · subst e
      rw [h] at hk;exact absurd (by rw [<-Option.some.inj hk];exact soft105 _ _) hs
    · rw [heap_setCell_other _ _ _ _ e];exact hk⟩
theorem Kq.grown {B:Nat} {w w':World} {v:Value} {n:Nat} {xs:List Value} (ho:w.ownsRow B 93 1 v n xs) (hg:w.grownBy w' v.ownBlock) (hB:B<=w.heap.size):Kq B w w':=by
  refine ⟨(Below.refl _ _).grown hg hB (fun k hk=>(ho.lt k hk).1),fun k o hk hs=>?_⟩;rw [hg.block k (hLt hk) (fun e=>?_)]
  · exact hk
  · rcases ho.2 with ⟨rfl,_⟩ | ⟨g,cap,cur,rfl,_,hc,_⟩
    · cases e
    · injection e with e
      subst e;rw [hc] at hk;exact hs (by rw [<-Option.some.inj hk];exact soft58 _ _)
theorem Kq.block {B:Nat} {w w':World} (h:Kq B w w') {k:Nat} {cs:Array Value} {t:TypeId} {f:Nat × Nat} (hk:w.heap[k]?=some (.cells cs t f)) (h1:t≠190) (h2:t≠93):w'.heap[k]?=some (.cells cs t f):=h.keep k _ hk (not_soft h1 h2)
def TestIs (B:Nat) (w:World) (f:Value) (t:Int->Bool):Prop:=
  ∃ (fn:Nat) (caps:Array Value),f=.func (.func fn) #[] caps/\Enters Tryz.prog fn/\∀ w',Kq B w w'->∀ v:Int,-2000000000<=v->v<=2000000000->Calls Tryz.prog fn (#[.int .i64 v]++caps) w' fun e w2=>e=.returned (.bool (t v))/\Below w'.heap.size w' w2
theorem TestIs.kq {B:Nat} {w w':World} {f:Value} {t:Int->Bool} (h:TestIs B w f t) (hk:Kq B w w'):TestIs B w' f t:=by
  obtain ⟨fn,caps,h1,h2,h3⟩:=h;exact ⟨fn,caps,h1,h2,fun w2 h4=>h3 w2 (hk.trans h4)⟩
def TestsAt (B:Nat) (w:World) (fs:List Value) (ts:List (Int->Bool)):Prop:=fs.length=ts.length/\∀ i (h:i<fs.length) (h2:i<ts.length),TestIs B w fs[i] ts[i]
theorem TestsAt.kq {B:Nat} {w w':World} {fs:List Value} {ts:List (Int->Bool)} (h:TestsAt B w fs ts) (hk:Kq B w w'):TestsAt B w' fs ts:=⟨h.1,fun i h1 h2=>(h.2 i h1 h2).kq hk⟩
theorem TestsAt.snoc {B:Nat} {w:World} {fs:List Value} {ts:List (Int->Bool)} {f:Value} {t:Int->Bool} (h:TestsAt B w fs ts) (hf:TestIs B w f t):TestsAt B w (fs++[f]) (ts++[t]):=by
  refine ⟨by simp [h.1],fun i h1 h2=>?_⟩
  by_cases hi:i<fs.length
  · have hi2:i<ts.length:=by rw [<-h.1];exact hi
    rw [List.getElem_append_left hi,List.getElem_append_left hi2];exact h.2 i hi hi2
  · have e:i=fs.length:=by simp at h1;omega
    subst e;have e2:fs.length=ts.length:=h.1;simp [e2];exact hf
structure Sv where
  lo:Int
  hi:Int
  tv:Value
  ts:List (Int->Bool)
def Sv.cells (s:Sv):List Value:=[.int .i64 s.lo,.int .i64 s.hi,s.tv]
def svs (S:List Sv):List Value:=S.flatMap Sv.cells
theorem svs_cons (s:Sv) (S:List Sv):svs (s :: S)=.int .i64 s.lo :: .int .i64 s.hi :: s.tv :: svs S:=by simp [svs,Sv.cells]
theorem svs_len (S:List Sv):(svs S).length=S.length*3:=by
  induction S with
  | nil=>rfl
  | cons d L ih=>rw [svs_cons];simp [ih];omega
theorem svs_get (S:List Sv) (j:Nat) (hj:j<S.length):(svs S)[j*3]?=some (.int .i64 S[j].lo)/\(svs S)[j*3+1]?=some (.int .i64 S[j].hi)/\(svs S)[j*3+2]?=some S[j].tv:=by
  induction S generalizing j with
  | nil=>exact absurd hj (by simp)
  | cons d L ih =>
    rw [svs_cons]
    cases j with
    | zero=>exact ⟨rfl,rfl,rfl⟩
    | succ j =>
      have h:=ih j (by simpa using hj);have e0:(j+1)*3=j*3+1+1+1:=by omega
      have e1:(j+1)*3+1=(j*3+1)+1+1+1:=by omega
      have e2:(j+1)*3+2=(j*3+2)+1+1+1:=by omega
      rw [e1,e2,e0];simp only [List.getElem?_cons_succ,List.getElem_cons_succ];exact h
theorem svs_set (S:List Sv) (q:Nat) (a b:Int) (hq:q<S.length):((svs S).set (q*3) (.int .i64 a)).set (q*3+1) (.int .i64 b)=svs (S.set q ⟨a,b,S[q].tv,S[q].ts⟩):=by
  induction S generalizing q with
  | nil=>exact absurd hq (by simp)
  | cons d L ih =>
    cases q with
    | zero=>rw [svs_cons];simp [svs_cons]
    | succ q =>
      have h:=ih q (by simpa using hq);rw [List.set_cons_succ,svs_cons,svs_cons];have e1:(q+1)*3=(q*3)+1+1+1:=by omega
      have e2:(q+1)*3+1=(q*3+1)+1+1+1:=by omega
      rw [e2,e1];simp only [List.set_cons_succ,List.getElem_cons_succ];rw [h]
theorem svs_setT (S:List Sv) (q:Nat) (v:Value) (ts:List (Int->Bool)) (hq:q<S.length):(svs S).set (q*3+2) v=svs (S.set q ⟨S[q].lo,S[q].hi,v,ts⟩):=by
  induction S generalizing q with
  | nil=>exact absurd hq (by simp)
  | cons d L ih =>
    cases q with
    | zero=>rw [svs_cons];simp [svs_cons]
    | succ q =>
      have h:=ih q (by simpa using hq);rw [List.set_cons_succ,svs_cons,svs_cons];have e2:(q+1)*3+2=(q*3+2)+1+1+1:=by omega
      rw [e2];simp only [List.set_cons_succ,List.getElem_cons_succ];rw [h]
structure LfAt (B lp g p:Nat) (nv mv:Value) (s:St) (S:List Sv) (w:World):Prop where
  box:w.heap[lp]?=some (.cells #[.pointer (some ⟨p,0,none⟩),.slice (some ⟨g,0,none⟩) S.length S.length] 184 (0,0))
  row:w.heap[g]?=some (.cells (svs S).toArray 190 (0,0))
  tests:∀ x (h:x<S.length),∃ fs,w.ownsRow B 93 1 S[x].tv S[x].ts.length fs/\TestsAt B w fs S[x].ts
  apart:∀ x y (h:x<S.length) (h2:y<S.length),x≠y->∀ k,S[x].tv.ownBlock=some k->S[y].tv.ownBlock≠some k
  b0:0<B
  lp1:B<=lp
  g1:B<=g
  st:∃ Bs,StAt Bs w p nv mv s
  own:∀ k,Own p nv mv k->k<B
  len:S.length=s.now.length
  tz:Tz w
section
variable {B lp g p : Nat} {nv mv : Value} {s : St} {S : List Sv} {w w' : World}
theorem LfAt.size (h:LfAt B lp g p nv mv s S w):B<=w.heap.size:=Nat.le_of_lt (Nat.lt_of_le_of_lt h.lp1 (hLt h.box))
theorem LfAt.store (h:LfAt B lp g p nv mv s S w) (hb:Below B w w'):∃ Bs,StAt Bs w' p nv mv s:=by
  obtain ⟨Bs,h1⟩:=h.st;exact ⟨Bs,h1.keep fun k _ ho=>hb.block k (h.own k ho)⟩
theorem LfAt.below (h:LfAt B lp g p nv mv s S w) (hb:Below w.heap.size w w'):LfAt B lp g p nv mv s S w':=
  { box:=(hb.block lp (hLt h.box)).trans h.box
    row:=(hb.block g (hLt h.row)).trans h.row
    tests:=fun x hx=>by
      obtain ⟨fs,h1,h2⟩:=h.tests x hx;exact ⟨fs,own_below h1 hb,h2.kq (Kq.of_below hb h.size)⟩
    apart:=h.apart
    b0:=h.b0
    lp1:=h.lp1
    g1:=h.g1
    st:=h.store (hb.mono h.size)
    own:=h.own
    len:=h.len
    tz:=h.tz.below (hb.mono h.size) h.b0 }
theorem LfAt.cell (h:LfAt B lp g p nv mv s S w) (x:Nat) (hx:x<S.length):w.cell? ⟨g,x*3,none⟩=some (.int .i64 S[x].lo)/\w.cell? ⟨g,x*3+1,none⟩=some (.int .i64 S[x].hi)/\w.cell? ⟨g,x*3+2,none⟩=some S[x].tv:=by
  obtain ⟨h0,h1,h2⟩:=svs_get S x hx;refine ⟨?_,?_,?_⟩
  · rw [cell_of h.row];simpa using h0
  · rw [cell_of h.row];simpa using h1
  · rw [cell_of h.row];simpa using h2
theorem LfAt.lr (h:LfAt B lp g p nv mv s S w):lp≠g:=fun e=>by
  have h1:=h.box;rw [e,h.row] at h1;injection h1 with h1;injection h1 with _ h2 _;exact absurd h2 (by decide)
theorem own_type {w:World} {B:Nat} {e t:TypeId} {v:Value} {n:Nat} {xs:List Value} {k:Nat} {cs:Array Value} {f:Nat × Nat} (h:w.ownsRow B e 1 v n xs) (hk:w.heap[k]?=some (.cells cs t f)) (hne:t≠e):v.ownBlock≠some k:=fun ho=>by
  rcases h.2 with ⟨rfl,_⟩ | ⟨q,cap,cur,rfl,_,hc,_⟩
  · cases ho
  · injection ho with ho
    subst ho;rw [hk] at hc;injection hc with hc;injection hc with _ e2 _;exact hne e2
theorem LfAt.put (h:LfAt B lp g p nv mv s S w) (x:Nat) (hx:x<S.length) (a b:Int) :
    LfAt B lp g p nv mv s (S.set x ⟨a,b,S[x].tv,S[x].ts⟩) ((w.setCell ⟨g,x*3,none⟩ (.int .i64 a)).setCell ⟨g,x*3+1,none⟩ (.int .i64 b))/\Kq B w ((w.setCell ⟨g,x*3,none⟩ (.int .i64 a)).setCell ⟨g,x*3+1,none⟩ (.int .i64 b)):=by
  have r1:=heap_setCell_same w g (x*3) _ 190 (.int .i64 a) h.row;have r2:=heap_setCell_same _ g (x*3+1) _ 190 (.int .i64 b) r1;have k1:Kq B w ((w.setCell ⟨g,x*3,none⟩ (.int .i64 a)).setCell ⟨g,x*3+1,none⟩ (.int .i64 b)):=(Kq.set _ h.g1 h.row).trans (Kq.set _ h.g1 r1);have hne:∀ k,k≠g->((w.setCell ⟨g,x*3,none⟩ (.int .i64 a)).setCell ⟨g,x*3+1,none⟩ (.int .i64 b)).heap[k]?=w.heap[k]?:=fun k hk=>by
    rw [heap_setCell_other _ _ _ _ hk,heap_setCell_other _ _ _ _ hk]
  have hget:∀ y (hy:y<(S.set x ⟨a,b,S[x].tv,S[x].ts⟩).length),∃ hy2:y<S.length,(S.set x ⟨a,b,S[x].tv,S[x].ts⟩)[y].tv=S[y].tv/\(S.set x ⟨a,b,S[x].tv,S[x].ts⟩)[y].ts=S[y].ts:=fun y hy=>by
    have hy2:y<S.length:=by rw [List.length_set] at hy;exact hy
    refine ⟨hy2,?_⟩;rw [List.getElem_set]
    split
    · rename_i e;subst e;exact ⟨rfl,rfl⟩
    · exact ⟨rfl,rfl⟩
  refine ⟨{
    box:=by rw [List.length_set,hne _ h.lr];exact h.box
    row:=by
      rw [r2]
      congr 2
      have:=svs_set S x a b hx;rw [<-this];simp
    tests:=fun y hy=>by
      obtain ⟨hy2,e1,e2⟩:=hget y hy;obtain ⟨fs,h1,h2⟩:=h.tests y hy2;rw [e1,e2];refine ⟨fs,?_,h2.kq k1⟩;exact own_off (S:=fun k=>k=g) h1 (fun k hk e=>own_type h1 h.row (by decide) (by rw [hk,e])) ⟨k1.below.size,fun k _ hk=>hne k hk⟩
    apart:=fun y z hy hz hyz k hk=>by
      obtain ⟨hy2,e1,_⟩:=hget y hy;obtain ⟨hz2,e2,_⟩:=hget z hz;rw [e1] at hk;rw [e2];exact h.apart y z hy2 hz2 hyz k hk
    b0:=h.b0
    lp1:=h.lp1
    g1:=h.g1
    st:=h.store k1.below
    own:=h.own
    len:=by rw [List.length_set];exact h.len
    tz:=h.tz.below k1.below h.b0 },k1⟩
end
end Go.Proofs.YtjnckfchgcmmpaaGreatDoor
namespace Go.Proofs.YtjnckfchgcmmpaaGreatDoor
open Go.RowKit
set_option maxRecDepth 10000
set_option maxHeartbeats 8000000
theorem lt_alloc {V:World} {o:Obj} {n:Nat} (h:(V.alloc o).heap.size<=n):V.heap.size<n:=by simp at h;omega
theorem info101:(Tryz.prog.info? 186).map (·.size)=some 2:=by kernel_rfl
def sdVal (lp:Nat) (t:Bool):Value:=.agg #[.pointer (some ⟨lp,0,none⟩),.bool t]
theorem upright_any (lp:Nat) (w:World):Calls Tryz.prog 150 #[.pointer (some ⟨lp,0,none⟩)] w fun e w'=>e=.returned (sdVal lp false)/\Below w.heap.size w w':=by
  go_enter Tryz.func150,Tryz.ntmps150;go_wp2;exact bodyPost_ret (v:=sdVal lp false) (by simp [results,Tryz.results150,go_sem];try rfl) rfl ⟨rfl,(Below.refl _ _).alloc (Nat.le_refl _) _⟩
theorem turnedL_any (lp:Nat) (w:World):Calls Tryz.prog 152 #[.pointer (some ⟨lp,0,none⟩)] w fun e w'=>e=.returned (sdVal lp true)/\Below w.heap.size w w':=by
  go_enter Tryz.func152,Tryz.ntmps152;go_wp2;exact bodyPost_ret (v:=sdVal lp true) (by simp [results,Tryz.results152,go_sem];try rfl) rfl ⟨rfl,(Below.refl _ _).alloc (Nat.le_refl _) _⟩
def Dm.lo (d:Dm):Int:=d.f+bLow d.a d.b
def Dm.hi (d:Dm):Int:=d.f+bHigh d.a d.b
def Dm.size (d:Dm):Int:=bSize d.a d.b
def Dm.has (d:Dm) (v:Int):Bool:=dHas d.f d.a d.b v
def Dm.all (d:Dm):List Int:=dAll d.f d.a d.b
theorem Dm.lo_in {d:Dm} (h:d.Ok):-1000000000<=d.lo/\d.lo<=1000000100:=by
  have:=bLow_lo d.a d.b;have:=h.f1;have:=h.f2;unfold Dm.lo;omega
theorem Dm.hi_in {d:Dm} (h:d.Ok):-1000000001<=d.hi/\d.hi<=1000000100:=by
  have:=bHigh_lo d.a d.b;have:=h.f1;have:=h.f2;unfold Dm.hi;omega
section
variable {B lp g p : Nat} {nv mv : Value} {s : St} {S : List Sv} {w w' : World}
theorem LfAt.los (h:LfAt B lp g p nv mv s S w) (x:Nat) (hx:x<s.now.length) (hb:Below B w w'):Calls Tryz.prog 119 #[.pointer (some ⟨p,0,none⟩),.int .i64 (x:Int)] w' fun e w2=>e=.returned (.int .i64 s.now[x].lo)/\Below w'.heap.size w' w2:=by
  obtain ⟨Bs,h1⟩:=h.store hb;exact lo_in Bs p nv mv s x hx w' h1 (h.tz.below hb h.b0)
theorem LfAt.his (h:LfAt B lp g p nv mv s S w) (x:Nat) (hx:x<s.now.length) (hb:Below B w w'):Calls Tryz.prog 120 #[.pointer (some ⟨p,0,none⟩),.int .i64 (x:Int)] w' fun e w2=>e=.returned (.int .i64 s.now[x].hi)/\Below w'.heap.size w' w2:=by
  obtain ⟨Bs,h1⟩:=h.store hb;exact hi_in Bs p nv mv s x hx w' h1
theorem LfAt.sizes (h:LfAt B lp g p nv mv s S w) (x:Nat) (hx:x<s.now.length) (hb:Below B w w'):Calls Tryz.prog 166 #[.pointer (some ⟨p,0,none⟩),.int .i64 (x:Int)] w' fun e w2=>e=.returned (.int .i64 s.now[x].size)/\Below w'.heap.size w' w2:=by
  obtain ⟨Bs,h1⟩:=h.store hb;exact size_in Bs p nv mv s x hx w' h1
theorem LfAt.hass (h:LfAt B lp g p nv mv s S w) (x:Nat) (hx:x<s.now.length) (v:Int) (hb:Below B w w'):Calls Tryz.prog 29 #[.pointer (some ⟨p,0,none⟩),.int .i64 (x:Int),.int .i64 v] w' fun e w2=>e=.returned (.bool (s.now[x].has v))/\Below w'.heap.size w' w2:=by
  obtain ⟨Bs,h1⟩:=h.store hb;exact has_in Bs p nv mv s x hx v w' h1
theorem LfAt.vals (h:LfAt B lp g p nv mv s S w) (x:Nat) (hx:x<s.now.length) (hb:Below B w w'):Calls Tryz.prog 17 #[.pointer (some ⟨p,0,none⟩),.int .i64 (x:Int)] w' (VsOut s.now[x].all w'):=by
  obtain ⟨Bs,h1⟩:=h.store hb;exact values_in Bs p nv mv s x hx w' h1 (h.tz.below hb h.b0)
theorem LfAt.good (h:LfAt B lp g p nv mv s S w):∀ d∈s.now,d.Ok:=by
  obtain ⟨Bs,h1⟩:=h.st;exact h1.good
end
def Dm.one (d:Dm):Bool:=decide (d.size<=1)
def oneV (d:Dm):Int:=if d.one then d.lo else 0
theorem one_any (B lp g p:Nat) (nv mv:Value) (s:St) (S:List Sv) (w:World) (h:LfAt B lp g p nv mv s S w) (x:Nat) (hx:x<s.now.length):Calls Tryz.prog 153 #[.pointer (some ⟨lp,0,none⟩),.int .i64 (x:Int)] w fun e w'=>e=.returned (.tuple #[.int .i64 (oneV s.now[x]),.bool s.now[x].one])/\Below w.heap.size w w':=by
  have c0:w.cell? ⟨lp,0,none⟩=some (.pointer (some ⟨p,0,none⟩)):=cell_of h.box 0;have H1:Hid (Calls Tryz.prog 166 #[.pointer (some ⟨p,0,none⟩),.int .i64 (x:Int)] w fun e w2=>e=.returned (.int .i64 s.now[x].size)/\Below w.heap.size w w2):=h.sizes x hx (Below.refl _ _);have H2:Hid (∀ w',Below w.heap.size w w'->Calls Tryz.prog 119 #[.pointer (some ⟨p,0,none⟩),.int .i64 (x:Int)] w' fun e w2=>e=.returned (.int .i64 s.now[x].lo)/\Below w'.heap.size w' w2):=fun w' hb=>h.los x hx (hb.mono h.size)
  have HC:Hid (∀ w',Below w.heap.size w w'->w'.cell? ⟨lp,0,none⟩=some (.pointer (some ⟨p,0,none⟩))):=fun w' hb=>cell_of ((h.below hb).box) 0
  obtain ⟨d,hd⟩:∃ d,s.now[x]=d:=⟨_,rfl⟩;rw [hd] at H1 H2 ⊢;clear h hd;unfold oneV Dm.one;obtain ⟨n,hn⟩:∃ n,d.size=n:=⟨_,rfl⟩;rw [hn] at H1 ⊢;clear hn
  by_cases h1:1<n
  · have e:decide (n<=1)=false:=by simp;omega
    rw [e];clear e;go_enter Tryz.func153,Tryz.ntmps153;go_wp2_with fail
    refine cA H1.out ?_;rintro e w1 ⟨rfl,hb1⟩;go_wp2_with fail
    go_ret2;exact ⟨rfl,hb1⟩
  · have e:decide (n<=1)=true:=by simp;omega
    rw [e];clear e;go_enter Tryz.func153,Tryz.ntmps153;go_wp2_with fail
    refine cA H1.out ?_;rintro e w1 ⟨rfl,hb1⟩;have c1:=HC.out w1 hb1;have HB1:Hid (Below w.heap.size w w1):=hb1;clear hb1;go_wp2_with fail
    refine cA (H2.out w1 HB1.out) ?_;rintro e w2 ⟨rfl,hb2⟩;have HB2:Hid (Below w1.heap.size w1 w2):=hb2;clear hb2;go_wp2_with fail
    go_ret2;exact ⟨rfl,HB1.out.trans (HB2.out.mono HB1.out.size)⟩
def spLo (t:Bool) (d:Dm):Int:=if t then -d.hi else d.lo
def spHi (t:Bool) (d:Dm):Int:=if t then -d.lo else d.hi
theorem sp_in (t:Bool) {d:Dm} (h:d.Ok):-2000000000<=spLo t d/\spLo t d<=2000000000/\-2000000000<=spHi t d/\spHi t d<=2000000000:=by
  have:=Dm.lo_in h;have:=Dm.hi_in h;unfold spLo spHi
  cases t <;> simp <;> omega
theorem span_any (B lp g p:Nat) (nv mv:Value) (s:St) (S:List Sv) (t:Bool) (w:World) (h:LfAt B lp g p nv mv s S w) (x:Nat) (hx:x<s.now.length):Calls Tryz.prog 181 #[sdVal lp t,.int .i64 (x:Int)] w fun e w'=>e=.returned (bnVal (spLo t s.now[x]) (spHi t s.now[x]))/\Below w.heap.size w w':=by
  have hok:=h.good s.now[x] (List.getElem_mem hx);obtain ⟨W,hW⟩:∃ W,(w.alloc (.cells #[.pointer (some ⟨lp,0,none⟩),.bool t] 198)).alloc (.cells #[.int .i64 0,.int .i64 0] 186)=W:=⟨_,rfl⟩;have hb0:Below w.heap.size w W:=by rw [<-hW];exact ((Below.refl _ _).alloc (Nat.le_refl _) _).alloc (by simp) _
  have g0:W.heap[w.heap.size]?=some (.cells #[.pointer (some ⟨lp,0,none⟩),.bool t] 198 (0,0)):=by rw [<-hW,heap_alloc_old (w.alloc _) _ (by simp)];exact heap_alloc_new w _
  have g1:W.heap[w.heap.size+1]?=some (.cells #[.int .i64 0,.int .i64 0] 186 (0,0)):=by rw [<-hW];exact heap_alloc2_new w _ _
  have hlt0:=(hLt g0);have hlt1:=(hLt g1);have HL:Hid (∀ w',Below W.heap.size W w'->LfAt B lp g p nv mv s S w'):=fun w' hb=>(h.below hb0).below hb
  have HC:Hid (∀ w',Below W.heap.size W w'->w'.cell? ⟨w.heap.size,0,none⟩=some (.pointer (some ⟨lp,0,none⟩))/\w'.cell? ⟨w.heap.size,1,none⟩=some (.bool t)/\w'.cell? ⟨lp,0,none⟩=some (.pointer (some ⟨p,0,none⟩))/\Below W.heap.size W w'):=fun w' hb=>⟨cell_of ((hb.block _ hlt0).trans g0) 0,cell_of ((hb.block _ hlt0).trans g0) 1,cell_of (HL.out w' hb).box 0,hb⟩
  have HR:Hid (∀ w',Below W.heap.size W w'->w'.heap[w.heap.size+1]?=some (.cells #[.int .i64 0,.int .i64 0] 186 (0,0))):=fun w' hb=>(hb.block _ hlt1).trans g1
  have HB:Hid (Below w.heap.size w W):=hb0;have H1:Hid (∀ w',Below W.heap.size W w'->Calls Tryz.prog 119 #[.pointer (some ⟨p,0,none⟩),.int .i64 (x:Int)] w' fun e w2=>e=.returned (.int .i64 s.now[x].lo)/\Below w'.heap.size w' w2):=fun w' hb=>(HL.out w' hb).los x hx (Below.refl _ _)
  have H2:Hid (∀ w',Below W.heap.size W w'->Calls Tryz.prog 120 #[.pointer (some ⟨p,0,none⟩),.int .i64 (x:Int)] w' fun e w2=>e=.returned (.int .i64 s.now[x].hi)/\Below w'.heap.size w' w2):=fun w' hb=>(HL.out w' hb).his x hx (Below.refl _ _)
  have b1:=Dm.lo_in hok;have b2:=Dm.hi_in hok;obtain ⟨d,hd⟩:∃ d,s.now[x]=d:=⟨_,rfl⟩;rw [hd] at H1 H2 b1 b2 ⊢;clear h hd hok hb0 g0 g1 hlt0 hlt1;unfold spLo spHi;obtain ⟨lo,hlo⟩:∃ n,d.lo=n:=⟨_,rfl⟩;obtain ⟨hi,hhi⟩:∃ n,d.hi=n:=⟨_,rfl⟩;rw [hlo] at H1 b1 ⊢;rw [hhi] at H2 b2 ⊢;clear hlo hhi;obtain ⟨b1,b1'⟩:=b1;obtain ⟨b2,b2'⟩:=b2;unfold sdVal;go_enter Tryz.func181,Tryz.ntmps181;go_wp2_with fail
  go_cut [5] from 6 to 25 (fun s5 wx=>∃ k,s5=.pointer (some ⟨k,0,none⟩)/\Hid (wx.heap[k]?=some (.cells #[.int .i64 lo,.int .i64 hi] 186 (0,0)))/\Hid (W.heap.size<=k)/\Hid (Below W.heap.size W wx))
  case first=>
    go_region_held3 (fun w'=>w'.cell? ⟨w.heap.size,0,none⟩=some (.pointer (some ⟨lp,0,none⟩))/\w'.cell? ⟨w.heap.size,1,none⟩=some (.bool t)/\w'.cell? ⟨lp,0,none⟩=some (.pointer (some ⟨p,0,none⟩))/\Below W.heap.size W w')
      (first | exact HC.out _ (Below.refl _ _).drew | exact HC.out _ (bl_alloc HB5.out _) | exact HC.out _ ((HB5.out.setCell (by first | exact HB4.out.size | exact Nat.le_refl _) _).setCell (by first | exact HB4.out.size | exact Nat.le_refl _) _) | exact HC.out _ HB5.out | exact HC.out _ HB4.out | exact HC.out _ (bl_alloc (And.right (And.right (And.right (by assumption)))) _) | assumption)
      (first | (go_at_call 119;refine cA (H1.out _ (And.right (And.right (And.right (by assumption))))) ?_;rintro e w4 ⟨rfl,hb4⟩;(have HB4:Hid (Below W.heap.size W w4):=bl_next (And.right (And.right (And.right (by assumption)))) hb4);obtain ⟨hc4,hf4⟩:=bcell hb4;(first | (have hz4:W.heap.size<w4.heap.size:=lt_alloc (V:=W.drew) hb4.size) | skip)) | (go_at_call 120;refine cA (H2.out _ (And.right (And.right (And.right (by assumption))))) ?_;rintro e w5 ⟨rfl,hb5⟩;(have HB5:Hid (Below W.heap.size W w5):=bl_next (And.right (And.right (And.right (by assumption)))) hb5);obtain ⟨hc5,hf5⟩:=bcell hb5;(first | (have hz5:w4.heap.size<w5.heap.size:=lt_alloc (V:=w4) hb5.size) | skip)))
    all_goals (go_wp2_with fail)
    all_goals go_meet
    all_goals first | exact ⟨_,rfl,heap_alloc_new w5 _,HB5.out.size,bl_alloc HB5.out _⟩ | exact ⟨_,rfl,set2 ((hb5.block _ (by simp)).trans (heap_alloc_new w4 _)) _ _,HB4.out.size,((HB5.out.setCell HB4.out.size _).setCell HB4.out.size _)⟩ | exact ⟨_,rfl,set2 ((hb5.block _ hz4).trans ((hb4.block _ (by simp)).trans (heap_alloc_new W.drew _))) _ _,Nat.le_refl _,((HB5.out.setCell (Nat.le_refl _) _).setCell (Nat.le_refl _) _)⟩
  case rest=>
    obtain ⟨k,rfl,HK,HKl,HBx⟩:=hcut;rename World=>wx;obtain ⟨x0,x1,_,_⟩:=HC.out wx HBx.out;have k0:wx.cell? ⟨k,0,none⟩=some (.int .i64 lo):=cell_of HK.out 0;have k1:wx.cell? ⟨k,1,none⟩=some (.int .i64 hi):=cell_of HK.out 1;have gR:=HR.out wx HBx.out;have HBf:Hid (Below w.heap.size w wx):=HB.out.trans (HBx.out.mono HB.out.size)
    cases t with
    | false =>
      have r0:wx.cell? ⟨w.heap.size+1,0,none⟩=some (.int .i64 0):=cell_of gR 0;have r1:wx.cell? ⟨w.heap.size+1,1,none⟩=some (.int .i64 0):=cell_of gR 1;have rz:∀ i,wx.frozen? ⟨w.heap.size+1,i,none⟩=false:=frozen_of gR;have HG:Hid (wx.heap[w.heap.size+1]?=some (.cells #[.int .i64 0,.int .i64 0] 186 (0,0))):=gR;clear gR;go_wp2_with fail
      exact bodyPost_ret (v:=bnVal lo hi) (results_cell_row Tryz.results181 _ _ (w.heap.size+1) 186 #[.int .i64 lo,.int .i64 hi] (0,0) _ rfl (set2 HG.out _ _) und101 rfl info101) rfl ⟨rfl,(HBf.out.setCell (by simp) _).setCell (by simp) _⟩
    | true =>
      have HT:Hid (Calls Tryz.prog 202 #[.agg #[.int .i64 lo,.int .i64 hi]] wx fun e w'=>e=.returned (bnVal (-hi) (-lo))/\Below wx.heap.size wx w'):=turnedB_any lo hi wx (by omega) (by omega) (by omega) (by omega);go_wp2_with fail
      refine cA HT.out ?_;rintro e w6 ⟨rfl,hb6⟩;have gR6:=HR.out w6 (bl_next HBx.out hb6);have r0:w6.cell? ⟨w.heap.size+1,0,none⟩=some (.int .i64 0):=cell_of gR6 0;have r1:w6.cell? ⟨w.heap.size+1,1,none⟩=some (.int .i64 0):=cell_of gR6 1;have rz:∀ i,w6.frozen? ⟨w.heap.size+1,i,none⟩=false:=frozen_of gR6;have HG:Hid (w6.heap[w.heap.size+1]?=some (.cells #[.int .i64 0,.int .i64 0] 186 (0,0))):=gR6;have HB6:Hid (Below w.heap.size w w6):=HBf.out.trans (hb6.mono HBf.out.size);clear gR6 gR hb6 k0 k1 x0 x1;unfold bnVal;go_wp2_with fail
      exact bodyPost_ret (v:=bnVal (-hi) (-lo)) (results_cell_row Tryz.results181 _ _ (w.heap.size+1) 186 #[.int .i64 (-hi),.int .i64 (-lo)] (0,0) _ rfl (set2 HG.out _ _) und101 rfl info101) rfl ⟨rfl,(HB6.out.setCell (by simp) _).setCell (by simp) _⟩
end Go.Proofs.YtjnckfchgcmmpaaGreatDoor
namespace Go.Proofs.YtjnckfchgcmmpaaGreatDoor
structure Dm.Fine (d:Dm):Prop where
  loIn:d.has d.lo=true
  hiIn:d.has d.hi=true
  least:∀ v,d.has v=true->d.lo<=v
  most:∀ v,d.has v=true->v<=d.hi
  one:d.one=true↔d.lo=d.hi
  sz:1<=d.size
  all:∀ v,v∈d.all↔d.has v=true
  up:d.all.Pairwise (·<·)
  b1:-1000000000<=d.lo
  b2:d.hi<=2000000000
end Go.Proofs.YtjnckfchgcmmpaaGreatDoor
namespace Go.Proofs.YtjnckfchgcmmpaaGreatDoor
open Go.RowKit
set_option maxRecDepth 10000
set_option maxHeartbeats 8000000
def Sv.keep (s:Sv) (a b:Int):Sv:=⟨max s.lo a,min s.hi b,s.tv,s.ts⟩
def keepL (S:List Sv) (x:Nat) (a b:Int):List Sv:=match S[x]? with
  | some s=>S.set x (s.keep a b)
  | none=>S
theorem keepL_eq {S:List Sv} {x:Nat} (hx:x<S.length) (a b:Int):keepL S x a b=S.set x ⟨max S[x].lo a,min S[x].hi b,S[x].tv,S[x].ts⟩:=by
  unfold keepL;rw [List.getElem?_eq_getElem hx];rfl
def KpOut (B lp g p:Nat) (nv mv:Value) (s:St) (S':List Sv) (w:World) (e:Ending) (w':World):Prop:=e=.returned (.tuple #[])/\LfAt B lp g p nv mv s S' w'/\Kq B w w'
def Kx (N g x:Nat) (a b lo hi:Int) (X w':World):Prop:=w'.cell? ⟨N,0,none⟩=some (.int .i64 a)/\w'.cell? ⟨N,1,none⟩=some (.int .i64 b)/\w'.cell? ⟨g,x*3,none⟩=some (.int .i64 lo)/\w'.cell? ⟨g,x*3+1,none⟩=some (.int .i64 hi)/\Below X.heap.size X w'
theorem keep_any (B lp g p:Nat) (nv mv:Value) (s:St) (S:List Sv) (w:World) (h:LfAt B lp g p nv mv s S w) (x:Nat) (hx:x<S.length) (a b:Int):Calls Tryz.prog 160 #[.pointer (some ⟨lp,0,none⟩),.int .i64 (x:Int),bnVal a b] w (KpOut B lp g p nv mv s (keepL S x a b) w):=by
  have hn:S.length<=32:=by rw [h.len];obtain ⟨_,h1⟩:=h.st;exact h1.n32
  have hxI:(x:Int)<(S.length:Int):=by omega
  obtain ⟨W,hW⟩:∃ W,w.alloc (.cells #[.int .i64 a,.int .i64 b] 186)=W:=⟨_,rfl⟩;have hb0:Below w.heap.size w W:=bAe hW;have g0:W.heap[w.heap.size]?=some (.cells #[.int .i64 a,.int .i64 b] 186 (0,0)):=hAe hW;have hlt0:=(hLt g0);have HL:Hid (∀ w',Below W.heap.size W w'->LfAt B lp g p nv mv s S w'):=fun w' hb=>(h.below hb0).below hb
  have HC:Hid (∀ w',Below W.heap.size W w'->Kx w.heap.size g x a b S[x].lo S[x].hi W w'):=fun w' hb=>⟨cell_of ((hb.block _ hlt0).trans g0) 0,cell_of ((hb.block _ hlt0).trans g0) 1,((HL.out w' hb).cell x hx).1,((HL.out w' hb).cell x hx).2.1,hb⟩
  have HK:Hid (Kq B w W):=Kq.of_below hb0 h.size;have HM:Hid (∀ (c d:Int) (w':World),Calls Tryz.prog 187 #[.agg #[.int .i64 c,.int .i64 d],.agg #[.int .i64 a,.int .i64 b]] w' fun e w2=>e=.returned (.agg #[.int .i64 (max c a),.int .i64 (min d b)])/\Below w'.heap.size w' w2):=fun c d w'=>meet_any c d a b w'
  have HF:Hid (∀ w',Below W.heap.size W w'->LfAt B lp g p nv mv s (keepL S x a b) ((w'.setCell ⟨g,x*3,none⟩ (.int .i64 (max S[x].lo a))).setCell ⟨g,x*3+1,none⟩ (.int .i64 (min S[x].hi b)))/\Kq B w' ((w'.setCell ⟨g,x*3,none⟩ (.int .i64 (max S[x].lo a))).setCell ⟨g,x*3+1,none⟩ (.int .i64 (min S[x].hi b)))):=fun w' hb=>by
    rw [keepL_eq hx];exact (HL.out w' hb).put x hx _ _
  have HZ:Hid (∀ w',Below W.heap.size W w'->∀ i,w'.frozen? ⟨g,i,none⟩=false):=fun w' hb=>frozen_of (HL.out w' hb).row
  have c1:W.cell? ⟨lp,1,none⟩=some (.slice (some ⟨g,0,none⟩) S.length S.length):=cell_of (HL.out W (Below.refl _ _)).box 1;have HBs:Hid (B<=W.heap.size):=Nat.le_trans h.size hb0.size;obtain ⟨lo,hlo⟩:∃ n,S[x].lo=n:=⟨_,rfl⟩;obtain ⟨hi,hhi⟩:∃ n,S[x].hi=n:=⟨_,rfl⟩;rw [hlo,hhi] at HC HF;clear h hb0 g0 hlt0 hlo hhi;unfold bnVal;go_enter Tryz.func160,Tryz.ntmps160;go_wp2_with fail
  clear c1;refine wp_region_T (fun _=>True) (Kx w.heap.size g x a b lo hi W) [9] (by kernel_rfl) ⟨trivial,HC.out _ (Below.refl _ _).drew⟩ (fun hHeld=>?_);unfold Kx at hHeld ⊢;refine tB (i:=0) (oi:=⟨some 13,.move (.tmp 6),_,_,_,_⟩) (v:=?v_af) ?hy_af (by assumption) ?rest_af
  case hy_af=>(intro w hSw;(try dsimp only at hSw);go_simp;try (with_reducible rfl))
  try simp only [Act.put,q1,q2,q3]
  refine tB (i:=1) (oi:=⟨some 14,.move (.tmp 6),_,_,_,_⟩) (v:=?v_ab) ?hy_ab (by assumption) ?rest_ab
  case hy_ab=>(intro w hSw;(try dsimp only at hSw);go_simp;try (with_reducible rfl))
  try simp only [Act.put,q1,q2,q3]
  refine tB (i:=2) (oi:=⟨some 15,.nilCheck (.tmp 14),_,_,_,_⟩) (v:=?v_ai) ?hy_ai (by assumption) ?rest_ai
  case hy_ai=>(intro w hSw;(try dsimp only at hSw);go_simp;try (with_reducible rfl))
  try simp only [Act.put,q1,q2,q3]
  refine tB (i:=3) (oi:=⟨some 16,.fieldAddr 190 (.tmp 15) 0,_,_,_,_⟩) (v:=?v_aa) ?hy_aa (by assumption) ?rest_aa
  case hy_aa=>(intro w hSw;(try dsimp only at hSw);go_simp;try (with_reducible rfl))
  try simp only [Act.put,q1,q2,q3]
  refine tA (i:=4) (oi:=⟨some 17,.load 186 (.tmp 16),_,_,_,_⟩) (v:=?v_ac) ?hy_ac (by assumption) ?rest_ac
  case hy_ac=>(intro w hSw;(try dsimp only at hSw);go_simp;try (with_reducible rfl))
  try simp only [Act.put,q1,q2,q3]
  refine tA (i:=5) (oi:=⟨some 18,.load 186 (.tmp 5),_,_,_,_⟩) (v:=?v_ah) ?hy_ah (by assumption) ?rest_ah
  case hy_ah=>(intro w hSw;(try dsimp only at hSw);go_simp;try (with_reducible rfl))
  try simp only [Act.put,q1,q2,q3]
  refine wpAnyT_one (i:=6) (o:=⟨some 19,.call { callee:=.value (.func 187),args:=#[(.tmp 17),(.tmp 18)],argTypes:=#[186,186] },_,_,_,_⟩) (by kernel_rfl) rfl (fun K hK=>?_);go_simp;refine cA (HM.out _ _ _) ?_;rintro e w2 ⟨rfl,hb2⟩;go_wp2_with fail
  have hb3:Below W.heap.size W w2:=hHeld.2.2.2.2.2.trans (hb2.mono hHeld.2.2.2.2.2.size);have HB3:Hid (Below W.heap.size W w2):=hb3;have hHw:True/\_:=⟨trivial,HC.out _ hb3⟩;unfold Kx at hHw;obtain ⟨_,_,_,d0,d1,_⟩:=hHw;have hHw:True/\_:=⟨trivial,HC.out _ hb3⟩;unfold Kx at hHw;have dz:=HZ.out _ hb3;clear hb2 hb3;refine hK.out _ _ ⟨trivial,fun _=>hHw.2⟩ ?_;clear hK K;refine tB (i:=7) (oi:=⟨some 20,.nilCheck (.tmp 13),_,_,_,_⟩) (v:=?v_ad) ?hy_ad (by assumption) ?rest_ad
  case hy_ad=>(intro w hSw;(try dsimp only at hSw);go_simp;try (with_reducible rfl))
  try simp only [Act.put,q1,q2,q3]
  refine tB (i:=8) (oi:=⟨some 21,.fieldAddr 190 (.tmp 20) 0,_,_,_,_⟩) (v:=?v_ag) ?hy_ag (by assumption) ?rest_ag
  case hy_ag=>(intro w hSw;(try dsimp only at hSw);go_simp;try (with_reducible rfl))
  try simp only [Act.put,q1,q2,q3]
  refine wpAnyT_late (i:=9) (o:=⟨none,.store 186 (.tmp 21) (.tmp 19),_,_,_,_⟩) (by kernel_rfl) rfl (by kernel_rfl) (fun K hK=>?_);go_simp;refine hK.out _ _ ?sh_ae ?rest_ae
  case sh_ae=>((try dsimp only);all_goals trivial)
  clear hK K;try simp only [Act.put,q1,q2,q3]
  refine wpAnyT_done (by kernel_rfl) ?_ _;go_wp2_with fail
  go_end0;have hf:=HF.out _ HB3.out;exact ⟨rfl,hf.1,(HK.out.next HB3.out HBs.out).trans hf.2⟩
def sKeep (t:Bool) (S:List Sv) (x:Nat) (a b:Int):List Sv:=if t then keepL S x (-b) (-a) else keepL S x a b
theorem sKeep_any (B lp g p:Nat) (nv mv:Value) (s:St) (S:List Sv) (t:Bool) (w:World) (h:LfAt B lp g p nv mv s S w) (x:Nat) (hx:x<S.length) (a b:Int) (h1:-9223372036854775807<=a) (h2:a<=9223372036854775807) (h3:-9223372036854775807<=b) (h4:b<=9223372036854775807):Calls Tryz.prog 182 #[sdVal lp t,.int .i64 (x:Int),bnVal a b] w (KpOut B lp g p nv mv s (sKeep t S x a b) w):=by
  obtain ⟨W,hW⟩:∃ W,(w.alloc (.cells #[.pointer (some ⟨lp,0,none⟩),.bool t] 198)).alloc (.cells #[.int .i64 a,.int .i64 b] 186)=W:=⟨_,rfl⟩;have hb0:Below w.heap.size w W:=by rw [<-hW];exact ((Below.refl _ _).alloc (Nat.le_refl _) _).alloc (by simp) _
  have g0:W.heap[w.heap.size]?=some (.cells #[.pointer (some ⟨lp,0,none⟩),.bool t] 198 (0,0)):=by rw [<-hW,heap_alloc_old (w.alloc _) _ (by simp)];exact heap_alloc_new w _
  have g1:W.heap[w.heap.size+1]?=some (.cells #[.int .i64 a,.int .i64 b] 186 (0,0)):=by rw [<-hW];exact heap_alloc2_new w _ _
  have hlt0:=(hLt g0);have hlt1:=(hLt g1);have HL:Hid (∀ w',Below w.heap.size w w'->LfAt B lp g p nv mv s S w'):=fun w' hb=>h.below hb
  have HKp:Hid (∀ w' (c d:Int),Below w.heap.size w w'->Calls Tryz.prog 160 #[.pointer (some ⟨lp,0,none⟩),.int .i64 (x:Int),.agg #[.int .i64 c,.int .i64 d]] w' (KpOut B lp g p nv mv s (keepL S x c d) w')):=fun w' c d hb=>keep_any B lp g p nv mv s S w' (h.below hb) x hx c d
  have HB:Hid (Below w.heap.size w W):=hb0;have HBs:Hid (B<=w.heap.size):=h.size;have c0:W.cell? ⟨w.heap.size,0,none⟩=some (.pointer (some ⟨lp,0,none⟩)):=cell_of g0 0;have c1:W.cell? ⟨w.heap.size,1,none⟩=some (.bool t):=cell_of g0 1;have c2:W.cell? ⟨w.heap.size+1,0,none⟩=some (.int .i64 a):=cell_of g1 0;have c3:W.cell? ⟨w.heap.size+1,1,none⟩=some (.int .i64 b):=cell_of g1 1;have G0:Hid (∀ w',Below W.heap.size W w'->w'.heap[w.heap.size]?=some (.cells #[.pointer (some ⟨lp,0,none⟩),.bool t] 198 (0,0))/\w'.heap[w.heap.size+1]?=some (.cells #[.int .i64 a,.int .i64 b] 186 (0,0))):=fun w' hb=>⟨(hb.block _ hlt0).trans g0,(hb.block _ hlt1).trans g1⟩
  clear h hb0 g0 g1 hlt0 hlt1 hx;unfold sdVal bnVal sKeep
  cases t with
  | false =>
    go_enter Tryz.func182,Tryz.ntmps182;go_wp2_with fail
    refine cA (HKp.out W a b HB.out) ?_;rintro e w2 ⟨rfl,hL2,hk2⟩;have H2:Hid (LfAt B lp g p nv mv s (keepL S x a b) w2/\Kq B W w2):=⟨hL2,hk2⟩;clear hL2 hk2;go_wp2_with fail
    go_end0;exact ⟨rfl,H2.out.1,(Kq.of_below HB.out HBs.out).trans H2.out.2⟩
  | true =>
    have HT:Hid (Calls Tryz.prog 202 #[.agg #[.int .i64 a,.int .i64 b]] W fun e w'=>e=.returned (.agg #[.int .i64 (-b),.int .i64 (-a)])/\Below W.heap.size W w'):=turnedB_any a b W h1 h2 h3 h4;go_enter Tryz.func182,Tryz.ntmps182;go_wp2_with fail
    refine cA HT.out ?_;rintro e w2 ⟨rfl,hb2⟩;obtain ⟨q0,q1⟩:=G0.out w2 hb2;have d2:w2.cell? ⟨w.heap.size+1,0,none⟩=some (.int .i64 a):=cell_of q1 0;have d3:w2.cell? ⟨w.heap.size+1,1,none⟩=some (.int .i64 b):=cell_of q1 1;have dz:∀ i,w2.frozen? ⟨w.heap.size+1,i,none⟩=false:=frozen_of q1;obtain ⟨Y,hY⟩:∃ Y,(w2.setCell ⟨w.heap.size+1,0,none⟩ (.int .i64 (-b))).setCell ⟨w.heap.size+1,1,none⟩ (.int .i64 (-a))=Y:=⟨_,rfl⟩;have hE:Y.heap[w.heap.size+1]?=some (.cells #[.int .i64 (-b),.int .i64 (-a)] 186 (0,0)):=by rw [<-hY];exact set2 q1 _ _
    have hE0:Y.heap[w.heap.size]?=some (.cells #[.pointer (some ⟨lp,0,none⟩),.bool true] 198 (0,0)):=by
      rw [<-hY,heap_setCell_other _ _ _ _ (by simp),heap_setCell_other _ _ _ _ (by simp)];exact q0
    have hbY:Below w.heap.size w Y:=by rw [<-hY];exact ((HB.out.trans (hb2.mono HB.out.size)).setCell (by simp) _).setCell (by simp) _
    have y0:Y.cell? ⟨w.heap.size,0,none⟩=some (.pointer (some ⟨lp,0,none⟩)):=cell_of hE0 0;have y2:Y.cell? ⟨w.heap.size+1,0,none⟩=some (.int .i64 (-b)):=cell_of hE 0;have y3:Y.cell? ⟨w.heap.size+1,1,none⟩=some (.int .i64 (-a)):=cell_of hE 1;have HBY:Hid (Below w.heap.size w Y):=hbY;clear hb2 q0 q1 hE hE0 hbY;go_wp2_with fail
    refine cA (HKp.out Y (-b) (-a) HBY.out) ?_;rintro e w3 ⟨rfl,hL2,hk2⟩;have H2:Hid (LfAt B lp g p nv mv s (keepL S x (-b) (-a)) w3/\Kq B Y w3):=⟨hL2,hk2⟩;clear hL2 hk2;go_wp2_with fail
    go_end0;exact ⟨rfl,H2.out.1,(Kq.of_below HBY.out HBs.out).trans H2.out.2⟩
theorem has_max (B:Nat) (a b:Int) (tv:Value) (ts:List (Int->Bool)) (fs:List Value) (v:Int) (w:World) (ho:w.ownsRow B 93 1 tv ts.length fs) (ht:TestsAt B w fs ts) (hB:B<=w.heap.size) (hl:ts.length<=9223372036854775807) (h1:-2000000000<=v) (h2:v<=2000000000):Calls Tryz.prog 168 #[stVal a b tv,.int .i64 v] w fun e w'=>e=.returned (.bool (ts.all (fun t=>t v)&&inB a b v))/\Below w.heap.size w w':=by
  obtain ⟨ta,cap,rfl⟩:=own_slice ho;obtain ⟨W,hW⟩:∃ W,w.alloc (.cells #[.int .i64 a,.int .i64 b,.slice ta ts.length cap] 190)=W:=⟨_,rfl⟩;have hb0:Below w.heap.size w W:=bAe hW;have g0:W.heap[w.heap.size]?=some (.cells #[.int .i64 a,.int .i64 b,.slice ta ts.length cap] 190 (0,0)):=hAe hW;have hlt0:=(hLt g0);have HC:Hid (∀ w',Below W.heap.size W w'->w'.cell? ⟨w.heap.size,0,none⟩=some (.int .i64 a)/\w'.cell? ⟨w.heap.size,1,none⟩=some (.int .i64 b)/\w'.cell? ⟨w.heap.size,2,none⟩=some (.slice ta ts.length cap)):=fun w' hb=>⟨cell_of ((hb.block _ hlt0).trans g0) 0,cell_of ((hb.block _ hlt0).trans g0) 1,cell_of ((hb.block _ hlt0).trans g0) 2⟩
  have hfl:fs.length=ts.length:=ht.1;have HO:Hid (∀ k (hk:k<ts.length) w',Below W.heap.size W w'->∃ q fn caps,ta=some ⟨q,0,none⟩/\w'.cell? ⟨q,k,none⟩=some (.func (.func fn) #[] caps)/\Enters Tryz.prog fn/\Calls Tryz.prog fn (#[.int .i64 v]++caps) w' fun e w2=>e=.returned (.bool (ts[k] v))/\Below w'.heap.size w' w2):=fun k hk w' hb=>by
    have hbw:=hb0.trans (hb.mono hb0.size);rcases own_cells (own_below ho hbw) with ⟨_,hn⟩ | ⟨q,c2,hv,_,_,_,hc⟩
    · omega
    · injection hv with e1 _ _
      obtain ⟨fn,caps,hf,he,hcl⟩:=ht.2 k (by omega) hk;refine ⟨q,fn,caps,e1,?_,he,hcl w' (Kq.of_below hbw hB) v h1 h2⟩;have:=hc k fs[k] (List.getElem?_eq_getElem (by omega));rw [this,hf]
  have HB:Hid (Below w.heap.size w W):=hb0;have HW:Hid (∀ w',Calls Tryz.prog 141 #[.agg #[.int .i64 a,.int .i64 b],.int .i64 v] w' fun e w2=>e=.returned (.bool (inB a b v))/\Below w'.heap.size w' w2):=fun w'=>withinB_any a b v w'
  obtain ⟨c0,c1,c2⟩:=HC.out W (Below.refl _ _);clear ho ht hb0 g0 hlt0 hfl;unfold stVal;go_enter Tryz.func168,Tryz.ntmps168;go_wp2_with fail
  clear c0 c1 c2;go_loopw [10] (fun iv wr=>∃ (k:Nat),iv=.int .i64 (k:Int)/\k<=ts.length/\Hid ((ts.take k).all (fun t=>t v)=true)/\Hid (Below W.heap.size W wr)) (fun iv _=>ts.length-(intOf iv).toNat)
  case atStart=>exact ⟨0,rfl,Nat.zero_le _,rfl,Below.refl _ _⟩
  case round=>
  obtain ⟨k,rfl,hk,HT,HBr⟩:=hrel
  by_cases hkn:k<ts.length
  · have hkI:(k:Int)<(ts.length:Int):=by omega
    obtain ⟨q,fn,caps,rfl,cq,he,hcl⟩:=HO.out k hkn wr HBr.out;have HN:Hid ((ts.take (k+1)).all (fun t=>t v)=ts[k] v):=by show _=_;rw [List.take_succ_eq_append_getElem hkn,List.all_append,HT.out];simp
    have HN2:Hid (ts[k] v=false->ts.all (fun t=>t v)=false):=fun hf=>by
      rw [<-Bool.not_eq_true,List.all_eq_true];intro hh;have:=hh ts[k] (List.getElem_mem hkn);rw [hf] at this
      cases this
    obtain ⟨r,hr⟩:∃ r,ts[k] v=r:=⟨_,rfl⟩;rw [hr] at hcl HN HN2;have HCl:Hid (Calls Tryz.prog fn (#[.int .i64 v]++caps) wr fun e w2=>e=.returned (.bool r)/\Below wr.heap.size wr w2):=hcl;unfold Enters at he;clear hcl hr
    cases r with
    | false =>
      have HZ:Hid (ts.all (fun t=>t v)=false):=HN2.out rfl;go_wp2_with (go_at_fn fn;refine cA HCl.out ?_;rintro e w2 ⟨rfl,hb2⟩);go_ret;exact ⟨ret_bool (by rw [HZ.out];rfl),HB.out.trans ((HBr.out.trans (hb2.mono HBr.out.size)).mono HB.out.size)⟩
    | true =>
      go_wp2_with (go_at_fn fn;refine cA HCl.out ?_;rintro e w2 ⟨rfl,hb2⟩);go_roundw
      case rel=>exact ⟨k+1,by go_num,hkn,HN,HBr.out.trans (hb2.mono HBr.out.size)⟩
      case measure=>simp [intOf];omega
  · have hke:k=ts.length:=by omega
    subst hke;have HT2:Hid (ts.all (fun t=>t v)=true):=by have:=HT.out;rw [List.take_length] at this;exact this
    have hkI:¬ (ts.length:Int)<(ts.length:Int):=by omega
    obtain ⟨c0,c1,c2⟩:=HC.out wr HBr.out;go_wp2_with fail
    refine cA (HW.out wr) ?_;rintro e w2 ⟨rfl,hb2⟩;have HB2:Hid (Below w.heap.size w w2):=HB.out.trans ((HBr.out.trans (hb2.mono HBr.out.size)).mono HB.out.size);clear hb2;go_wp2_with fail
    go_ret;exact ⟨ret_bool (by rw [HT2.out];rfl),HB2.out⟩
section
variable {B lp g p : Nat} {nv mv : Value} {s : St} {S : List Sv} {w w' : World}
theorem LfAt.more (h:LfAt B lp g p nv mv s S w) (x:Nat) (hx:x<S.length) {f tv:Value} {t:Int->Bool} {fs:List Value} (hf:TestIs B w f t) (h1:w.ownsRow B 93 1 S[x].tv S[x].ts.length fs) (h2:TestsAt B w fs S[x].ts)
    (ho:w'.ownsRow B 93 1 tv (S[x].ts.length+1) (fs++[f])) (hg:w.grownBy w' S[x].tv.ownBlock) (hn:tv.ownBlock=S[x].tv.ownBlock∨tv.ownBlock=some w.heap.size) :
    LfAt B lp g p nv mv s (S.set x ⟨S[x].lo,S[x].hi,tv,S[x].ts++[t]⟩) (w'.setCell ⟨g,x*3+2,none⟩ tv)/\Kq B w (w'.setCell ⟨g,x*3+2,none⟩ tv):=by
  have k0:Kq B w w':=Kq.grown h1 hg h.size;have row':w'.heap[g]?=some (.cells (svs S).toArray 190 (0,0)):=(hg.block g (hLt h.row) (fun e=>own_type h1 h.row (by decide) e.symm)).trans h.row;have box':w'.heap[lp]?=some (.cells #[.pointer (some ⟨p,0,none⟩),.slice (some ⟨g,0,none⟩) S.length S.length] 184 (0,0)):=k0.block h.box (by decide) (by decide);have r1:=heap_setCell_same w' g (x*3+2) _ 190 tv row';have k1:Kq B w (w'.setCell ⟨g,x*3+2,none⟩ tv):=k0.trans (Kq.set _ h.g1 row');have hne:∀ k,k≠g->(w'.setCell ⟨g,x*3+2,none⟩ tv).heap[k]?=w'.heap[k]?:=fun k hk=>heap_setCell_other _ _ _ _ hk
  have hof:Off (fun k=>k=g) w' (w'.setCell ⟨g,x*3+2,none⟩ tv):=⟨by simp,fun k _ hk=>hne k hk⟩;have hget:∀ y (hy:y<S.length) (hy':y<(S.set x ⟨S[x].lo,S[x].hi,tv,S[x].ts++[t]⟩).length),y≠x->(S.set x ⟨S[x].lo,S[x].hi,tv,S[x].ts++[t]⟩)[y]=S[y]:=fun y hy hy' hyx=>by
    rw [List.getElem_set,if_neg (fun e=>hyx e.symm)]
  have hgx:∀ (hy':x<(S.set x ⟨S[x].lo,S[x].hi,tv,S[x].ts++[t]⟩).length),(S.set x ⟨S[x].lo,S[x].hi,tv,S[x].ts++[t]⟩)[x]=⟨S[x].lo,S[x].hi,tv,S[x].ts++[t]⟩:=fun hy'=>by
    rw [List.getElem_set,if_pos rfl]
  have hlt:∀ y (hy:y<S.length) k,S[y].tv.ownBlock=some k->k<w.heap.size:=fun y hy k hk=>by
    obtain ⟨fs',h3,_⟩:=h.tests y hy;exact (h3.lt k hk).2
  refine ⟨{
    box:=by rw [List.length_set,hne _ h.lr];exact box'
    row:=by
      rw [r1]
      congr 2
      rw [<-svs_setT S x tv (S[x].ts++[t]) hx];simp
    tests:=fun y hy=>by
      have hy2:y<S.length:=by rw [List.length_set] at hy;exact hy
      by_cases e:y=x
      · subst e
        rw [hgx hy];refine ⟨fs++[f],?_,(h2.kq k1).snoc (hf.kq k1)⟩;rw [List.length_append];exact own_off (S:=fun k=>k=g) ho (fun k hk e=>own_type ho row' (by decide) (by rw [hk,e])) hof
      · rw [hget y hy2 hy e]
        obtain ⟨fs',h3,h4⟩:=h.tests y hy2;refine ⟨fs',?_,h4.kq k1⟩;have h5:w'.ownsRow B 93 1 S[y].tv S[y].ts.length fs':=row_kept h3 (fun k hk=>hg.block k (hlt y hy2 k hk) (fun e2=>h.apart y x hy2 hx e k hk e2.symm));exact own_off (S:=fun k=>k=g) h5 (fun k hk e=>own_type h5 row' (by decide) (by rw [hk,e])) hof
    apart:=fun y z hy hz hyz k hk hk2=>by
      have hy2:y<S.length:=by rw [List.length_set] at hy;exact hy
      have hz2:z<S.length:=by rw [List.length_set] at hz;exact hz
      by_cases e:y=x
      · subst e
        rw [hgx hy] at hk;rw [hget z hz2 hz (fun e=>hyz e.symm)] at hk2
        replace hk:tv.ownBlock=some k:=hk
        rcases hn with hn | hn
        · exact h.apart y z hy2 hz2 hyz k (hn▸hk) hk2
        · rw [hn] at hk
          injection hk with hk;have:=hlt z hz2 k hk2;omega
      · rw [hget y hy2 hy e] at hk
        by_cases e2:z=x
        · subst e2
          rw [hgx hz] at hk2
          replace hk2:tv.ownBlock=some k:=hk2
          rcases hn with hn | hn
          · exact h.apart y z hy2 hz2 hyz k hk (hn▸hk2)
          · rw [hn] at hk2
            injection hk2 with hk2;have:=hlt y hy2 k hk;omega
        · rw [hget z hz2 hz e2] at hk2
          exact h.apart y z hy2 hz2 hyz k hk hk2
    b0:=h.b0
    lp1:=h.lp1
    g1:=h.g1
    st:=h.store k1.below
    own:=h.own
    len:=by rw [List.length_set];exact h.len
    tz:=h.tz.below k1.below h.b0 },k1⟩
end
theorem und103:Tryz.prog.underlying 188=some (.slice 93):=by kernel_rfl
theorem info58:(Tryz.prog.info? 93).map (fun i=>(i.zero,i.size,i.bytes))=some (some .nilFunc,1,8):=by kernel_rfl
def someL (S:List Sv) (x:Nat) (tv:Value) (t:Int->Bool):List Sv:=match S[x]? with
  | some s=>S.set x ⟨s.lo,s.hi,tv,s.ts++[t]⟩
  | none=>S
theorem someL_eq {S:List Sv} {x:Nat} (hx:x<S.length) (tv:Value) (t:Int->Bool):someL S x tv t=S.set x ⟨S[x].lo,S[x].hi,tv,S[x].ts++[t]⟩:=by
  unfold someL;rw [List.getElem?_eq_getElem hx]
def SmOut (B lp g p:Nat) (nv mv:Value) (s:St) (S:List Sv) (x:Nat) (t:Int->Bool) (w:World) (e:Ending) (w':World):Prop:=∃ (tv:Value),e=.returned (.tuple #[])/\LfAt B lp g p nv mv s (someL S x tv t) w'/\Kq B w w'
theorem keepSome_any (B lp g p:Nat) (nv mv:Value) (s:St) (S:List Sv) (w:World) (h:LfAt B lp g p nv mv s S w) (x:Nat) (hx:x<S.length) (fn:Nat) (caps:Array Value) (t:Int->Bool) (hf:TestIs B w (.func (.func fn) #[] caps) t) (hl:S[x].ts.length<=100000):Calls Tryz.prog 154 #[.pointer (some ⟨lp,0,none⟩),.int .i64 (x:Int),.func (.func fn) #[] caps] w (SmOut B lp g p nv mv s S x t w):=by
  have hn:S.length<=32:=by rw [h.len];obtain ⟨_,h1⟩:=h.st;exact h1.n32
  have hxI:(x:Int)<(S.length:Int):=by omega
  have HL:Hid (∀ w',Below w.heap.size w w'->LfAt B lp g p nv mv s S w'):=fun w' hb=>h.below hb
  have HBs:Hid (B<=w.heap.size):=h.size;obtain ⟨fs,ho,hts⟩:=h.tests x hx;obtain ⟨ta,tc,htv⟩:=own_slice ho;obtain ⟨n,hnn⟩:∃ n,S[x].ts.length=n:=⟨_,rfl⟩;have HC:Hid (∀ w',Below w.heap.size w w'->w'.cell? ⟨lp,1,none⟩=some (.slice (some ⟨g,0,none⟩) S.length S.length)/\w'.cell? ⟨g,x*3+2,none⟩=some (.slice ta n tc)):=fun w' hb=>⟨cell_of (HL.out w' hb).box 1,by rw [<-hnn,<-htv];exact ((HL.out w' hb).cell x hx).2.2⟩
  have HOV:Hid (∀ w',Below w.heap.size w w'->w'.ownsRow B 93 1 (.slice ta n tc) n fs):=fun w' hb=>by
    have:=own_below ho hb;rw [htv,hnn] at this;exact this
  have HMo:Hid (∀ (V w2:World) (tv:Value),Below w.heap.size w V->w2.ownsRow B 93 1 tv (n+1) (fs++[.func (.func fn) #[] caps])->V.grownBy w2 (Value.slice ta n tc).ownBlock->(tv.ownBlock=(Value.slice ta n tc).ownBlock∨tv.ownBlock=some V.heap.size)->LfAt B lp g p nv mv s (someL S x tv t) (w2.setCell ⟨g,x*3+2,none⟩ tv)/\Kq B V (w2.setCell ⟨g,x*3+2,none⟩ tv)):=fun V w2 tv hb h1 h2 h3=>by
    have hk:=Kq.of_below hb h.size;rw [someL_eq hx];rw [<-hnn] at h1;rw [<-hnn,<-htv] at h2 h3;exact (h.below hb).more x hx (hf.kq hk) (own_below ho hb) (hts.kq hk) h1 h2 h3
  have HRw:Hid (∀ (V w2:World),Below w.heap.size w V->V.grownBy w2 (Value.slice ta n tc).ownBlock->w2.heap[g]?=some (.cells (svs S).toArray 190 (0,0))/\w2.heap[lp]?=some (.cells #[.pointer (some ⟨p,0,none⟩),.slice (some ⟨g,0,none⟩) S.length S.length] 184 (0,0))/\w2.cell? ⟨g,x*3+2,none⟩=some (.slice ta n tc)/\lp≠g):=fun V w2 hb h2=>by
    have hv:=h.below hb;have ho2:=own_below ho hb;rw [<-hnn,<-htv] at h2 ⊢;have r1:w2.heap[g]?=some (.cells (svs S).toArray 190 (0,0)):=(h2.block g (hLt hv.row) (fun e=>own_type ho2 hv.row (by decide) e.symm)).trans hv.row;refine ⟨r1,(Kq.grown ho2 h2 hv.size).block hv.box (by decide) (by decide),?_,hv.lr⟩;rw [cell_of r1];simpa using (svs_get S x hx).2.2
  have hln:n<=100000:=by omega
  clear h hf ho hts htv hnn hl;go_enter Tryz.func154,Tryz.ntmps154;go_wp2_with fail
  have HB0:Hid (Below w.heap.size w w.drew):=(Below.refl _ _).drew;refine wp_region_T (fun w'=>w'.cell? ⟨lp,1,none⟩=some (.slice (some ⟨g,0,none⟩) S.length S.length)) (fun w'=>w'.cell? ⟨g,x*3+2,none⟩=some (.slice ta n tc)) [18] (by kernel_rfl) (HC.out _ HB0.out) (fun hHeld=>?_);generalize w.drew=U at HB0 hHeld ⊢
  refine tB (i:=0) (oi:=⟨some 6,.move (.tmp 0),_,_,_,_⟩) (v:=?v_ac) ?hy_ac (by assumption) ?rest_ac
  case hy_ac=>(intro w hSw;(try dsimp only at hSw);go_simp;try (with_reducible rfl))
  try simp only [Act.put,q1,q2,q3]
  refine tB (i:=1) (oi:=⟨some 7,.nilCheck (.tmp 6),_,_,_,_⟩) (v:=?v_ah) ?hy_ah (by assumption) ?rest_ah
  case hy_ah=>(intro w hSw;(try dsimp only at hSw);go_simp;try (with_reducible rfl))
  try simp only [Act.put,q1,q2,q3]
  refine tB (i:=2) (oi:=⟨some 8,.fieldAddr 184 (.tmp 7) 1,_,_,_,_⟩) (v:=?v_ai) ?hy_ai (by assumption) ?rest_ai
  case hy_ai=>(intro w hSw;(try dsimp only at hSw);go_simp;try (with_reducible rfl))
  try simp only [Act.put,q1,q2,q3]
  refine tB (i:=3) (oi:=⟨some 9,.load 182 (.tmp 8),_,_,_,_⟩) (v:=?v_aj) ?hy_aj (by assumption) ?rest_aj
  case hy_aj=>(intro w hSw;(try dsimp only at hSw);go_simp;try (with_reducible rfl))
  try simp only [Act.put,q1,q2,q3]
  refine tB (i:=4) (oi:=⟨some 10,.move (.tmp 1),_,_,_,_⟩) (v:=?v_af) ?hy_af (by assumption) ?rest_af
  case hy_af=>(intro w hSw;(try dsimp only at hSw);go_simp;try (with_reducible rfl))
  try simp only [Act.put,q1,q2,q3]
  refine tB (i:=5) (oi:=⟨some 11,.move (.tmp 0),_,_,_,_⟩) (v:=?v_aa) ?hy_aa (by assumption) ?rest_aa
  case hy_aa=>(intro w hSw;(try dsimp only at hSw);go_simp;try (with_reducible rfl))
  try simp only [Act.put,q1,q2,q3]
  refine tB (i:=6) (oi:=⟨some 12,.nilCheck (.tmp 11),_,_,_,_⟩) (v:=?v_ad) ?hy_ad (by assumption) ?rest_ad
  case hy_ad=>(intro w hSw;(try dsimp only at hSw);go_simp;try (with_reducible rfl))
  try simp only [Act.put,q1,q2,q3]
  refine tB (i:=7) (oi:=⟨some 13,.fieldAddr 184 (.tmp 12) 1,_,_,_,_⟩) (v:=?v_ab) ?hy_ab (by assumption) ?rest_ab
  case hy_ab=>(intro w hSw;(try dsimp only at hSw);go_simp;try (with_reducible rfl))
  try simp only [Act.put,q1,q2,q3]
  refine tB (i:=8) (oi:=⟨some 14,.load 182 (.tmp 13),_,_,_,_⟩) (v:=?v_ag) ?hy_ag (by assumption) ?rest_ag
  case hy_ag=>(intro w hSw;(try dsimp only at hSw);go_simp;try (with_reducible rfl))
  try simp only [Act.put,q1,q2,q3]
  refine tB (i:=9) (oi:=⟨some 15,.move (.tmp 1),_,_,_,_⟩) (v:=?v_ae) ?hy_ae (by assumption) ?rest_ae
  case hy_ae=>(intro w hSw;(try dsimp only at hSw);go_simp;try (with_reducible rfl))
  try simp only [Act.put,q1,q2,q3]
  refine tB (i:=10) (oi:=⟨some 16,.indexAddr 182 (.tmp 14) (.tmp 15),_,_,_,_⟩) (v:=?v_aq) ?hy_aq (by assumption) ?rest_aq
  case hy_aq=>(intro w hSw;(try dsimp only at hSw);go_simp;try (with_reducible rfl))
  try simp only [Act.put,q1,q2,q3]
  refine tB (i:=11) (oi:=⟨some 17,.fieldAddr 190 (.tmp 16) 1,_,_,_,_⟩) (v:=?v_an) ?hy_an (by assumption) ?rest_an
  case hy_an=>(intro w hSw;(try dsimp only at hSw);go_simp;try (with_reducible rfl))
  try simp only [Act.put,q1,q2,q3]
  refine tA (i:=12) (oi:=⟨some 18,.load 188 (.tmp 17),_,_,_,_⟩) (v:=?v_ao) ?hy_ao (by assumption) ?rest_ao
  case hy_ao=>(intro w hSw;(try dsimp only at hSw);go_simp;try (with_reducible rfl))
  try simp only [Act.put,q1,q2,q3]
  refine tB (i:=13) (oi:=⟨some 19,.move (.tmp 2),_,_,_,_⟩) (v:=?v_al) ?hy_al (by assumption) ?rest_al
  case hy_al=>(intro w hSw;(try dsimp only at hSw);go_simp;try (with_reducible rfl))
  try simp only [Act.put,q1,q2,q3]
  refine wpAnyT_one (i:=14) (o:=⟨some 20,.buildSlice 188 1 #[(0,(.tmp 19))],_,_,_,_⟩) (by kernel_rfl) rfl (fun K hK=>?_);go_simp;obtain ⟨V,hV⟩:∃ V,U.alloc (.cells #[.func (.func fn) #[] caps] 93)=V:=⟨_,rfl⟩;have hb:Below U.heap.size U V:=bAe hV;have hO:V.heap[U.heap.size]?=some (.cells #[.func (.func fn) #[] caps] 93):=hAe hV;rw [hV];have HBV:Hid (Below w.heap.size w V):=bl_next HB0.out hb;have HSc:Hid (SrcAt V (.slice (some ⟨U.heap.size,0,none⟩) 1 1) 1 1 [.func (.func fn) #[] caps]):=src_one hO rfl;clear hb hO hV;refine hK.out _ _ ⟨(HC.out _ HBV.out).1,fun _=>(HC.out _ HBV.out).2⟩ ?_;have hHeld:=HC.out _ HBV.out;clear hK K;try simp only [Act.put,q1,q2,q3]
  refine wpAnyT_one (i:=15) (o:=⟨some 21,.call { callee:=.builtin .append,args:=#[(.tmp 18),(.tmp 20)],argTypes:=#[188,188] },_,_,_,_⟩) (by kernel_rfl) rfl (fun K hK=>?_);refine op_append_src V (.tmp 18) (.tmp 20) 188 93 .nilFunc 1 8 rfl und103 info58 rfl (by decide) B _ _ n 1 fs [.func (.func fn) #[] caps] (by rfl) (by rfl) (HOV.out V HBV.out) HSc.out (by unfold maxLen;omega) (by omega) (Nat.le_trans HBs.out HBV.out.size) (by rfl) ?_;intro tv' w2 g1 g2 g3;obtain ⟨ta2,tc2,rfl⟩:=own_slice g1;have HM:Hid (LfAt B lp g p nv mv s (someL S x (.slice ta2 (n+1) tc2) t) (w2.setCell ⟨g,x*3+2,none⟩ (.slice ta2 (n+1) tc2))/\Kq B V (w2.setCell ⟨g,x*3+2,none⟩ (.slice ta2 (n+1) tc2))):=HMo.out V w2 _ HBV.out g1 g2 g3;obtain ⟨q1,q2,d2,q4⟩:=HRw.out V w2 HBV.out g2
  have d1:w2.cell? ⟨lp,1,none⟩=some (.slice (some ⟨g,0,none⟩) S.length S.length):=cell_of q2 1;have dz:∀ i,w2.frozen? ⟨g,i,none⟩=false:=frozen_of q1;have HFr:Hid (∀ v:Value,(w2.setCell ⟨g,x*3+2,none⟩ v).cell? ⟨lp,1,none⟩=some (.slice (some ⟨g,0,none⟩) S.length S.length)):=fun v=>cell_of ((heap_setCell_other _ _ _ _ q4).trans q2) 1
  clear g1 g2 g3 q1 q2 q4 hHeld;refine hK.out _ _ ⟨d1,fun _=>d2⟩ ?_;have hHeld:=(⟨d1,d2⟩:_/\_);clear hK K;try simp only [Act.put,q1,q2,q3]
  refine tB (i:=16) (oi:=⟨some 22,.indexAddr 182 (.tmp 9) (.tmp 10),_,_,_,_⟩) (v:=?v_ak) ?hy_ak (by assumption) ?rest_ak
  case hy_ak=>(intro w hSw;(try dsimp only at hSw);go_simp;try (with_reducible rfl))
  try simp only [Act.put,q1,q2,q3]
  refine tB (i:=17) (oi:=⟨some 23,.fieldAddr 190 (.tmp 22) 1,_,_,_,_⟩) (v:=?v_am) ?hy_am (by assumption) ?rest_am
  case hy_am=>(intro w hSw;(try dsimp only at hSw);go_simp;try (with_reducible rfl))
  try simp only [Act.put,q1,q2,q3]
  refine wpAnyT_late (i:=18) (o:=⟨none,.store 188 (.tmp 23) (.tmp 21),_,_,_,_⟩) (by kernel_rfl) rfl (by kernel_rfl) (fun K hK=>?_);go_simp;refine hK.out _ _ ?sh_ap ?rest_ap
  case sh_ap=>((try dsimp only);exact (HFr.out _))
  clear hK K;try simp only [Act.put,q1,q2,q3]
  refine wpAnyT_done (by kernel_rfl) ?_ _;go_wp2_with fail
  go_end0;exact ⟨_,rfl,HM.out.1,(Kq.of_below HBV.out HBs.out).trans HM.out.2⟩
end Go.Proofs.YtjnckfchgcmmpaaGreatDoor
