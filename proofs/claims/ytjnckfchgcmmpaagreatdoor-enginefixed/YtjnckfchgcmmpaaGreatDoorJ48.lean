import Derived.Test.YtjnckfchgcmmpaaGreatDoorJ05
import Derived.Test.YtjnckfchgcmmpaaGreatDoorJ47
import Derived.Laws.StructEq
import Derived.Laws.ResultCell
import Derived.Test.YtjnckfchgcmmpaaGreatDoorJ40
import Derived.Test.YtjnckfchgcmmpaaGreatDoorJ42
namespace Go.Proofs.YtjnckfchgcmmpaaGreatDoor
open Go.RowKit
set_option maxRecDepth 10000
set_option maxHeartbeats 8000000
def HfOut (D:List Dm) (xs:List Int) (w:World) (e:Ending) (w':World):Prop:=∃ Gs,Gs.Perm (hcG D xs)/\Gs.Pairwise (fun a b=>a.hi<=b.hi)/\Below w.heap.size w w' /\
  (((crL Gs (hcG D xs)).any ov=false/\e=.returned (.tuple #[.agg #[.int .i64 0,.int .i64 0,.slice none 0 0],.bool false]))∨(∃ i∈crL Gs (hcG D xs),ov i=true/\∃ v,e=.returned (.tuple #[.agg #[.int .i64 i.lo,.int .i64 i.hi,v],.bool true])/\IntsAt w' v ((plP D.length xs).filter fun x=>i.f x.toNat)))
theorem res_ct {P:Program} {fn:Func} {p u:Tmp} {ty:TypeId} (h:fn.results=#[.cell p ty,.tmp u]) (tmps:Array Value) (w:World) (g:Nat) (t:TypeId) (cs:Array Value) (fr:Nat × Nat) (d:TypeDesc)
    (hp:tmps.getD p undef=.pointer (some ⟨g,0,none⟩)) (hg:w.heap[g]?=some (.cells cs t fr))
    (hu:P.underlying ty=some d) (hd:(match d with | .struct _ | .array _ _=>true | _=>false)=true) (hi:(P.info? ty).map (·.size)=some cs.size) :
    (results fn tmps).run P w=.ok (.tuple #[.agg cs,tmps.getD u undef]) w:=by
  rw [results_cell_tmp h,hp];simp [asAddr,run_loadVar_row w g t ty cs fr d hg hu hd hi]
theorem res10:Tryz.f101.results=#[.cell 4 58,.tmp 5]:=rfl
theorem fails_any (xa:Option Addr) (xc:Nat) (xs:List Int) (B p:Nat) (nv mv:Value) (s:St) (w:World) (hX:IntsAt w (.slice xa xs.length xc) xs) (hxl:xs.length<=1000000) (hS:StAt B w p nv mv s) (hT:Tz w) (hs:0<w.heap.size):Calls Tryz.prog 101 #[.slice xa xs.length xc,.pointer (some ⟨p,0,none⟩)] w (HfOut s.now xs w):=by
  obtain ⟨W,hW⟩:∃ W,w.alloc (.cells #[.int .i64 0,.int .i64 0,.slice none 0 0] 58)=W:=⟨_,rfl⟩;have hb0:Below w.heap.size w W:=bAe hW;have HW0:Hid (W.heap[w.heap.size]?=some (.cells #[.int .i64 0,.int .i64 0,.slice none 0 0] 58 (0,0))):=hAe hW;have hsW:0<W.heap.size:=Nat.lt_of_lt_of_le hs hb0.size;have HPl:Hid (Calls Tryz.prog 108 #[.slice xa xs.length xc,.pointer (some ⟨p,0,none⟩)] W (PlOut s.now xs W)):=places_any xa xc xs B p nv mv s W (hX.below hb0) hxl (hS.below hb0) (hT.below hb0 hs) hsW;have HBW:Hid (Below w.heap.size w W):=hb0;have HGo:Hid (∀ g∈hcG s.now xs,g.Ok):=hcG_ok hS.good hxl;have HPi:Hid (∀ y∈plP s.now.length xs,0<=y/\y<32):=fun y hy=>by
    have:=plP_in hy;have:=hS.n32;omega
  have HPn:Hid ((plP s.now.length xs).length<=1000000):=Nat.le_trans (plP_len _ _) hxl;have HGl:Hid ((hcG s.now xs).length<=32):=hcG_len _ _;obtain ⟨D,hD⟩:∃ D,s.now=D:=⟨_,rfl⟩;rw [hD] at HPl HGo HPi HPn HGl ⊢;have HOut:Hid (∀ Gs e w',Gs.Perm (hcG D xs)->Gs.Pairwise (fun a b=>a.hi<=b.hi)->Below w.heap.size w w'->(((crL Gs (hcG D xs)).any ov=false/\e=.returned (.tuple #[.agg #[.int .i64 0,.int .i64 0,.slice none 0 0],.bool false]))∨(∃ i∈crL Gs (hcG D xs),ov i=true/\∃ v,e=.returned (.tuple #[.agg #[.int .i64 i.lo,.int .i64 i.hi,v],.bool true])/\IntsAt w' v ((plP D.length xs).filter fun x=>i.f x.toNat)))->HfOut D xs w e w'):=fun Gs e w' h1 h2 h3 h4=>⟨Gs,h1,h2,h3,h4⟩
  unfold PlOut at HPl;rw [show grL D (plP D.length xs) 32=hcG D xs from rfl] at HPl;clear hX hS hT hD hb0;obtain ⟨P,hP⟩:∃ P,plP D.length xs=P:=⟨_,rfl⟩;obtain ⟨G,hG⟩:∃ G,hcG D xs=G:=⟨_,rfl⟩;rw [hP] at HPl HPi HPn HOut;rw [hG] at HPl HGo HGl HOut;clear hP hG;go_enter Tryz.func101,Tryz.ntmps101;go_upto_region 1 with fail
  try rw [hW]
  clear hW;go_upto_region 2 with (first | (go_at_call 108;refine cA HPl.out ?_;intro e w1 hh;(obtain ⟨pv,gv,h1,h2,h3,h4⟩:=hh);subst h1;(obtain ⟨pa,pc,e1⟩:=own_slice h2);(obtain ⟨ga,gc,e2⟩:=own_slice h3);subst e1;subst e2;(have HO1:Hid _:=h2);(have HO2:Hid _:=h3);(have HB1:Hid _:=h4);clear h2 h3 h4));obtain ⟨V,hV⟩:∃ V,w1.alloc (.cells #[.slice pa P.length pc,.slice ga G.length gc] 147)=V:=⟨_,rfl⟩;have hbV:Below w1.heap.size w1 V:=bAe hV;have gV:V.heap[w1.heap.size]?=some (.cells #[.slice pa P.length pc,.slice ga G.length gc] 147 (0,0)):=hAe hV;have HgV:Hid (V.heap[w1.heap.size]?=some (.cells #[.slice pa P.length pc,.slice ga G.length gc] 147 (0,0))):=gV;have HO3:Hid (V.ownsRow W.heap.size 160 4 (.slice ga G.length gc) G.length (grs G)):=own_bl HO2.out hbV
  have HO4:Hid (V.ownsRow W.heap.size 3 1 (.slice pa P.length pc) P.length (P.map (.int .i64))):=own_bl HO1.out hbV;have HBV:Hid (Below W.heap.size W V):=bl_next HB1.out hbV;try rw [hV]
  have z0:=cell_of gV 0;have z1:=cell_of gV 1;clear hV hbV gV HO1 HO2 HB1 HPl;have HCr:Hid (Calls Tryz.prog 109 #[.agg #[.slice pa P.length pc,.slice ga G.length gc]] V (CrOut G V)):=crowd_any _ W.heap.size ga gc G V HO3.out HGo.out HGl.out;go_upto_region 3 with (first | (go_at_call 109;refine cA HCr.out ?_;intro e w2 hh;(obtain ⟨Gs,lv,h1,h2,h3,h4,h5⟩:=hh);subst h3;(obtain ⟨la,lc,e1⟩:=own_slice h4);subst e1;(have HPe:Hid _:=h1);(have HPa:Hid _:=h2);(have HLo:Hid _:=h4);(have HB2:Hid _:=h5);clear h1 h2 h4 h5));clear z0 z1 HCr;have HGso:Hid (∀ g∈Gs,g.Ok):=fun g hg=>HGo.out g (HPe.out.mem_iff.1 hg)
  have HLok:Hid (∀ i∈crL Gs G,i.Ok):=crL_ok HGo.out HGso.out (by rw [HPe.out.length_eq];exact HGl.out);have hLl:(crL Gs G).length<=1024:=crL_len (by rw [HPe.out.length_eq];exact HGl.out) HGl.out;have HOu2:Hid (∀ e w',Below w.heap.size w w'->(((crL Gs G).any ov=false/\e=.returned (.tuple #[.agg #[.int .i64 0,.int .i64 0,.slice none 0 0],.bool false]))∨(∃ i∈crL Gs G,ov i=true/\∃ v,e=.returned (.tuple #[.agg #[.int .i64 i.lo,.int .i64 i.hi,v],.bool true])/\IntsAt w' v (P.filter fun x=>i.f x.toNat)))->HfOut D xs w e w'):=fun e w' h1 h2=>HOut.out Gs e w' HPe.out HPa.out h1 h2
  obtain ⟨L,hL⟩:∃ L,crL Gs G=L:=⟨_,rfl⟩;rw [hL] at HLo HLok hLl HOu2 ⊢;clear hL HOut HPe HPa;have HBW2:Hid (Below W.heap.size W w2):=bl_next HBV.out HB2.out;have HIv:Hid (∀ w',Below w2.heap.size w2 w'->∀ j (h:j<L.length),∃ b off,la=some ⟨b,off,none⟩/\IvAt w' b (off+j*7) L[j]):=fun w' hb j hj=>by
    obtain ⟨a,c,e,h⟩:=own_ivs HLo.out;injection e with e1 _ _;subst e1;obtain ⟨b,off,e2,_,h2⟩:=(h.below hb) j hj;exact ⟨b,off,e2,h2⟩
  have HgV2:Hid (∀ w',Below w2.heap.size w2 w'->w'.heap[w1.heap.size]?=some (.cells #[.slice pa P.length pc,.slice ga G.length gc] 147 (0,0))):=fun w' hb=>((HB2.out.trans (hb.mono HB2.out.size)).block _ (hLt HgV.out)).trans HgV.out
  have HP2:Hid (∀ w',Below w2.heap.size w2 w'->IntsAt w' (.slice pa P.length pc) P):=fun w' hb=>own_ints (own_bl HO4.out (HB2.out.trans (hb.mono HB2.out.size))) (by unfold maxLen;have:=HPn.out;omega)
  have HW2:Hid (∀ w',Below w2.heap.size w2 w'->w'.heap[w.heap.size]?=some (.cells #[.int .i64 0,.int .i64 0,.slice none 0 0] 58 (0,0))):=fun w' hb=>((HBW2.out.trans (hb.mono HBW2.out.size)).block _ (hLt HW0.out)).trans HW0.out
  have HBw2:Hid (∀ w',Below w2.heap.size w2 w'->Below w.heap.size w w'):=fun w' hb=>HBW.out.trans ((HBW2.out.trans (hb.mono HBW2.out.size)).mono HBW.out.size)
  have Hlt:Hid (w.heap.size<w2.heap.size):=Nat.lt_of_lt_of_le (hLt HW0.out) HBW2.out.size;clear HB2 HgV HO3 HO4 HBV HLo HW0 HBW HBW2 HGso HGo HGl;go_loopw [15] (fun iv wr=>∃ (k:Nat),iv=.int .i64 (k:Int)/\k<=L.length/\Hid ((L.take k).any ov=false)/\Hid (Below w2.heap.size w2 wr)) (fun iv _=>L.length-(intOf iv).toNat)
  case atStart=>exact ⟨0,rfl,Nat.zero_le _,rfl,Below.refl _ _⟩
  case round=>
  obtain ⟨k,rfl,hk,HA,HBr⟩:=hrel
  by_cases hkn:k<L.length
  case neg=>
    have hke:k=L.length:=by omega
    subst hke;have hkI:¬ (L.length:Int)<(L.length:Int):=by omega
    have HA2:Hid (L.any ov=false):=by
      have:=HA.out;rw [List.take_length] at this;exact this
    have y:=HW2.out wr HBr.out;have HY:Hid (wr.heap[w.heap.size]?=some (.cells #[.int .i64 0,.int .i64 0,.slice none 0 0] 58 (0,0))):=y;have s0:=cell_of y 0;have s1:=cell_of y 1;have s2:=cell_of y 2;have sz:∀ i,wr.frozen? ⟨w.heap.size,i,none⟩=false:=fun i=>frozen_of y i
    clear y;go_wp2_with fail
    refine bodyPost_ret (v:=.tuple #[.agg #[.int .i64 0,.int .i64 0,.slice none 0 0],.bool false]) (res_ct res10 _ _ w.heap.size 58 #[.int .i64 0,.int .i64 0,.slice none 0 0] (0,0) _ rfl (set3h HY.out _ _ _) Tryz.underlying58 rfl info37s) rfl ?_;exact HOu2.out _ _ ((((HBw2.out _ HBr.out).setCell (Nat.le_refl _) _).setCell (Nat.le_refl _) _).setCell (Nat.le_refl _) _) (.inl ⟨HA2.out,rfl⟩)
  case pos=>
  have hkI:(k:Int)<(L.length:Int):=by omega
  obtain ⟨b,off,rfl,hI⟩:=HIv.out wr HBr.out k hkn;have HN:Hid ((L.take (k+1)).any ov=((L.take k).any ov||ov L[k])):=any_take hkn;have HM:Hid (L[k]∈L):=List.getElem_mem hkn;have hok:=HLok.out _ (List.getElem_mem hkn);obtain ⟨i,hi⟩:∃ i,L[k]=i:=⟨_,rfl⟩;rw [hi] at hI HN HM hok;clear hi;obtain ⟨q0,q1,q2,q3,q4,q5,q6⟩:=hI;obtain ⟨X,hX⟩:∃ X,wr.alloc (.cells #[.int .i64 i.lo,.int .i64 i.hi,.int .u8 (wd i.f 0:Int),.int .u8 (wd i.f 1:Int),.int .u8 (wd i.f 2:Int),.int .u8 (wd i.f 3:Int),.int .i64 i.n] 157)=X:=⟨_,rfl⟩;have hbX:Below wr.heap.size wr X:=bAe hX;have gX:X.heap[wr.heap.size]?=some (.cells #[.int .i64 i.lo,.int .i64 i.hi,.int .u8 (wd i.f 0:Int),.int .u8 (wd i.f 1:Int),.int .u8 (wd i.f 2:Int),.int .u8 (wd i.f 3:Int),.int .i64 i.n] 157 (0,0)):=hAe hX
  have HBX:Hid (Below w2.heap.size w2 X):=bl_next HBr.out hbX;have HGX:Hid (∀ w',Below X.heap.size X w'->w'.cell? ⟨wr.heap.size,0,none⟩=some (.int .i64 i.lo)/\w'.cell? ⟨wr.heap.size,1,none⟩=some (.int .i64 i.hi)/\w'.cell? ⟨wr.heap.size,2,none⟩=some (.int .u8 (wd i.f 0:Int))/\w'.cell? ⟨wr.heap.size,3,none⟩=some (.int .u8 (wd i.f 1:Int))/\w'.cell? ⟨wr.heap.size,4,none⟩=some (.int .u8 (wd i.f 2:Int))/\w'.cell? ⟨wr.heap.size,5,none⟩=some (.int .u8 (wd i.f 3:Int))/\w'.cell? ⟨wr.heap.size,6,none⟩=some (.int .i64 i.n)):=fun w' hb=>by
    have y:=(hb.block _ (hLt gX)).trans gX;exact ⟨cell_of y 0,cell_of y 1,cell_of y 2,cell_of y 3,cell_of y 4,cell_of y 5,cell_of y 6⟩
  obtain ⟨r,hr⟩:∃ r,ov i=r:=⟨_,rfl⟩;have HRo:Hid (ov i=r):=hr;have HC:Hid (Calls Tryz.prog 111 #[.agg #[.int .i64 i.lo,.int .i64 i.hi,.int .u8 (wd i.f 0:Int),.int .u8 (wd i.f 1:Int),.int .u8 (wd i.f 2:Int),.int .u8 (wd i.f 3:Int),.int .i64 i.n]] X fun e w'=>e=.returned (.bool r)/\Below X.heap.size X w'):=by rw [<-hr];exact isOver_any i hok X
  have HHl:Hid (∀ w',Below w2.heap.size w2 w'->Calls Tryz.prog 113 #[.agg #[.slice pa P.length pc,.slice ga G.length gc],.agg #[.int .i64 i.lo,.int .i64 i.hi,.int .u8 (wd i.f 0:Int),.int .u8 (wd i.f 1:Int),.int .u8 (wd i.f 2:Int),.int .u8 (wd i.f 3:Int),.int .i64 i.n]] w' fun e w''=>∃ v,e=.returned (.agg #[.int .i64 i.lo,.int .i64 i.hi,v])/\Hid (w''.ownsRow w'.heap.size 3 1 v (P.filter fun x=>i.f x.toNat).length ((P.filter fun x=>i.f x.toNat).map (.int .i64)))/\Below w'.heap.size w' w''):=fun w' hb=>hall_any pa pc P _ i w' (HP2.out w' hb) HPi.out hok HPn.out
  rw [hr] at HN;clear hr hok;obtain ⟨t0,t1,t2,t3,t4,t5,t6⟩:=HGX.out X (Below.refl _ _);go_upto_region 5 with fail
  try rw [hX]
  clear hX hbX gX q0 q1 q2 q3 q4 q5 q6
  cases r with
  | false =>
    have HN2:Hid ((L.take (k+1)).any ov=false):=by show _=_;rw [HN.out,HA.out];rfl
    go_wp2_with (go_at_call 111;refine cA HC.out ?_;rintro e w4 ⟨rfl,hb4⟩);go_roundw
    case rel=>exact ⟨k+1,by go_num,hkn,HN2,bl_next HBX.out hb4⟩
    case measure=>simp [intOf];omega
  | true =>
    go_upto_region 6 with (go_at_call 111;refine cA HC.out ?_;rintro e w4 ⟨rfl,hb4⟩);have HB4:Hid (Below w2.heap.size w2 w4):=bl_next HBX.out hb4;obtain ⟨m0,m1,m2,m3,m4,m5,m6⟩:=HGX.out w4 hb4;have y:=HgV2.out w4 HB4.out;have z0:=cell_of y 0;have z1:=cell_of y 1;clear y hb4 t0 t1 t2 t3 t4 t5 t6;go_wp2_with (go_at_call 113;refine cA (HHl.out _ HB4.out) ?_;rintro e w5 ⟨v5,rfl,ho5,hb5⟩;(have HB5:Hid (Below w2.heap.size w2 w5):=bl_next HB4.out hb5);clear hb5;(have y:=HW2.out w5 HB5.out);(have HY:Hid (w5.heap[w.heap.size]?=some (.cells #[.int .i64 0,.int .i64 0,.slice none 0 0] 58 (0,0))):=y);(have s0:=cell_of y 0);(have s1:=cell_of y 1);(have s2:=cell_of y 2);(have sz:∀ i,w5.frozen? ⟨w.heap.size,i,none⟩=false:=fun i=>frozen_of y i);clear y;(obtain ⟨a5,c5,e5⟩:=own_slice ho5.out);subst e5)
    refine bodyPost_ret (v:=.tuple #[.agg #[.int .i64 i.lo,.int .i64 i.hi,.slice a5 (P.filter fun x=>i.f x.toNat).length c5],.bool true]) (res_ct res10 _ _ w.heap.size 58 #[.int .i64 i.lo,.int .i64 i.hi,.slice a5 (P.filter fun x=>i.f x.toNat).length c5] (0,0) _ rfl (set3h HY.out _ _ _) Tryz.underlying58 rfl info37s) rfl ?_;refine HOu2.out _ _ ((((HBw2.out _ HB5.out).setCell (Nat.le_refl _) _).setCell (Nat.le_refl _) _).setCell (Nat.le_refl _) _) (.inr ⟨i,HM.out,HRo.out,_,rfl,?_⟩)
    refine own_ints (B:=w4.heap.size) (own_off ho5.out (fun g hg e=>?_) ((Off.set (S:=fun b=>b=w.heap.size) _ rfl).trans ((Off.set (S:=fun b=>b=w.heap.size) _ rfl).trans (Off.set (S:=fun b=>b=w.heap.size) _ rfl)))) (by
      unfold maxLen;have:=List.length_filter_le (fun x:Int=>i.f x.toNat) P;have:=HPn.out
      omega)
    have:=(ho5.out.lt g hg).1;have:=Hlt.out;have:=HB4.out.size;omega
end Go.Proofs.YtjnckfchgcmmpaaGreatDoor
namespace Go.Proofs.YtjnckfchgcmmpaaGreatDoor
open Go.RowKit
def CtR (D:List Dm) (xs:List Int) (l:List Cz) (ok:Bool):Prop:=∃ Gs,Gs.Perm (hcG D xs)/\Gs.Pairwise (fun a b=>a.hi<=b.hi)/\(((crL Gs (hcG D xs)).any ov=true/\l=[]/\ok=false)∨((crL Gs (hcG D xs)).any ov=false/\l=hcZ D xs (crL Gs (hcG D xs))/\ok=true))
end Go.Proofs.YtjnckfchgcmmpaaGreatDoor
namespace Go.Proofs.YtjnckfchgcmmpaaGreatDoor
theorem pigeon:∀ (n:Nat) (a:Int) (l:List Int),l.Nodup->(∀ v∈l,a<=v/\v<a+(n:Int))->l.length<=n
  | 0, a, l, _, h => by
    cases l with
    | nil=>exact Nat.le_refl _
    | cons v l =>
      have:=h v List.mem_cons_self;omega
  | n + 1, a, l, hd, h => by
    have h1:=pigeon n a (l.filter fun v=>decide (v≠a+(n:Int))) (hd.filter _) (fun v hv=>by
      obtain ⟨hm,hn⟩:=List.mem_filter.1 hv;have:=h v hm;have:=of_decide_eq_true hn
      omega)
    have h2:l.length<=(l.filter fun v=>decide (v≠a+(n:Int))).length+1:=by
      clear h1 h
      induction l with
      | nil=>simp
      | cons v l ih =>
        obtain ⟨hv,hd2⟩:=List.nodup_cons.1 hd;have ih:=ih hd2
        by_cases e:v=a+(n:Int)
        · have:(l.filter fun v=>decide (v≠a+(n:Int)))=l:=by
            rw [List.filter_eq_self];intro u hu;simp;intro e2;exact hv (by rw [e,<-e2];exact hu)
          rw [List.filter_cons,if_neg (by simp [e]),this,List.length_cons];exact Nat.le_refl _
        · rw [List.filter_cons,if_pos (by simp [e]),List.length_cons,List.length_cons]
          omega
    omega
def valAt (vs:List Int) (y:Int):Int:=vs.getD y.toNat 0
theorem dif_pair {xs vs:List Int} (h:Dif xs vs):(plP vs.length xs).Pairwise fun x y=>valAt vs x≠valAt vs y:=by
  have h1:xs.Pairwise fun x y=>isP vs.length x=true->isP vs.length y=true->valAt vs x≠valAt vs y:=by
    rw [List.pairwise_iff_getElem];intro i j hi hj hij hx hy he;have hc:=h j i hj hij;have e1:xs.getD j 0=xs[j]:=by rw [List.getD_eq_getElem?_getD,List.getElem?_eq_getElem hj];rfl
    have e2:xs.getD i 0=xs[i]:=by rw [List.getD_eq_getElem?_getD,List.getElem?_eq_getElem hi];rfl
    rw [e1,e2] at hc;unfold isP at hx hy;unfold clash at hc;unfold valAt at he;simp at hx hy hc;exact hc hy.1 hy.2 hx.1 hx.2 he.symm
  have h2:(plP vs.length xs).Pairwise fun x y=>isP vs.length x=true->isP vs.length y=true->valAt vs x≠valAt vs y:=h1.filter _
  have h3:∀ x∈plP vs.length xs,isP vs.length x=true:=fun x hx=>(List.mem_filter.1 hx).2
  exact List.Pairwise.imp_of_mem (fun {x y} hx hy hr=>hr (h3 x hx) (h3 y hy)) h2
theorem not_dif {xs vs:List Int} (h:¬ Dif xs vs):∃ v,2<=(plP vs.length xs).countP fun y=>decide (valAt vs y=v):=by
  have:∃ i k,i<xs.length/\k<i/\clash vs (xs.getD i 0) (xs.getD k 0)=true:=by
    apply Classical.byContradiction
    intro hc
    apply h
    intro i k hi hk
    cases hcl:clash vs (xs.getD i 0) (xs.getD k 0) with
    | false=>rfl
    | true=>exact absurd ⟨i,k,hi,hk,hcl⟩ hc
  obtain ⟨i,k,hi,hk,hc⟩:=this;have hk2:k<xs.length:=by omega
  have e1:xs.getD i 0=xs[i]:=by rw [List.getD_eq_getElem?_getD,List.getElem?_eq_getElem hi];rfl
  have e2:xs.getD k 0=xs[k]:=by rw [List.getD_eq_getElem?_getD,List.getElem?_eq_getElem hk2];rfl
  rw [e1,e2] at hc;unfold clash at hc;simp at hc;obtain ⟨c1,c2,c3,c4,c5⟩:=hc;refine ⟨valAt vs xs[i],?_⟩;unfold plP;rw [List.countP_filter];have hsp:xs=xs.take i++xs[i] :: xs.drop (i+1):=by
    rw [<-List.drop_eq_getElem_cons hi,List.take_append_drop]
  have hq:∀ y,(decide (valAt vs y=valAt vs xs[i])&&isP vs.length y)=true↔(valAt vs y=valAt vs xs[i]/\0<=y/\y<(vs.length:Int)):=fun y=>by
    unfold isP;simp
  have hq1:(decide (valAt vs xs[i]=valAt vs xs[i])&&isP vs.length xs[i])=true:=(hq _).2 ⟨rfl,c1,c2⟩;have hpos:0<(xs.take i).countP fun y=>decide (valAt vs y=valAt vs xs[i])&&isP vs.length y:=by
    rw [List.countP_pos_iff];refine ⟨xs[k],?_,(hq _).2 ⟨c5.symm,c3,c4⟩⟩;rw [List.mem_take_iff_getElem];exact ⟨k,by omega,rfl⟩
  have hge:xs.countP (fun y=>decide (valAt vs y=valAt vs xs[i])&&isP vs.length y)=(xs.take i).countP (fun y=>decide (valAt vs y=valAt vs xs[i])&&isP vs.length y)+(xs[i] :: xs.drop (i+1)).countP (fun y=>decide (valAt vs y=valAt vs xs[i])&&isP vs.length y):=by
    rw [<-List.countP_append,<-hsp]
  rw [hge,List.countP_cons,if_pos hq1];omega
theorem no_over {D:List Dm} {xs vs:List Int} (hF:Fines D) (hl:Lies D vs) (hd:Dif xs vs) (a t:Int):¬ OF D (plP D.length xs) a t:=by
  rintro ⟨h1,h2⟩;have hlen:vs.length=D.length:=hl.len;have hp:=dif_pair hd;rw [hlen] at hp;have hn:(((plP D.length xs).filter (inW D a t)).map (valAt vs)).Nodup:=by
    unfold List.Nodup;rw [List.pairwise_map];exact hp.filter _
  have hin:∀ v∈((plP D.length xs).filter (inW D a t)).map (valAt vs),a<=v/\v<=t:=fun v hv=>by
    obtain ⟨y,hy,rfl⟩:=List.mem_map.1 hv;obtain ⟨hy1,hy2⟩:=List.mem_filter.1 hy;have h0:=plP_in hy1;have hx:y.toNat<D.length:=by omega
    obtain ⟨v,hv1,hv2⟩:=hl.get y.toNat _ (dmAt_get hx);have e:valAt vs y=v:=by
      unfold valAt;rw [List.getD_eq_getElem?_getD,hv1];rfl
    have hf:=dmAt_fine hF hx;have:=hf.least v hv2;have:=hf.most v hv2;have:=inW_iff.1 hy2;rw [e];omega
  have hlc:(((plP D.length xs).filter (inW D a t)).map (valAt vs)).length=wc D (plP D.length xs) a t:=by
    rw [List.length_map];unfold wc;rw [List.countP_eq_length_filter]
  obtain ⟨y,hy,hyi⟩:=wc_pos h1;have hat:=hin (valAt vs y) (List.mem_map.2 ⟨y,List.mem_filter.2 ⟨hy,hyi⟩,rfl⟩);have:=pigeon (t-a+1).toNat a _ hn (fun v hv=>by have:=hin v hv;omega);omega
theorem ends_two {D:List Dm} {xs vs:List Int} {l:List Cz} {ok:Bool} (hF:Fines D) (hl:Lies D vs) (ho:Ones D) (hD:D.length<=32) (h:CtR D xs l ok):(ok=true↔Dif xs vs)/\l=[]:=by
  obtain ⟨Gs,hp,hs,h⟩:=h;have hlen:vs.length=D.length:=hl.len;have hone:∀ x,x<D.length->(dmAt D x).lo=(dmAt D x).hi/\vs.getD x 0=(dmAt D x).lo:=fun x hx=>by
    have hf:=dmAt_fine hF hx;have e:=hf.one.1 (ho x _ (dmAt_get hx));obtain ⟨v,hv1,hv2⟩:=hl.get x _ (dmAt_get hx);refine ⟨e,?_⟩;rw [List.getD_eq_getElem?_getD,hv1];have:=hf.least v hv2;have:=hf.most v hv2;show v=_;omega
  by_cases hd:Dif xs vs
  · have n0:(crL Gs (hcG D xs)).any ov=false:=by
      rw [Bool.eq_false_iff];intro hc;obtain ⟨a,t,ho⟩:=(over_iff hD hp hs).1 hc;exact no_over hF hl hd a t ho
    have h1:l=hcZ D xs (crL Gs (hcG D xs))/\ok=true:=by
      refine h.elim (fun h1=>?_) (fun h1=>h1.2);have h2:=h1.1;rw [n0] at h2;exact absurd h2 (by decide)
    refine ⟨⟨fun _=>hd,fun _=>h1.2⟩,?_⟩;rw [h1.1,List.eq_nil_iff_forall_not_mem];intro z hz;unfold hcZ at hz;rw [List.mem_flatMap] at hz;obtain ⟨g,hg,hz⟩:=hz;unfold czL at hz;rw [List.mem_flatMap] at hz;obtain ⟨v,hva,hz⟩:=hz;obtain ⟨m1,m2,m3,m4,m5,m6⟩:=hcG_mem hg;have hf:=dmAt_fine hF m2;have hvh:=(hf.all v).1 hva;have l1:=hf.least v hvh;have l2:=hf.most v hvh;obtain ⟨_,_,i,hi,hif,hlo,hhi,_⟩:=cz1_mem (by rw [m3];exact l1) hz;obtain ⟨a,t,hie,_,_⟩:=crowd_is hD hp hs hi;rw [hie,ivO_f hD (cntP_pos m6)] at hif;have hlo2:a<=v:=by rw [hie] at hlo;exact hlo
    have hhi2:v<=t:=by rw [hie] at hhi;exact hhi
    have e:=(hone g.x m2).1;have:inW D a t (g.x:Int)=true:=inW_iff.2 ⟨by rw [Int.toNat_natCast];omega,by rw [Int.toNat_natCast];omega⟩;rw [this] at hif;exact absurd hif (by decide)
  · obtain ⟨v,hv⟩:=not_dif hd
    rw [hlen] at hv;have hw:2<=wc D (plP D.length xs) v v:=by
      refine Nat.le_trans hv (List.countP_mono_left fun y hy hh=>?_);have h0:=plP_in hy;have hx:y.toNat<D.length:=by omega
      obtain ⟨e1,e2⟩:=hone y.toNat hx;have e3:vs.getD y.toNat 0=v:=of_decide_eq_true hh;exact inW_iff.2 ⟨by omega,by omega⟩
    have ho:OF D (plP D.length xs) v v:=⟨by omega,by omega⟩;have n1:=(over_iff hD hp hs).2 ⟨v,v,ho⟩;have h1:l=[]/\ok=false:=by
      refine h.elim (fun h1=>h1.2) (fun h1=>?_);have h2:=h1.1;rw [n1] at h2;exact absurd h2 (by decide)
    refine ⟨⟨fun hk=>?_,fun hk=>absurd hk hd⟩,h1.1⟩;rw [h1.2] at hk;exact absurd hk (by decide)
end Go.Proofs.YtjnckfchgcmmpaaGreatDoor
namespace Go.Proofs.YtjnckfchgcmmpaaGreatDoor
open Go.RowKit
set_option maxRecDepth 10000
set_option maxHeartbeats 8000000
def CzT (l:List Cz) (T:List Tl):Prop:=T.map (fun t=>(t.k,t.x,t.v,t.lo,t.hi))=l.map (fun z=>(3,(z.x:Int),z.v,z.lo,z.hi))
def DdOut (D:List Dm) (xs:List Int) (w:World) (e:Ending) (w':World):Prop:=∃ l ok T,CtR D xs l ok/\CzT l T/\TdOut T ok w e w'
theorem cz_tl {w:World} {B:Nat} {Z:List Cz}:∀ {us:List Value},us.length=Z.length->(∀ j (h:j<us.length) (h2:j<Z.length),w.ownsRow B 3 1 us[j] Z[j].xs.length (Z[j].xs.map (.int .i64)))->∃ T:List Tl,CzT Z T/\T.length=Z.length/\tls T=czs Z us:=by
  induction Z with
  | nil=>intro us h _;exact ⟨[],rfl,rfl,by simp [tls,czs]⟩
  | cons z Z ih =>
    intro us h he
    cases us with
    | nil=>simp at h
    | cons u us =>
      obtain ⟨T,h1,h2,h3⟩:=ih (us:=us) (by simpa using h) (fun j h1 h2=>he (j+1) (by simpa using h1) (by simpa using h2));obtain ⟨a,cap,e,_⟩:=egOwn_slice (he 0 (by simp) (by simp));simp only [List.getElem_cons_zero] at e;refine ⟨⟨0,3,(z.x:Int),z.v,z.lo,z.hi,a,z.xs.length,cap⟩ :: T,?_,by simp [h2],?_⟩
      · unfold CzT at h1 ⊢
        rw [List.map_cons,List.map_cons,h1]
      · have e1:czs (z :: Z) (u :: us)=z.cells u++czs Z us:=by simp [czs]
        have e2:tls (⟨0,3,(z.x:Int),z.v,z.lo,z.hi,a,z.xs.length,cap⟩ :: T)=Tl.cells ⟨0,3,(z.x:Int),z.v,z.lo,z.hi,a,z.xs.length,cap⟩++tls T:=by simp [tls]
        rw [e1,e2,h3,e];rfl
theorem egDiff_any (B p:Nat) (nv mv:Value) (s:St) (w:World) (hS:StAt B w p nv mv s) (hA:Alls s) (htz:Tz w) (c:Md.Cn) (vt vx vb vr:Value) (hC:CnAt w c vt vx vb vr) (hx:c.xs.length<=1000000):Calls Tryz.prog 76 #[cnVal c vt vx vb vr,.pointer (some ⟨p,0,none⟩)] w (DdOut s.now c.xs w):=by
  have hw0:0<w.heap.size:=Nat.lt_of_le_of_lt (Nat.zero_le p) hS.lt;obtain ⟨ta,tc,rfl,_⟩:=id hC.t;obtain ⟨xa,xc,rfl,_⟩:=id hC.x;obtain ⟨ba,bc,rfl,_⟩:=id hC.b;obtain ⟨ra,rc,rfl,_⟩:=id hC.r;obtain ⟨W,hW⟩:∃ W,w.alloc (.cells #[.int .i64 c.kind,.int .i64 c.op,.slice ta c.terms.length tc,.int .i64 c.k,.int .i64 c.v,.int .i64 c.x,.int .i64 c.y,.slice xa c.xs.length xc,.slice ba c.table.length bc,.slice ra c.rows.length rc] 56)=W:=⟨_,rfl⟩;have hb0:Below w.heap.size w W:=bAe hW;have g0:W.heap[w.heap.size]?=some (.cells #[.int .i64 c.kind,.int .i64 c.op,.slice ta c.terms.length tc,.int .i64 c.k,.int .i64 c.v,.int .i64 c.x,.int .i64 c.y,.slice xa c.xs.length xc,.slice ba c.table.length bc,.slice ra c.rows.length rc] 56 (0,0)):=hAe hW
  have HCu:Hid (Calls Tryz.prog 100 #[.slice xa c.xs.length xc,.pointer (some ⟨p,0,none⟩)] W (HcOut s.now c.xs W)):=cutsH_any xa xc c.xs B p nv mv s W (hC.x.below hb0) hx (hS.below hb0) (htz.below hb0 hw0) (Nat.lt_of_lt_of_le hw0 hb0.size) (fun d hd=>fine_of (hA d hd).1 (hA d hd).2) (width hA);have p7:W.cell? ⟨w.heap.size,7,none⟩=some (.slice xa c.xs.length xc):=cell_of g0 7;have HB0:Hid (Below w.heap.size w W):=hb0;have HE:Hid (∀ e w',HcOut s.now c.xs W e w'->∃ v ok,e=.returned (.tuple #[v,.bool ok])/\DdOut s.now c.xs w e w'):=fun e w' h=>by
    obtain ⟨Gs,h1,h2,hb,h⟩:=h;rcases h with ⟨h3,rfl⟩ | ⟨h3,v,us,rfl,hz⟩
    · exact ⟨_,_,rfl,[],false,[],⟨Gs,h1,h2,.inl ⟨h3,rfl,rfl⟩⟩,rfl,_,rfl,World.ownsRow_nil _ _ _ _,hb0.trans (hb.mono hb0.size)⟩
    · obtain ⟨T,t1,t2,t3⟩:=cz_tl hz.len hz.each
      refine ⟨_,_,rfl,_,true,T,⟨Gs,h1,h2,.inr ⟨h3,rfl,rfl⟩⟩,t1,_,rfl,?_,hb0.trans (hb.mono hb0.size)⟩;rw [t2,t3];exact own_base hz.row hb0.size
  clear g0 hb0 hS hA htz hC hw0;unfold cnVal;go_enter Tryz.func76,Tryz.ntmps76;go_upto_region 1 with fail
  try rw [hW]
  clear hW;go_wp2_with (go_at_call 100;refine cA HCu.out ?_;intro e w1 hh;(obtain ⟨v1,ok1,rfl,hD⟩:=HE.out _ _ hh));go_ret2;exact hD
theorem egNoBlame_any (c:Md.Cn) (vt vx vb vr pv:Value) (w:World):Calls Tryz.prog 79 #[cnVal c vt vx vb vr,pv] w fun e w'=>e=.returned (.agg #[.int .i64 0,.int .i64 0,.slice none 0 0])/\Below w.heap.size w w':=by
  obtain ⟨W,hW⟩:∃ W,w.alloc (.cells #[.int .i64 c.kind,.int .i64 c.op,vt,.int .i64 c.k,.int .i64 c.v,.int .i64 c.x,.int .i64 c.y,vx,vb,vr] 56)=W:=⟨_,rfl⟩;obtain ⟨V,hV⟩:∃ V,W.alloc (.cells #[.int .i64 0,.int .i64 0,.slice none 0 0] 58)=V:=⟨_,rfl⟩;have hb0:Below w.heap.size w W:=bAe hW;have hb1:Below W.heap.size W V:=bAe hV;have g1:V.heap[W.heap.size]?=some (.cells #[.int .i64 0,.int .i64 0,.slice none 0 0] 58 (0,0)):=hAe hV;have hbw:Below w.heap.size w V:=bl_next hb0 hb1;obtain ⟨Z,hZ⟩:∃ Z,(((V.setCell ⟨W.heap.size,0,none⟩ (.int .i64 0)).setCell ⟨W.heap.size,1,none⟩ (.int .i64 0)).setCell ⟨W.heap.size,2,none⟩ (.slice none 0 0))=Z:=⟨_,rfl⟩
  have gZ:Z.heap[W.heap.size]?=some (.cells #[.int .i64 0,.int .i64 0,.slice none 0 0] 58 (0,0)):=by rw [<-hZ];exact heap_setCell_same _ _ 2 _ 58 _ (heap_setCell_same _ _ 1 _ 58 _ (heap_setCell_same _ _ 0 _ 58 _ g1))
  obtain ⟨z0,z1,z2⟩:V.frozen? ⟨W.heap.size,0,none⟩=false/\V.frozen? ⟨W.heap.size,1,none⟩=false/\V.frozen? ⟨W.heap.size,2,none⟩=false:=⟨by simp [World.frozen?,g1],by simp [World.frozen?,g1],by simp [World.frozen?,g1]⟩;obtain ⟨s0,s1,s2⟩:_/\_/\_:=⟨cell_of g1 0,cell_of g1 1,cell_of g1 2⟩;have HB:Hid (Below w.heap.size w Z):=by
    show Below _ _ _;rw [<-hZ];exact ((hbw.setCell hb0.size _).setCell hb0.size _).setCell hb0.size _
  obtain ⟨k0,k1,k2⟩:_/\_/\_:=⟨cell_of gZ 0,cell_of gZ 1,cell_of gZ 2⟩;unfold cnVal;clear hb0 hb1 g1 hbw gZ;go_enter Tryz.func79,Tryz.ntmps79;go_upto_region 1 with fail
  try rw [hW]
  try rw [hV]
  clear hW hV;go_wp2_with fail
  try rw [hZ]
  exact bodyPost_ret (by simp [results,Tryz.results79,go_sem,k0,k1,k2];try rfl) rfl ⟨rfl,HB.out⟩
def BmOut (w:World) (e:Ending) (w':World):Prop:=∃ lo hi a n cp,e=.returned (.agg #[.int .i64 lo,.int .i64 hi,.slice a n cp])/\Below w.heap.size w w'
theorem cells3 {w:World} {N:Nat} {a0 a1 a2:Value} {t:TypeId} (h:w.heap[N]?=some (.cells #[a0,a1,a2] t (0,0))):w.cell? ⟨N,0,none⟩=some a0/\w.cell? ⟨N,1,none⟩=some a1/\w.cell? ⟨N,2,none⟩=some a2:=⟨cell_of h 0,cell_of h 1,cell_of h 2⟩
theorem egSet3 {w:World} {N:Nat} {a0 a1 a2:Value} {t:TypeId} (h:w.heap[N]?=some (.cells #[a0,a1,a2] t (0,0))) (b0 b1 b2:Value):(((w.setCell ⟨N,0,none⟩ b0).setCell ⟨N,1,none⟩ b1).setCell ⟨N,2,none⟩ b2).heap[N]?=some (.cells #[b0,b1,b2] t (0,0)):=
  heap_setCell_same _ _ 2 _ t _ (heap_setCell_same _ _ 1 _ t _ (heap_setCell_same _ _ 0 _ t _ h))
theorem egBlame_any (B p:Nat) (nv mv:Value) (s:St) (w:World) (hS:StAt B w p nv mv s) (htz:Tz w) (c:Md.Cn) (vt vx vb vr:Value) (hC:CnAt w c vt vx vb vr) (hx:c.xs.length<=1000000):Calls Tryz.prog 77 #[cnVal c vt vx vb vr,.pointer (some ⟨p,0,none⟩)] w (BmOut w):=by
  have hw0:0<w.heap.size:=Nat.lt_of_le_of_lt (Nat.zero_le p) hS.lt;obtain ⟨ta,tc,rfl,_⟩:=id hC.t;obtain ⟨xa,xc,rfl,_⟩:=id hC.x;obtain ⟨ba,bc,rfl,_⟩:=id hC.b;obtain ⟨ra,rc,rfl,_⟩:=id hC.r;obtain ⟨W,hW⟩:∃ W,w.alloc (.cells #[.int .i64 c.kind,.int .i64 c.op,.slice ta c.terms.length tc,.int .i64 c.k,.int .i64 c.v,.int .i64 c.x,.int .i64 c.y,.slice xa c.xs.length xc,.slice ba c.table.length bc,.slice ra c.rows.length rc] 56)=W:=⟨_,rfl⟩;obtain ⟨V,hV⟩:∃ V,W.alloc (.cells #[.int .i64 0,.int .i64 0,.slice none 0 0] 58)=V:=⟨_,rfl⟩;have hb0:Below w.heap.size w W:=bAe hW;have hb1:Below W.heap.size W V:=bAe hV
  have g0:W.heap[w.heap.size]?=some (.cells #[.int .i64 c.kind,.int .i64 c.op,.slice ta c.terms.length tc,.int .i64 c.k,.int .i64 c.v,.int .i64 c.x,.int .i64 c.y,.slice xa c.xs.length xc,.slice ba c.table.length bc,.slice ra c.rows.length rc] 56 (0,0)):=hAe hW;have g1:V.heap[W.heap.size]?=some (.cells #[.int .i64 0,.int .i64 0,.slice none 0 0] 58 (0,0)):=hAe hV;have hbV:Below w.heap.size w V:=bl_next hb0 hb1;have HFa:Hid (Calls Tryz.prog 101 #[.slice xa c.xs.length xc,.pointer (some ⟨p,0,none⟩)] V (HfOut s.now c.xs V)):=fails_any xa xc c.xs B p nv mv s V (hC.x.below hbV) hx (hS.below hbV) (htz.below hbV hw0) (Nat.lt_of_lt_of_le hw0 hbV.size);have HE:Hid (∀ e w',HfOut s.now c.xs V e w'->∃ lo hi a n cp b,e=.returned (.tuple #[.agg #[.int .i64 lo,.int .i64 hi,.slice a n cp],.bool b])/\Below V.heap.size V w'):=fun e w' h=>by
    obtain ⟨Gs,_,_,hb,h⟩:=h;rcases h with ⟨_,rfl⟩ | ⟨i,_,_,v,rfl,hi⟩
    · exact ⟨_,_,_,_,_,_,rfl,hb⟩
    · obtain ⟨a,cp,rfl,_⟩:=hi
      exact ⟨_,_,_,_,_,_,rfl,hb⟩
  have p7:V.cell? ⟨w.heap.size,7,none⟩=some (.slice xa c.xs.length xc):=cell_of ((hb1.block _ (hLt g0)).trans g0) 7;have HBV:Hid (Below w.heap.size w V):=hbV;obtain ⟨N1,hN1⟩:∃ N,W.heap.size=N:=⟨_,rfl⟩;rw [hN1] at g1;have HG1:Hid (V.heap[N1]?=some (.cells #[.int .i64 0,.int .i64 0,.slice none 0 0] 58 (0,0))/\w.heap.size<=N1/\N1<V.heap.size):=⟨g1,by have:=hb0.size;omega,(hLt g1)⟩;unfold cnVal;clear g0 g1 hb0 hb1 hbV hS htz hC hw0;go_enter Tryz.func77,Tryz.ntmps77;go_upto_region 1 with fail
  try rw [hW]
  try rw [hV]
  try rw [hN1]
  clear hW hV hN1;go_upto_region 2 with (go_at_call 101;refine cA HFa.out ?_;intro e w1 hh;(obtain ⟨lo,hi,a,n,cp,b,rfl,hb1⟩:=HE.out _ _ hh));obtain ⟨X,hX⟩:∃ X,w1.alloc (.cells #[.int .i64 lo,.int .i64 hi,.slice a n cp] 58)=X:=⟨_,rfl⟩;have hbX:Below w1.heap.size w1 X:=bAe hX;have gX:X.heap[w1.heap.size]?=some (.cells #[.int .i64 lo,.int .i64 hi,.slice a n cp] 58 (0,0)):=hAe hX;have hbVX:Below V.heap.size V X:=bl_next hb1 hbX;have g2:=(hbVX.block N1 HG1.out.2.2).trans HG1.out.1;obtain ⟨x0,x1,x2⟩:=cells3 gX;obtain ⟨z0,z1,z2⟩:X.frozen? ⟨N1,0,none⟩=false/\X.frozen? ⟨N1,1,none⟩=false/\X.frozen? ⟨N1,2,none⟩=false:=⟨by simp [World.frozen?,g2],by simp [World.frozen?,g2],by simp [World.frozen?,g2]⟩;obtain ⟨r0,r1,r2⟩:=cells3 g2
  obtain ⟨Z,hZ⟩:∃ Z,(((X.setCell ⟨N1,0,none⟩ (.int .i64 lo)).setCell ⟨N1,1,none⟩ (.int .i64 hi)).setCell ⟨N1,2,none⟩ (.slice a n cp))=Z:=⟨_,rfl⟩;have gZ:Z.heap[N1]?=some (.cells #[.int .i64 lo,.int .i64 hi,.slice a n cp] 58 (0,0)):=by rw [<-hZ];exact egSet3 g2 _ _ _
  have HB:Hid (Below w.heap.size w Z):=by
    show Below _ _ _;rw [<-hZ];exact (((HBV.out.trans (hbVX.mono HBV.out.size)).setCell HG1.out.2.1 _).setCell HG1.out.2.1 _).setCell HG1.out.2.1 _
  obtain ⟨k0,k1,k2⟩:=cells3 gZ;try rw [hX]
  clear hX hbX gX hbVX g2 gZ hb1 p7 HFa HE;go_wp2_with fail
  try rw [hZ]
  exact bodyPost_ret (v:=.agg #[.int .i64 lo,.int .i64 hi,.slice a n cp]) (by simp [results,Tryz.results77,go_sem,k0,k1,k2];try rfl) rfl ⟨_,_,_,_,_,rfl,HB.out⟩
def ToldR (D:List Dm) (c:Md.Cn) (T:List Tl) (ok:Bool):Prop:=if c.kind=3 then ∃ l,CtR D c.xs l ok/\CzT l T else T=(cutR D c).1.map plT/\ok=(cutR D c).2
theorem enters76:Enters Tryz.prog 76:=enters_of Tryz.func76 (by kernel_rfl) rfl
theorem enters77:Enters Tryz.prog 77:=enters_of Tryz.func77 (by kernel_rfl) rfl
theorem enters78:Enters Tryz.prog 78:=enters_of Tryz.func78 (by kernel_rfl) rfl
theorem enters79:Enters Tryz.prog 79:=enters_of Tryz.func79 (by kernel_rfl) rfl
theorem egCall_rule (c:Md.Cn) (vt vx vb vr:Value) (pl:Int) (B p:Nat) (nv mv:Value) (s:St) (w:World) (hS:StAt B w p nv mv s) (hA:Alls s) (htz:Tz w) (hC:CnAt w c vt vx vb vr) (hx:c.xs.length<=1000000) (hl:c.kind≠3->(cutR s.now c).1.length<=1000000) (hz:c.kind=3->∀ l ok,CtR s.now c.xs l ok->l.length<=1000000):Calls Tryz.prog 32 #[ruVal c vt vx vb vr pl,.pointer (some ⟨p,0,none⟩)] w (EcOut B p nv mv s pl (ToldR s.now c) w):=by
  have hw0:0<w.heap.size:=Nat.lt_of_le_of_lt (Nat.zero_le p) hS.lt;obtain ⟨ta,tc,rfl,_⟩:=id hC.t;obtain ⟨xa,xc,rfl,_⟩:=id hC.x;obtain ⟨ba,bc,rfl,_⟩:=id hC.b;obtain ⟨ra,rc,rfl,_⟩:=id hC.r;unfold ruVal
  by_cases hk:c.kind=3
  · have e1:egC c.kind=76:=by simp [egC,hk]
    have e2:egB c.kind=77:=by simp [egB,hk]
    rw [e1,e2];refine egCall_any 76 77 enters76 enters77 _ _ _ _ _ _ pl ta xa ba ra _ tc _ xc _ bc _ rc _ B p nv mv s w hS (fun w' hb=>?_) (fun w' hb=>?_)
    · refine (egDiff_any B p nv mv s w' (hS.below hb) hA (htz.below hb hw0) c _ _ _ _ (hC.below hb) hx).mono ?_
      rintro e w2 ⟨l,ok,T,h1,h2,h3⟩;refine ⟨T,ok,?_,?_,h3⟩
      · unfold ToldR
        rw [if_pos hk];exact ⟨l,h1,h2⟩
      · have:T.length=l.length:=by
          have:=congrArg List.length h2;simpa using this
        rw [this];exact hz hk l ok h1
    · exact egBlame_any B p nv mv s w' (hS.below hb) (htz.below hb hw0) c _ _ _ _ (hC.below hb) hx
  · have e1:egC c.kind=78:=by simp [egC,hk]
    have e2:egB c.kind=79:=by simp [egB,hk]
    rw [e1,e2];refine egCall_any 78 79 enters78 enters79 _ _ _ _ _ _ pl ta xa ba ra _ tc _ xc _ bc _ rc _ B p nv mv s w hS (fun w' hb=>?_) (fun w' hb=>?_)
    · refine (egPlain_any p nv mv s w' ⟨B,hS.below hb⟩ (fun k hk=>Nat.lt_of_lt_of_le (hS.old hk).1 hb.size) (htz.below hb hw0) c _ _ _ _ (hC.below hb) (hl hk)).mono ?_
      intro e w2 h3;refine ⟨_,_,?_,?_,h3⟩
      · unfold ToldR
        rw [if_neg hk];exact ⟨rfl,rfl⟩
      · rw [List.length_map]
        exact hl hk
    · refine (egNoBlame_any c _ _ _ _ _ w').mono ?_
      rintro e w2 ⟨rfl,hb2⟩;exact ⟨_,_,_,_,_,rfl,hb2⟩
end Go.Proofs.YtjnckfchgcmmpaaGreatDoor
namespace Go.Proofs.YtjnckfchgcmmpaaGreatDoor
open Go.RowKit
def RuleR (rs:List (Md.Cn × Int)) (i:Nat) (s s':St) (dn:List Tl) (is:Bool):Prop:=∃ (h:i<rs.length) (T:List Tl) (ok:Bool),ToldR s.now rs[i].1 T ok/\CallR rs[i].2 T ok s s' dn is
def Reach (R:Nat->St->St->List Tl->Bool->Prop) (n:Nat) (s0:St) (f0 d i f:Nat) (s:St) (acc:List Tl):Prop:=∀ P:Nat->Nat->Nat->St->List Tl->Prop,P 0 0 f0 s0 []->(∀ {d f s acc},P d n f s acc->d<n->P d 0 f s acc)->(∀ {d i f s s' acc dn},P d i (f+1) s acc->i<n->d≠n->R i s s' dn true->P (if dn.length=0 then d+1 else 0) (i+1) f s' (acc++dn))->P d i f s acc
theorem Reach.start {R n s0 f0}:Reach R n s0 f0 0 0 f0 s0 []:=fun _ a _ _=>a
theorem Reach.wrap {R n s0 f0 d f s acc} (h:Reach R n s0 f0 d n f s acc) (e:d<n):Reach R n s0 f0 d 0 f s acc:=fun P a b c=>b (h P a b c) e
theorem Reach.step {R n s0 f0 d i f s s' acc dn} (h:Reach R n s0 f0 d i (f+1) s acc) (e:i<n) (g:d≠n) (r:R i s s' dn true):Reach R n s0 f0 (if dn.length=0 then d+1 else 0) (i+1) f s' (acc++dn):=fun P a b c=>c (h P a b c) e g r
theorem Reach.ind {R n s0 f0} {M:∀ d i f s acc,Reach R n s0 f0 d i f s acc->Prop} (start:M 0 0 f0 s0 [] .start) (wrap:∀ {d f s acc} (h:Reach R n s0 f0 d n f s acc) (e:d<n),M d n f s acc h->M d 0 f s acc (h.wrap e)) (step:∀ {d i f s s' acc dn} (h:Reach R n s0 f0 d i (f+1) s acc) (e:i<n) (g:d≠n) (r:R i s s' dn true),M d i (f+1) s acc h->M _ _ _ _ _ (h.step e g r)) {d i f s acc} (h:Reach R n s0 f0 d i f s acc):M d i f s acc h:=by
  have:=h (fun d i f s acc=>∃ h,M d i f s acc h) ⟨_,start⟩ (fun ⟨h,m⟩ e=>⟨_,wrap h e m⟩) (fun ⟨h,m⟩ e g r=>⟨_,step h e g r m⟩)
  exact this.2
theorem Reach.le {R:Nat->St->St->List Tl->Bool->Prop} {n:Nat} {s0:St} {f0 d i f:Nat} {s:St} {acc:List Tl} (h:Reach R n s0 f0 d i f s acc):d<=n/\i<=n/\f<=f0:=by
  induction h using Reach.ind with
  | start=>exact ⟨Nat.zero_le _,Nat.zero_le _,Nat.le_refl _⟩
  | wrap _ _ ih=>exact ⟨ih.1,Nat.zero_le _,ih.2.2⟩
  | step _ hi hd _ ih =>
    refine ⟨?_,by omega,by omega⟩
    split <;> omega
def RunR (R:Nat->St->St->List Tl->Bool->Prop) (n:Nat) (s0:St) (f0:Nat) (acc:List Tl) (f:Nat) (how:Int) (s:St):Prop:=
  (how=1/\∃ i,Reach R n s0 f0 n i f s acc) ∨
  (how=3/\f=0/\∃ d i,Reach R n s0 f0 d i 0 s acc/\i<n/\d≠n) ∨
  (how=2/\∃ d i s1 acc1 dn,Reach R n s0 f0 d i (f+1) s1 acc1/\i<n/\d≠n/\R i s1 s dn false/\acc=acc1++dn)
theorem cutR_len (D:List Dm) (c:Md.Cn) (hD:D.length<=32):(cutR D c).1.length<=1000000:=by
  unfold cutR
  split
  · split
    · simp
    · rename_i Q _
      have:=cutsUpto_len Q D D.length;show (cutsUpto Q D D.length).length<=_;omega
  · simp
theorem hcZ_len (D:List Dm) (xs:List Int) (L:List Iv):(hcZ D xs L).length<=3072:=by
  unfold hcZ;refine Nat.le_trans (flat_lenG 96 _ (fun g=>Nat.le_trans (czL_len _ g L _) (dAll_len _)) _) ?_;exact Nat.mul_le_mul_right 96 (hcG_len D xs)
theorem ctR_len {D:List Dm} {xs:List Int} {l:List Cz} {ok:Bool} (h:CtR D xs l ok):l.length<=1000000:=by
  have h2:l.length<=3072:=by
    obtain ⟨Gs,_,_,h⟩:=h;rcases h with ⟨_,h,_⟩ | ⟨_,h,_⟩
    · rw [h]
      exact Nat.zero_le _
    · rw [h]
      exact hcZ_len _ _ _
  omega
theorem toldR_len {D:List Dm} {c:Md.Cn} {T:List Tl} {ok:Bool} (hD:D.length<=32) (h:ToldR D c T ok):T.length<=1000000:=by
  unfold ToldR at h
  split at h
  · obtain ⟨l,h1,h2⟩:=h
    have:=ctR_len h1;have e:T.length=l.length:=by
      have:=congrArg List.length h2;simpa using this
    omega
  · rw [h.1,List.length_map]
    exact cutR_len D c hD
theorem callR_len {pl:Int} {T:List Tl} {ok:Bool} {s s':St} {dn:List Tl} {is:Bool} (h:CallR pl T ok s s' dn is):dn.length<=T.length:=by
  rcases h with ⟨_,_,rfl,_⟩ | ⟨_,n,hn,_,rfl,_⟩
  · simp
  · exact Nat.le_trans (dnL_len _ _ _ _) hn
theorem Tz.off {S:Nat->Prop} {w w':World} (h:Tz w) (ho:Off S w w') (h0:¬ S 0) (hs:0<w.heap.size):Tz w':=fun j hj=>(World.cell?_of_block (a:=⟨0,j,none⟩) (ho.block 0 hs h0)).trans (h j hj)
theorem tls_one' (T:List Tl):∀ u∈tls T,u.oneCell'=true:=by
  intro u hu;unfold tls at hu;rw [List.mem_flatMap] at hu;obtain ⟨t,_,ht⟩:=hu;exact tl_one t u ht
theorem own_src {w:World} {B:Nat} {e:TypeId} {sz:Nat} {v:Value} {n:Nat} {xs:List Value} (h:w.ownsRow B e sz v n xs) (h1:∀ u∈xs,u.oneCell'=true):SrcAt w v n sz xs:=by
  have hl:xs.length=n*sz:=h.1;rcases own_cells h with ⟨rfl,hn⟩ | ⟨g,cap,rfl,_,_,_,hc⟩
  · exact ⟨none,0,by rw [hn],hl,h1,(fun _=>hn),fun ad ha=>by cases ha⟩
  · refine ⟨_,cap,rfl,hl,h1,(fun hn=>by cases hn),fun ad ha j u hj=>?_⟩
    injection ha with ha;subst ha;rw [add_none,Nat.zero_add];exact hc j u hj
def RuAt (w:World) (a:Option Addr) (i:Nat) (r:Md.Cn × Int):Prop:=∃ b vt vx vb vr,a=some ⟨b,0,none⟩/\b<w.heap.size/\(∀ j u,(ruCells r.1 vt vx vb vr r.2)[j]?=some u->w.cell? ⟨b,i*13+j,none⟩=some u)/\CnAt w r.1 vt vx vb vr
theorem callR_alls {pl:Int} {T:List Tl} {ok:Bool} {s s':St} {dn:List Tl} {is:Bool} (h:CallR pl T ok s s' dn is) (hA:Alls s):Alls s':=by
  rcases h with ⟨_,rfl,_,_⟩ | ⟨_,n,_,_,_,h⟩
  · exact hA
  · rcases h with ⟨_,_,rfl⟩ | ⟨_,_,_,rfl⟩
    · exact (fold_less _ hA).1
    · exact (fold_less _ hA).1
theorem set11 {w:World} {N:Nat} {a0 a1 a2 a3 a4 a5 a6 a7 a8 a9 a10:Value} {t:TypeId} (h:w.heap[N]?=some (.cells #[a0,a1,a2,a3,a4,a5,a6,a7,a8,a9,a10] t (0,0))) (b4 b5 b6 b7 b8 b9 b10:Value):(((((((w.setCell ⟨N,4,none⟩ b4).setCell ⟨N,5,none⟩ b5).setCell ⟨N,6,none⟩ b6).setCell ⟨N,7,none⟩ b7).setCell ⟨N,8,none⟩ b8).setCell ⟨N,9,none⟩ b9).setCell ⟨N,10,none⟩ b10).heap[N]?=some (.cells #[a0,a1,a2,a3,b4,b5,b6,b7,b8,b9,b10] t (0,0)):=by
  have h4:=heap_setCell_same _ N 4 _ t b4 h;simp only [List.setIfInBounds_toArray,List.set_cons_zero,List.set_cons_succ] at h4;have h5:=heap_setCell_same _ N 5 _ t b5 h4;simp only [List.setIfInBounds_toArray,List.set_cons_zero,List.set_cons_succ] at h5;have h6:=heap_setCell_same _ N 6 _ t b6 h5;simp only [List.setIfInBounds_toArray,List.set_cons_zero,List.set_cons_succ] at h6;have h7:=heap_setCell_same _ N 7 _ t b7 h6;simp only [List.setIfInBounds_toArray,List.set_cons_zero,List.set_cons_succ] at h7;have h8:=heap_setCell_same _ N 8 _ t b8 h7;simp only [List.setIfInBounds_toArray,List.set_cons_zero,List.set_cons_succ] at h8;have h9:=heap_setCell_same _ N 9 _ t b9 h8;simp only [List.setIfInBounds_toArray,List.set_cons_zero,List.set_cons_succ] at h9;have h10:=heap_setCell_same _ N 10 _ t b10 h9
  simp only [List.setIfInBounds_toArray,List.set_cons_zero,List.set_cons_succ] at h10;exact h10
theorem off_set11 {S:Nat->Prop} {w:World} {N:Nat} (hS:S N) (b4 b5 b6 b7 b8 b9 b10:Value):Off S w (((((((w.setCell ⟨N,4,none⟩ b4).setCell ⟨N,5,none⟩ b5).setCell ⟨N,6,none⟩ b6).setCell ⟨N,7,none⟩ b7).setCell ⟨N,8,none⟩ b8).setCell ⟨N,9,none⟩ b9).setCell ⟨N,10,none⟩ b10):=
  ((((((Off.set _ hS).trans (Off.set _ hS)).trans (Off.set _ hS)).trans (Off.set _ hS)).trans (Off.set _ hS)).trans (Off.set _ hS)).trans (Off.set _ hS)
theorem below_set11 {B:Nat} {w0 w:World} {N:Nat} (h:Below B w0 w) (hN:B<=N) (b4 b5 b6 b7 b8 b9 b10:Value):Below B w0 (((((((w.setCell ⟨N,4,none⟩ b4).setCell ⟨N,5,none⟩ b5).setCell ⟨N,6,none⟩ b6).setCell ⟨N,7,none⟩ b7).setCell ⟨N,8,none⟩ b8).setCell ⟨N,9,none⟩ b9).setCell ⟨N,10,none⟩ b10):=
  ((((((h.setCell hN _).setCell hN _).setCell hN _).setCell hN _).setCell hN _).setCell hN _).setCell hN _
theorem frozen11 {w:World} {N:Nat} {cs:Array Value} {t:TypeId} (h:w.heap[N]?=some (.cells cs t (0,0))):w.frozen? ⟨N,4,none⟩=false/\w.frozen? ⟨N,5,none⟩=false/\w.frozen? ⟨N,6,none⟩=false/\w.frozen? ⟨N,7,none⟩=false/\w.frozen? ⟨N,8,none⟩=false/\w.frozen? ⟨N,9,none⟩=false/\w.frozen? ⟨N,10,none⟩=false:=by
  refine ⟨?_,?_,?_,?_,?_,?_,?_⟩ <;> simp [World.frozen?,h]
theorem cells11 {w:World} {N:Nat} {a0 a1 a2 a3 a4 a5 a6 a7 a8 a9 a10:Value} {t:TypeId} (h:w.heap[N]?=some (.cells #[a0,a1,a2,a3,a4,a5,a6,a7,a8,a9,a10] t (0,0))):w.cell? ⟨N,0,none⟩=some a0/\w.cell? ⟨N,4,none⟩=some a4/\w.cell? ⟨N,5,none⟩=some a5/\w.cell? ⟨N,6,none⟩=some a6/\w.cell? ⟨N,7,none⟩=some a7/\w.cell? ⟨N,8,none⟩=some a8/\w.cell? ⟨N,9,none⟩=some a9/\w.cell? ⟨N,10,none⟩=some a10:=
  ⟨cell_of h 0,cell_of h 4,cell_of h 5,cell_of h 6,cell_of h 7,cell_of h 8,cell_of h 9,cell_of h 10⟩
end Go.Proofs.YtjnckfchgcmmpaaGreatDoor
