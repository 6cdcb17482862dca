import Derived.Test.YtjnckfchgcmmpaaGreatDoorJ05
import Derived.Test.YtjnckfchgcmmpaaGreatDoorJ36
import Derived.Test.YtjnckfchgcmmpaaGreatDoorJ13
namespace Go.Proofs.YtjnckfchgcmmpaaGreatDoor
open Go.RowKit
set_option maxRecDepth 10000
set_option maxHeartbeats 8000000
def elB1 (D:List Dm) (c:Md.Cn) (v:Int):Bool:=decide (0<=v)&&(decide (v<(c.table.length:Int))&&(dAt D c.y).has (c.table.getD v.toNat 0))
theorem elC.of {M N lp p q k:Nat} {a0 a1 a2 a3 a4 a5 a6 a7 a8 a9 z:Value} {X w':World} (hM:X.heap[M]?=some (.cells #[.pointer (some ⟨lp,0,none⟩)] 163 (0,0))) (hN:X.heap[N]?=some (.cells #[a0,a1,a2,a3,a4,a5,a6,a7,a8,a9] 56 (0,0))) (hl:X.cell? ⟨lp,0,none⟩=some (.pointer (some ⟨p,0,none⟩))) (hlp:lp<X.heap.size) (hq:X.cell? ⟨q,k,none⟩=some z) (hql:q<X.heap.size) (hb:Below X.heap.size X w') :
    w'.cell? ⟨M,0,none⟩=some (.pointer (some ⟨lp,0,none⟩))/\w'.cell? ⟨N,5,none⟩=some a5/\w'.cell? ⟨N,6,none⟩=some a6/\w'.cell? ⟨N,8,none⟩=some a8/\w'.cell? ⟨lp,0,none⟩=some (.pointer (some ⟨p,0,none⟩))/\w'.cell? ⟨q,k,none⟩=some z/\Below X.heap.size X w':=by
  have h1:=(hb.block _ (hLt hM)).trans hM;have h2:=(hb.block _ (hLt hN)).trans hN;exact ⟨cell_of h1 0,cell_of h2 5,cell_of h2 6,cell_of h2 8,(hb.cell (p:=⟨lp,_,none⟩) hlp).trans hl,(hb.cell (p:=⟨q,_,none⟩) hql).trans hq,hb⟩
theorem el1_any (M N lp p y:Nat) (d:Dm) (tb:List Int) (ba:Option Addr) (bc:Nat) (v:Int) (a0 a1 a2 a3 a4 a5 a7 a9:Value) (w:World) (hM:w.heap[M]?=some (.cells #[.pointer (some ⟨lp,0,none⟩)] 163 (0,0))) (hN:w.heap[N]?=some (.cells #[a0,a1,a2,a3,a4,a5,.int .i64 (y:Int),a7,.slice ba tb.length bc,a9] 56 (0,0))) (hl:w.cell? ⟨lp,0,none⟩=some (.pointer (some ⟨p,0,none⟩))) (ht:IntsAt w (.slice ba tb.length bc) tb) (htl:tb.length<=64)
    (hH:∀ w' u,Below w.heap.size w w'->Calls Tryz.prog 29 #[.pointer (some ⟨p,0,none⟩),.int .i64 (y:Int),.int .i64 u] w' fun e w2=>e=.returned (.bool (d.has u))/\Below w'.heap.size w' w2) :
    Calls Tryz.prog 157 #[.int .i64 v,.pointer (some ⟨N,0,none⟩),.pointer (some ⟨M,0,none⟩)] w fun e w'=>e=.returned (.bool (decide (0<=v)&&(decide (v<(tb.length:Int))&&d.has (tb.getD v.toNat 0))))/\Below w.heap.size w w':=by
  have c8:w.cell? ⟨N,8,none⟩=some (.slice ba tb.length bc):=cell_of hN 8;have hlp:=World.block_lt_of_cell? w _ hl;obtain ⟨a',c',e1,_,hcell⟩:=ht;injection e1 with e1 _ _;subst e1
  by_cases h0:0<=v
  case neg=>
    have e0:decide (0<=v)=false:=by simpa using h0
    rw [e0];clear hM hN hl hcell hH hlp;go_enter Tryz.func157,Tryz.ntmps157;go_wp2_with fail
    go_quiet ((fail))
    rename_i nq _
    go_wp2_with fail
    go_ret;exact ⟨rfl,bl_drewN w nq⟩
  case pos=>
  by_cases h1:v<(tb.length:Int)
  case neg=>
    have e0:decide (0<=v)=true:=by simpa using h0
    have e1:decide (v<(tb.length:Int))=false:=by simpa using h1
    rw [e0,e1];clear hM hN hl hcell hH hlp;go_enter Tryz.func157,Tryz.ntmps157;go_wp2_with fail
    go_quiet ((fail))
    rename_i nq _
    go_wp2_with fail
    go_ret;exact ⟨rfl,bl_drewN w nq⟩
  case pos=>
    have e0:decide (0<=v)=true:=by simpa using h0
    have e1:decide (v<(tb.length:Int))=true:=by simpa using h1
    rw [e0,e1];obtain ⟨m,rfl⟩:∃ m:Nat,v=(m:Int):=⟨v.toNat,by omega⟩;have hm:m<tb.length:=by omega
    obtain ⟨q,off,rfl,hql,hcl⟩:=hcell (by omega);have hz:tb.getD (m:Int).toNat 0=tb[m]:=by rw [Int.toNat_natCast,List.getD_eq_getElem?_getD,List.getElem?_eq_getElem hm];rfl
    have hq:=hcl m hm;rw [hz];obtain ⟨z,hzz⟩:∃ z,tb[m]=z:=⟨_,rfl⟩;rw [hzz] at hq ⊢;have HC:Hid (∀ w',Below w.heap.size w w'->w'.cell? ⟨M,0,none⟩=some (.pointer (some ⟨lp,0,none⟩))/\w'.cell? ⟨N,5,none⟩=some a5/\w'.cell? ⟨N,6,none⟩=some (.int .i64 (y:Int))/\w'.cell? ⟨N,8,none⟩=some (.slice (some ⟨q,off,none⟩) tb.length bc)/\w'.cell? ⟨lp,0,none⟩=some (.pointer (some ⟨p,0,none⟩))/\w'.cell? ⟨q,off+m,none⟩=some (.int .i64 z)/\Below w.heap.size w w'):=fun w' hb=>elC.of hM hN hl hlp hq hql hb
    have HH:Hid (∀ w' u,Below w.heap.size w w'->Calls Tryz.prog 29 #[.pointer (some ⟨p,0,none⟩),.int .i64 (y:Int),.int .i64 u] w' fun e w2=>e=.returned (.bool (d.has u))/\Below w'.heap.size w' w2):=hH;clear hM hN hl hcl hH hlp hz hzz hq hql c8 hcell;go_enter Tryz.func157,Tryz.ntmps157;go_wp2_with fail
    go_region_held3 (fun w'=>w'.cell? ⟨M,0,none⟩=some (.pointer (some ⟨lp,0,none⟩))/\w'.cell? ⟨N,5,none⟩=some a5/\w'.cell? ⟨N,6,none⟩=some (.int .i64 (y:Int))/\w'.cell? ⟨N,8,none⟩=some (.slice (some ⟨q,off,none⟩) tb.length bc)/\w'.cell? ⟨lp,0,none⟩=some (.pointer (some ⟨p,0,none⟩))/\w'.cell? ⟨q,off+m,none⟩=some (.int .i64 z)/\Below w.heap.size w w')
      (first | exact HC.out _ (Below.refl _ _).drew | exact HC.out _ HB4.out)
      (first | (go_at_call 29;refine cA (HH.out _ z (Below.refl _ _).drew) ?_;rintro e w4 ⟨rfl,hb4⟩;(have HB4:Hid (Below w.heap.size w w4):=(Below.refl _ _).drew.trans hb4);clear hb4))
    go_wp2_with fail
    go_ret;exact ⟨rfl,HB4.out⟩
def el2B (tb:List Int) (d:Dm) (v:Int) (n:Nat):Bool:=(List.range n).any fun k=>(tb.getD k 0==v)&&d.has (k:Int)
theorem any_range_mono {f:Nat->Bool} {k n:Nat} (hk:k<n) (h:f k=true):(List.range n).any f=true:=List.any_eq_true.2 ⟨k,List.mem_range.2 hk,h⟩
theorem el2_any (M N lp p x:Nat) (d:Dm) (tb:List Int) (ba:Option Addr) (bc:Nat) (v:Int) (a0 a1 a2 a3 a4 a6 a7 a9:Value) (w:World) (hM:w.heap[M]?=some (.cells #[.pointer (some ⟨lp,0,none⟩)] 163 (0,0))) (hN:w.heap[N]?=some (.cells #[a0,a1,a2,a3,a4,.int .i64 (x:Int),a6,a7,.slice ba tb.length bc,a9] 56 (0,0))) (hl:w.cell? ⟨lp,0,none⟩=some (.pointer (some ⟨p,0,none⟩))) (ht:IntsAt w (.slice ba tb.length bc) tb) (htl:tb.length<=64)
    (hH:∀ w' u,Below w.heap.size w w'->Calls Tryz.prog 29 #[.pointer (some ⟨p,0,none⟩),.int .i64 (x:Int),.int .i64 u] w' fun e w2=>e=.returned (.bool (d.has u))/\Below w'.heap.size w' w2) :
    Calls Tryz.prog 158 #[.int .i64 v,.pointer (some ⟨N,0,none⟩),.pointer (some ⟨M,0,none⟩)] w fun e w'=>e=.returned (.bool (el2B tb d v tb.length))/\Below w.heap.size w w':=by
  have c8:w.cell? ⟨N,8,none⟩=some (.slice ba tb.length bc):=cell_of hN 8;have hlp:=World.block_lt_of_cell? w _ hl;obtain ⟨a',c',e1,_,hcell⟩:=ht;injection e1 with e1 _ _;subst e1;have HC:Hid (∀ k (hk:k<tb.length) w',Below w.heap.size w w'->∃ q off,ba=some ⟨q,off,none⟩/\(w'.cell? ⟨M,0,none⟩=some (.pointer (some ⟨lp,0,none⟩))/\w'.cell? ⟨N,5,none⟩=some (.int .i64 (x:Int))/\w'.cell? ⟨N,6,none⟩=some a6/\w'.cell? ⟨N,8,none⟩=some (.slice ba tb.length bc)/\w'.cell? ⟨lp,0,none⟩=some (.pointer (some ⟨p,0,none⟩))/\w'.cell? ⟨q,off+k,none⟩=some (.int .i64 tb[k])/\Below w.heap.size w w')):=fun k hk w' hb=>by
    obtain ⟨q,off,rfl,hql,hcl⟩:=hcell (by omega);exact ⟨q,off,rfl,elC.of hM hN hl hlp (hcl k hk) hql hb⟩
  have HH:Hid (∀ w' u,Below w.heap.size w w'->Calls Tryz.prog 29 #[.pointer (some ⟨p,0,none⟩),.int .i64 (x:Int),.int .i64 u] w' fun e w2=>e=.returned (.bool (d.has u))/\Below w'.heap.size w' w2):=hH;clear hM hN hl hH hlp hcell;go_enter Tryz.func158,Tryz.ntmps158;go_wp2_with fail
  clear c8;go_loopw [10] (fun iv wr=>∃ (k:Nat),iv=.int .i64 (k:Int)/\k<=tb.length/\Hid ((el2B tb d v k)=false)/\Hid (Below w.heap.size w wr)) (fun iv _=>tb.length-(intOf iv).toNat)
  case atStart=>exact ⟨0,rfl,Nat.zero_le _,rfl,Below.refl _ _⟩
  case round=>
  obtain ⟨k,rfl,hk,HT,HBr⟩:=hrel
  by_cases hkn:k<tb.length
  · have hkI:(k:Int)<(tb.length:Int):=by omega
    obtain ⟨q,off,rfl,hcs⟩:=HC.out k hkn wr HBr.out;have f0:=hcs.2.2.2.2.2.1;have HCk:Hid (∀ w',Below wr.heap.size wr w'->w'.cell? ⟨M,0,none⟩=some (.pointer (some ⟨lp,0,none⟩))/\w'.cell? ⟨N,5,none⟩=some (.int .i64 (x:Int))/\w'.cell? ⟨lp,0,none⟩=some (.pointer (some ⟨p,0,none⟩))):=fun w' hb=>by
      obtain ⟨_,_,_,h⟩:=HC.out k hkn w' (bl_next HBr.out hb);exact ⟨h.1,h.2.1,h.2.2.2.2.1⟩
    have hg:tb.getD k 0=tb[k]:=by rw [List.getD_eq_getElem?_getD,List.getElem?_eq_getElem hkn];rfl
    have hnx:(el2B tb d v (k+1))=((tb[k]==v)&&d.has (k:Int)):=by
      have h0:=HT.out;unfold el2B at h0 ⊢;rw [List.range_succ,List.any_append,h0,List.any_cons,List.any_nil,Bool.false_or,Bool.or_false,hg]
    have hyes:((tb[k]==v)&&d.has (k:Int))=true->(el2B tb d v tb.length)=true:=fun hh=>any_range_mono hkn (by rw [hg];exact hh)
    obtain ⟨z,hz⟩:∃ z,tb[k]=z:=⟨_,rfl⟩;rw [hz] at f0 hnx hyes;have HN:Hid ((el2B tb d v (k+1))=((z==v)&&d.has (k:Int))):=hnx;have HY:Hid (((z==v)&&d.has (k:Int))=true->(el2B tb d v tb.length)=true):=hyes;clear hcs hg hnx hyes hz
    by_cases hzv:z=v
    · have ez:(z==v)=true:=by simpa using hzv
      obtain ⟨r,hr⟩:∃ r,d.has (k:Int)=r:=⟨_,rfl⟩;have HHk:=HH.out wr.drew (k:Int) HBr.out.drew;rw [hr] at HHk;have HHk':Hid (Calls Tryz.prog 29 #[.pointer (some ⟨p,0,none⟩),.int .i64 (x:Int),.int .i64 (k:Int)] wr.drew fun e w2=>e=.returned (.bool r)/\Below wr.drew.heap.size wr.drew w2):=HHk;have HN2:Hid ((el2B tb d v (k+1))=r):=by show _=_;rw [HN.out,ez,hr];rfl
      have HY2:Hid (r=true->(el2B tb d v tb.length)=true):=fun hh=>HY.out (by rw [ez,hr,hh];rfl)
      clear hzv hr HHk HN HY;go_wp2_with fail
      go_region_held3 (fun w'=>w'.cell? ⟨M,0,none⟩=some (.pointer (some ⟨lp,0,none⟩))/\w'.cell? ⟨N,5,none⟩=some (.int .i64 (x:Int))/\w'.cell? ⟨lp,0,none⟩=some (.pointer (some ⟨p,0,none⟩)))
        (first | exact HCk.out _ (Below.refl _ _).drew | exact HCk.out _ HB4.out)
        (first | (go_at_call 29;refine cA HHk'.out ?_;rintro e w4 ⟨rfl,hb4⟩;(have HB4:Hid (Below wr.heap.size wr w4):=(Below.refl _ _).drew.trans hb4);clear hb4))
      cases r with
      | true =>
        have HY3:=HY2.out rfl;have HY4:Hid ((el2B tb d v tb.length)=true):=HY3;clear HY3;go_wp2_with fail
        go_ret;exact ⟨ret_bool (by rw [HY4.out];try rfl),bl_next HBr.out HB4.out⟩
      | false =>
        go_wp2_with fail
        go_roundw
        case rel=>exact ⟨k+1,by go_num,hkn,HN2,bl_next HBr.out HB4.out⟩
        case measure=>simp [intOf];omega
    · have ez:(z==v)=false:=by simpa using hzv
      have HN2:Hid ((el2B tb d v (k+1))=false):=by show _=_;rw [HN.out,ez];rfl
      clear hzv HN HY;go_wp2_with fail
      go_quiet ((fail))
      rename_i nq _
      go_wp2_with fail
      go_roundw
      case rel=>exact ⟨k+1,by go_num,hkn,HN2,bl_next HBr.out (bl_drewN wr nq)⟩
      case measure=>simp [intOf];omega
  · have hke:k=tb.length:=by omega
    subst hke;have hkI:¬ (tb.length:Int)<(tb.length:Int):=by omega
    go_wp2_with fail
    go_ret;exact ⟨ret_bool (by rw [HT.out];try rfl),HBr.out⟩
def elB2 (D:List Dm) (c:Md.Cn) (v:Int):Bool:=el2B c.table (dAt D c.x) v c.table.length
def elemQ (D:List Dm) (c:Md.Cn) (Q:List Sq):List Sq:=someQ (someQ Q c.x.toNat (elB1 D c)) c.y.toNat (elB2 D c)
theorem enters86:Enters Tryz.prog 157:=enters_of Tryz.func157 (by kernel_rfl) rfl
theorem enters88:Enters Tryz.prog 158:=enters_of Tryz.func158 (by kernel_rfl) rfl
theorem LfQ.box {B lp g p:Nat} {nv mv:Value} {s:St} {Q:List Sq} {w w':World} (h:LfQ B lp g p nv mv s Q w) (hk:Kq B w w'):w'.cell? ⟨lp,0,none⟩=Option.some (Value.pointer (Option.some ⟨p,0,none⟩)):=by
  obtain ⟨S,h1,_⟩:=h;exact cell_of (hk.block h1.box (by decide) (by decide)) 0
theorem elem_any (B lp g p:Nat) (nv mv:Value) (s:St) (Q:List Sq) (w:World) (h:LfQ B lp g p nv mv s Q w) (hts:∀ q∈Q,q.ts.length<=1000) (c:Md.Cn) (vt vx vb vr:Value) (hC:CnK B w c vt vx vb vr) (hx:0<=c.x/\c.x<(s.now.length:Int)) (hy:0<=c.y/\c.y<(s.now.length:Int)) (hl:c.table.length<=64):Calls Tryz.prog 134 #[.pointer (some ⟨lp,0,none⟩),cnVal c vt vx vb vr] w (RlOut B lp g p nv mv s (some (elemQ s.now c Q)) w):=by
  have hBs:=h.size;obtain ⟨x,hxe,hxn⟩:∃ x:Nat,c.x=(x:Int)/\x<s.now.length:=⟨c.x.toNat,by omega,by omega⟩;obtain ⟨y,hye,hyn⟩:∃ y:Nat,c.y=(y:Int)/\y<s.now.length:=⟨c.y.toNat,by omega,by omega⟩;obtain ⟨ba,bc,rfl,_⟩:=hC.at.b.form;obtain ⟨W,hW⟩:∃ W,(w.alloc (.cells #[.pointer (some ⟨lp,0,none⟩)] 163)).alloc (.cells #[.int .i64 c.kind,.int .i64 c.op,vt,.int .i64 c.k,.int .i64 c.v,.int .i64 (x:Int),.int .i64 (y:Int),vx,.slice ba c.table.length bc,vr] 56)=W:=⟨_,rfl⟩;have hb0:Below w.heap.size w W:=by rw [<-hW];exact ((Below.refl _ _).alloc (Nat.le_refl _) _).alloc (by simp) _
  have g0:W.heap[w.heap.size]?=some (.cells #[.pointer (some ⟨lp,0,none⟩)] 163 (0,0)):=by rw [<-hW,heap_alloc_old (w.alloc _) _ (by simp)];exact heap_alloc_new w _
  have g1:W.heap[w.heap.size+1]?=some (.cells #[.int .i64 c.kind,.int .i64 c.op,vt,.int .i64 c.k,.int .i64 c.v,.int .i64 (x:Int),.int .i64 (y:Int),vx,.slice ba c.table.length bc,vr] 56 (0,0)):=by rw [<-hW];exact heap_alloc2_new w _ _
  have HLW:Hid (LfQ B lp g p nv mv s Q W):=h.below hb0;have HKW:Hid (Kq B w W):=Kq.of_below hb0 hBs;have HG:Hid (∀ w',Kq B W w'->w'.heap[w.heap.size]?=some (.cells #[.pointer (some ⟨lp,0,none⟩)] 163 (0,0))/\w'.heap[w.heap.size+1]?=some (.cells #[.int .i64 c.kind,.int .i64 c.op,vt,.int .i64 c.k,.int .i64 c.v,.int .i64 (x:Int),.int .i64 (y:Int),vx,.slice ba c.table.length bc,vr] 56 (0,0))):=fun w' hk=>⟨hk.block g0 (by decide) (by decide),hk.block g1 (by decide) (by decide)⟩
  have HI:Hid (∀ w',Kq B W w'->IntsAt w' (.slice ba c.table.length bc) c.table):=fun w' hk=>(hC w' ((hb0.mono hBs).trans hk.below)).b
  have HT1:Hid (∀ w',Kq B W w'->TestIs B w' (.func (.func 157) #[] #[.pointer (some ⟨w.heap.size+1,0,none⟩),.pointer (some ⟨w.heap.size,0,none⟩)]) (elB1 s.now c)):=fun w' hk=>⟨157,_,rfl,enters86,fun w2 hk2 u _ _=>by
    have hk3:=hk.trans hk2;have:=el1_any w.heap.size (w.heap.size+1) lp p y s.now[y] c.table ba bc u _ _ _ _ _ _ _ _ w2 (HG.out w2 hk3).1 (HG.out w2 hk3).2 (HLW.out.box hk3) (HI.out w2 hk3) hl (fun w4 v hb=>HLW.out.hass y hyn v (hk3.below.trans (hb.mono (Nat.le_trans HLW.out.size hk3.below.size))));unfold elB1;rw [hye,dAt_get hyn]
    exact this⟩
  have HT2:Hid (∀ w',Kq B W w'->TestIs B w' (.func (.func 158) #[] #[.pointer (some ⟨w.heap.size+1,0,none⟩),.pointer (some ⟨w.heap.size,0,none⟩)]) (elB2 s.now c)):=fun w' hk=>⟨158,_,rfl,enters88,fun w2 hk2 u _ _=>by
    have hk3:=hk.trans hk2;have:=el2_any w.heap.size (w.heap.size+1) lp p x s.now[x] c.table ba bc u _ _ _ _ _ _ _ _ w2 (HG.out w2 hk3).1 (HG.out w2 hk3).2 (HLW.out.box hk3) (HI.out w2 hk3) hl (fun w4 v hb=>HLW.out.hass x hxn v (hk3.below.trans (hb.mono (Nat.le_trans HLW.out.size hk3.below.size))));unfold elB2;rw [hxe,dAt_get hxn]
    exact this⟩
  have HSx:Hid (∀ w' Q' fn caps t,LfQ B lp g p nv mv s Q' w'->TestIs B w' (.func (.func fn) #[] caps) t->(∀ q∈Q',q.ts.length<=100000)->Calls Tryz.prog 154 #[.pointer (some ⟨lp,0,none⟩),.int .i64 (x:Int),.func (.func fn) #[] caps] w' (KqOut B lp g p nv mv s (someQ Q' x t) w')):=fun w' Q' fn caps t hL hT hl=>hL.some x hxn fn caps t hT hl
  have HSy:Hid (∀ w' Q' fn caps t,LfQ B lp g p nv mv s Q' w'->TestIs B w' (.func (.func fn) #[] caps) t->(∀ q∈Q',q.ts.length<=100000)->Calls Tryz.prog 154 #[.pointer (some ⟨lp,0,none⟩),.int .i64 (y:Int),.func (.func fn) #[] caps] w' (KqOut B lp g p nv mv s (someQ Q' y t) w')):=fun w' Q' fn caps t hL hT hl=>hL.some y hyn fn caps t hT hl
  have HTs:Hid (∀ q∈Q,q.ts.length<=1000):=hts;have HQ:Hid (elemQ s.now c Q=someQ (someQ Q x (elB1 s.now c)) y (elB2 s.now c)):=by show _=_;unfold elemQ;rw [hxe,hye,Int.toNat_natCast,Int.toNat_natCast]
  obtain ⟨t1,ht1⟩:∃ t,elB1 s.now c=t:=⟨_,rfl⟩;obtain ⟨t2,ht2⟩:∃ t,elB2 s.now c=t:=⟨_,rfl⟩;rw [ht1] at HT1 HQ;rw [ht2] at HT2 HQ;obtain ⟨R,hR⟩:∃ R,elemQ s.now c Q=R:=⟨_,rfl⟩;rw [hR] at HQ ⊢;have c0:W.cell? ⟨w.heap.size,0,none⟩=some (.pointer (some ⟨lp,0,none⟩)):=cell_of g0 0;have c5:W.cell? ⟨w.heap.size+1,5,none⟩=some (.int .i64 (x:Int)):=cell_of g1 5;have hcv:cnVal c vt vx (.slice ba c.table.length bc) vr=.agg #[.int .i64 c.kind,.int .i64 c.op,vt,.int .i64 c.k,.int .i64 c.v,.int .i64 (x:Int),.int .i64 (y:Int),vx,.slice ba c.table.length bc,vr]:=by unfold cnVal;rw [hxe,hye]
  rw [hcv];clear h hts hx hy hBs hb0 g0 g1 hxe hye hR hxn hyn hcv ht1 ht2 hC HI;go_enter Tryz.func134,Tryz.ntmps134;go_wp2_with fail
  refine cA (HSx.out W Q 157 #[.pointer (some ⟨w.heap.size+1,0,none⟩),.pointer (some ⟨w.heap.size,0,none⟩)] _ HLW.out (HT1.out W (Kq.refl _ _)) (fun q hq=>Nat.le_trans (HTs.out q hq) (by omega))) ?_;rintro e w3 ⟨rfl,hL3,hk3⟩;have HL3:Hid (LfQ B lp g p nv mv s (someQ Q x t1) w3):=hL3;have HK3:Hid (Kq B W w3):=hk3;have d0:w3.cell? ⟨w.heap.size,0,none⟩=some (.pointer (some ⟨lp,0,none⟩)):=cell_of (HG.out w3 hk3).1 0;have d6:w3.cell? ⟨w.heap.size+1,6,none⟩=some (.int .i64 (y:Int)):=cell_of (HG.out w3 hk3).2 6;clear hL3 hk3 c0 c5 hW;go_wp2_with fail
  refine cA (HSy.out w3 _ 158 #[.pointer (some ⟨w.heap.size+1,0,none⟩),.pointer (some ⟨w.heap.size,0,none⟩)] _ HL3.out (HT2.out w3 HK3.out) (fun q hq=>Nat.le_trans (someQ_ts HTs.out x t1 q hq) (by omega))) ?_;rintro e w5 ⟨rfl,hL5,hk5⟩;have HL5:Hid (LfQ B lp g p nv mv s R w5):=by show LfQ _ _ _ _ _ _ _ _ _;rw [HQ.out];exact hL5
  have HK5:Hid (Kq B W w5):=HK3.out.trans hk5;clear hL5 hk5 d0 d6;go_wp2_with fail
  go_ret;exact ⟨rfl,(fun Q' h=>by injection h with h;rw [<-h];exact HL5.out),HKW.out.trans HK5.out⟩
def alB (D:List Dm) (row xs:List Int) (n:Nat):Bool:=(List.range n).all fun k=>(dAt D (xs.getD k 0)).has (row.getD k 0)
theorem all_range_not {f:Nat->Bool} {k n:Nat} (hk:k<n) (h:f k=false):(List.range n).all f=false:=by
  cases hh:(List.range n).all f
  · rfl
  · rw [List.all_eq_true] at hh
    rw [hh k (List.mem_range.2 hk)] at h
    cases h
theorem getD_at {l:List Int} {k:Nat} (h:k<l.length):l.getD k 0=l[k]:=by rw [List.getD_eq_getElem?_getD,List.getElem?_eq_getElem h];rfl
theorem alive_any (B lp g p:Nat) (nv mv:Value) (s:St) (Q:List Sq) (w:World) (h:LfQ B lp g p nv mv s Q w) (vr vx:Value) (row xs:List Int) (hr:IntsAt w vr row) (hx:IntsAt w vx xs) (hin:∀ x∈xs,0<=x/\x<(s.now.length:Int)) (hrl:row.length=xs.length) (hl:xs.length<=64) :
    Calls Tryz.prog 163 #[.pointer (some ⟨lp,0,none⟩),vr,vx] w fun e w'=>e=.returned (.bool (alB s.now row xs xs.length))/\Below w.heap.size w w':=by
  have hBs:=h.size;have hlc:=h.box (Kq.refl _ _);have hlp:=World.block_lt_of_cell? w _ hlc;obtain ⟨xa,xc,rfl,_,hxc⟩:=hx;obtain ⟨ra,rc,rfl,_,hrc⟩:=hr;have HC:Hid (∀ k (hk:k<xs.length) (hk2:k<row.length) w',Below w.heap.size w w'->∃ b off b2 off2,xa=some ⟨b,off,none⟩/\ra=some ⟨b2,off2,none⟩/\w'.cell? ⟨b,off+k,none⟩=some (.int .i64 xs[k])/\(w'.cell? ⟨lp,0,none⟩=some (.pointer (some ⟨p,0,none⟩))/\w'.cell? ⟨b2,off2+k,none⟩=some (.int .i64 row[k]))):=fun k hk hk2 w' hb=>by
    obtain ⟨b,off,rfl,hlt,hcl⟩:=hxc (by omega);obtain ⟨b2,off2,rfl,hlt2,hcl2⟩:=hrc (by omega);exact ⟨b,off,b2,off2,rfl,rfl,(hb.cell (p:=⟨b,_,none⟩) hlt).trans (hcl k hk),(hb.cell (p:=⟨lp,_,none⟩) hlp).trans hlc,(hb.cell (p:=⟨b2,_,none⟩) hlt2).trans (hcl2 k hk2)⟩
  have HH:Hid (∀ (x:Nat) (hx:x<s.now.length) w' u,Below w.heap.size w w'->Calls Tryz.prog 29 #[.pointer (some ⟨p,0,none⟩),.int .i64 (x:Int),.int .i64 u] w' fun e w2=>e=.returned (.bool (s.now[x].has u))/\Below w'.heap.size w' w2):=fun x hx w' u hb=>h.hass x hx u (hb.mono hBs)
  have HIn:Hid (∀ x∈xs,0<=x/\x<(s.now.length:Int)):=hin;have HRl:Hid (row.length=xs.length):=hrl;have hrI:(row.length:Int)=(xs.length:Int):=by omega
  clear h hxc hrc hlc hlp hin hrl hBs;go_enter Tryz.func163,Tryz.ntmps163;go_wp2_with fail
  go_loopw [11] (fun iv wr=>∃ (k:Nat),iv=.int .i64 (k:Int)/\k<=xs.length/\Hid ((alB s.now row xs k)=true)/\Hid (Below w.heap.size w wr)) (fun iv _=>xs.length-(intOf iv).toNat)
  case atStart=>exact ⟨0,rfl,Nat.zero_le _,rfl,Below.refl _ _⟩
  case round=>
  obtain ⟨k,rfl,hk,HT,HBr⟩:=hrel
  by_cases hkn:k<xs.length
  · have hkI:(k:Int)<(xs.length:Int):=by omega
    have hkR:(k:Int)<(row.length:Int):=by omega
    have hkr:k<row.length:=by omega
    obtain ⟨b,off,b2,off2,rfl,rfl,f0,_⟩:=HC.out k hkn hkr wr HBr.out;have HCk:Hid (∀ w',Below wr.heap.size wr w'->w'.cell? ⟨lp,0,none⟩=some (.pointer (some ⟨p,0,none⟩))/\w'.cell? ⟨b2,off2+k,none⟩=some (.int .i64 row[k])):=fun w' hb=>by
      obtain ⟨_,_,_,_,e1,e2,_,h⟩:=HC.out k hkn hkr w' (bl_next HBr.out hb);injection e2 with e2;injection e2 with e2 e3;subst e2 e3;exact h
    obtain ⟨m,hm,hmn⟩:∃ m:Nat,xs[k]=(m:Int)/\m<s.now.length:=⟨xs[k].toNat,by have:=HIn.out _ (List.getElem_mem hkn);omega,by have:=HIn.out _ (List.getElem_mem hkn);omega⟩;have hf:(fun k=>(dAt s.now (xs.getD k 0)).has (row.getD k 0)) k=s.now[m].has row[k]:=by
      show (dAt s.now (xs.getD k 0)).has (row.getD k 0)=_;rw [getD_at hkn,getD_at hkr,hm,dAt_get hmn]
    have hnx:(alB s.now row xs (k+1))=s.now[m].has row[k]:=by
      have h0:=HT.out;unfold alB at h0 ⊢;rw [List.range_succ,List.all_append,h0,List.all_cons,List.all_nil,Bool.true_and,Bool.and_true];exact hf
    have hno:s.now[m].has row[k]=false->(alB s.now row xs xs.length)=false:=fun hh=>all_range_not hkn (hf.trans hh)
    have HHk:=HH.out m hmn wr.drew row[k] HBr.out.drew;obtain ⟨r,hr⟩:∃ r,s.now[m].has row[k]=r:=⟨_,rfl⟩;rw [hm] at f0;rw [hr] at hnx hno HHk;obtain ⟨z,hz⟩:∃ z,row[k]=z:=⟨_,rfl⟩;rw [hz] at HHk HCk;have HN:Hid ((alB s.now row xs (k+1))=r):=hnx;have HY:Hid (r=false->(alB s.now row xs xs.length)=false):=hno;have HHk':Hid (Calls Tryz.prog 29 #[.pointer (some ⟨p,0,none⟩),.int .i64 (m:Int),.int .i64 z] wr.drew fun e w2=>e=.returned (.bool r)/\Below wr.drew.heap.size wr.drew w2):=HHk;clear hf hnx hno hm hr hz HHk;go_wp2_with fail
    go_region_held3 (fun w'=>w'.cell? ⟨lp,0,none⟩=some (.pointer (some ⟨p,0,none⟩))/\w'.cell? ⟨b2,off2+k,none⟩=some (.int .i64 z))
      (first | exact HCk.out _ (Below.refl _ _).drew | exact HCk.out _ HB4.out)
      (first | (go_at_call 29;refine cA HHk'.out ?_;rintro e w4 ⟨rfl,hb4⟩;(have HB4:Hid (Below wr.heap.size wr w4):=(Below.refl _ _).drew.trans hb4);clear hb4))
    cases r with
    | false =>
      have HY4:Hid ((alB s.now row xs xs.length)=false):=HY.out rfl;go_wp2_with fail
      go_ret;exact ⟨ret_bool (by rw [HY4.out]),bl_next HBr.out HB4.out⟩
    | true =>
      go_wp2_with fail
      go_roundw
      case rel=>exact ⟨k+1,by go_num,hkn,HN,bl_next HBr.out HB4.out⟩
      case measure=>simp [intOf];omega
  · have hke:k=xs.length:=by omega
    subst hke;have hkI:¬ (xs.length:Int)<(xs.length:Int):=by omega
    go_wp2_with fail
    go_ret;exact ⟨ret_bool (by rw [HT.out]),HBr.out⟩
def rowB (k:Nat) (v:Int) (r:List Int):Bool:=r.getD k 0==v
theorem clos96 (u:Value) (row:List Int) (P1 P2 k:Nat) (v:Int) (w:World) (hu:IntsAt w u row) (h1:w.cell? ⟨P1,0,none⟩=some (.int .i64 (k:Int))) (h2:w.cell? ⟨P2,0,none⟩=some (.int .i64 v)) (hk:k<row.length) (hl:row.length<=64) :
    Calls Tryz.prog 165 #[u,.pointer (some ⟨P1,0,none⟩),.pointer (some ⟨P2,0,none⟩)] w fun e w'=>e=.returned (.bool (rowB k v row))/\Below w.heap.size w w':=by
  obtain ⟨a,cap,rfl,_,hc⟩:=hu;obtain ⟨b,off,rfl,_,hcl⟩:=hc (by omega);have f0:=hcl k hk;have hkI:(k:Int)<(row.length:Int):=by omega
  have he:rowB k v row=(row[k]==v):=by unfold rowB;rw [getD_at hk]
  rw [he];generalize row[k]=z at f0 ⊢
  clear hc hcl he;go_enter Tryz.func165,Tryz.ntmps165;go_wp2_with fail
  go_quiet ((fail))
  rename_i nq _
  go_wp2_with fail
  go_ret;exact ⟨rfl,bl_drewN w nq⟩
theorem indexR96 (vr:Value) (rows:List (List Int)) (P1 P2 k0 n:Nat) (v:Int) (w:World) (hr:RowsAt w vr rows) (h1:w.cell? ⟨P1,0,none⟩=some (.int .i64 (k0:Int))) (h2:w.cell? ⟨P2,0,none⟩=some (.int .i64 v)) (hl:∀ r∈rows,r.length=n) (hk0:k0<n) (hn:n<=64) (hr64:rows.length<=64) :
    Calls Tryz.prog 118 #[vr,.func (.func 165) #[] #[.pointer (some ⟨P1,0,none⟩),.pointer (some ⟨P2,0,none⟩)]] w fun e w'=>∃ r:Int,e=.returned (.int .i64 r)/\decide (0<=r)=rows.any (rowB k0 v)/\Below w.heap.size w w':=by
  have hp1:=World.block_lt_of_cell? w _ h1;have hp2:=World.block_lt_of_cell? w _ h2;have HH:Hid (∀ w' u row,Below w.heap.size w w'->IntsAt w' u row->row.length=n->Calls Tryz.prog 165 #[u,.pointer (some ⟨P1,0,none⟩),.pointer (some ⟨P2,0,none⟩)] w' fun e w''=>e=.returned (.bool (rowB k0 v row))/\Below w'.heap.size w' w''):=fun w' u row hb hu hrl=>
    clos96 u row P1 P2 k0 v w' hu ((hb.cell (p:=⟨P1,0,none⟩) hp1).trans h1) ((hb.cell (p:=⟨P2,0,none⟩) hp2).trans h2) (by omega) (by omega)
  obtain ⟨a,cap,rfl,hm,hc⟩:=hr;have HC:Hid (0<rows.length->∃ b off,a=some ⟨b,off,none⟩/\b<w.heap.size/\∀ j (h:j<rows.length),∃ u,w.cell? ⟨b,off+j,none⟩=some u/\IntsAt w u rows[j]):=hc;have HL:Hid (∀ r∈rows,r.length=n):=hl;obtain ⟨f,hf⟩:∃ f:List Int->Bool,rowB k0 v=f:=⟨_,rfl⟩;rw [hf] at HH ⊢;clear hc hl hm hf hp1 hp2 h1 h2;go_enter Tryz.func118,Tryz.ntmps118;go_wp2;go_loopw [8] (fun iv wr=>∃ k:Nat,iv=.int .i64 (k:Int)/\k<=rows.length/\Hid ((rows.take k).any f=false)/\Hid (Below w.heap.size w wr)) (fun iv _=>rows.length-(intOf iv).toNat)
  case atStart=>exact ⟨0,rfl,Nat.zero_le _,(show _=_ by simp),Below.refl _ _⟩
  case round=>
    obtain ⟨k,rfl,hk,hA,hB⟩:=hrel
    by_cases hlt:k<rows.length
    · have hkI:(k:Int)<(rows.length:Int):=by omega
      obtain ⟨b,off,rfl,hb,hc⟩:=HC.out (by omega);obtain ⟨u,hcell,hu⟩:=hc k hlt;have hcw:=(hB.out.cell (p:=⟨b,off+k,none⟩) hb).trans hcell;have HU:Hid (Calls Tryz.prog 165 #[u,.pointer (some ⟨P1,0,none⟩),.pointer (some ⟨P2,0,none⟩)] wr fun e w''=>e=.returned (.bool (f rows[k]))/\Below wr.heap.size wr w''):=
        HH.out wr u rows[k] hB.out (hu.below hB.out) (HL.out _ (List.getElem_mem hlt))
      obtain ⟨ua,uc,rfl,_⟩:=hu.form;clear hc hcell hu
      cases hp:f rows[k]
      · have hnx:Hid ((rows.take (k+1)).any f=false):=by show _=_;rw [Md.any_next hlt,hA.out,hp];rfl
        rw [hp] at HU;go_wp2_with (go_at_call 165;refine cA HU.out ?_;rintro e w2 ⟨rfl,hb2⟩);go_roundw
        case rel=>exact ⟨k+1,by go_num,by omega,hnx,hB.out.trans (hb2.mono hB.out.size)⟩
        case measure=>simp [intOf];omega
      · have hres:Hid (rows.any f=true):=Md.any_stop hlt hp
        rw [hp] at HU;go_wp2_with (go_at_call 165;refine cA HU.out ?_;rintro e w2 ⟨rfl,hb2⟩);go_ret;exact ⟨_,rfl,by rw [hres.out];simp,hB.out.trans (hb2.mono hB.out.size)⟩
    · have hkI:¬ (k:Int)<(rows.length:Int):=by omega
      have hres:Hid (rows.any f=false):=Md.any_done hA.out (by omega);go_wp2;go_ret;exact ⟨_,rfl,by rw [hres.out];rfl,hB.out⟩
theorem containsR96 (vr:Value) (rows:List (List Int)) (P1 P2 k0 n:Nat) (v:Int) (w:World) (hr:RowsAt w vr rows) (h1:w.cell? ⟨P1,0,none⟩=some (.int .i64 (k0:Int))) (h2:w.cell? ⟨P2,0,none⟩=some (.int .i64 v)) (hl:∀ r∈rows,r.length=n) (hk0:k0<n) (hn:n<=64) (hr64:rows.length<=64) :
    Calls Tryz.prog 106 #[vr,.func (.func 165) #[] #[.pointer (some ⟨P1,0,none⟩),.pointer (some ⟨P2,0,none⟩)]] w fun e w'=>e=.returned (.bool (rows.any (rowB k0 v)))/\Below w.heap.size w w':=by
  have H:Hid _:=indexR96 vr rows P1 P2 k0 n v w hr h1 h2 hl hk0 hn hr64;obtain ⟨a,cap,rfl,_⟩:=hr;generalize (rows.any (rowB k0 v))=B at *
  clear h1 h2 hl;go_enter Tryz.func106,Tryz.ntmps106;go_wp2_with (go_at_call 118;refine cA H.out ?_;rintro e w2 ⟨r,rfl,hr,hb2⟩);go_ret;exact ⟨rfl,hb2⟩
theorem clos94 (vr:Value) (rows:List (List Int)) (A K k0 n:Nat) (v:Int) (w:World) (hA:w.cell? ⟨A,0,none⟩=some vr) (hr:RowsAt w vr rows) (h1:w.cell? ⟨K,0,none⟩=some (.int .i64 (k0:Int))) (hl:∀ r∈rows,r.length=n) (hk0:k0<n) (hn:n<=64) (hr64:rows.length<=64) :
    Calls Tryz.prog 164 #[.int .i64 v,.pointer (some ⟨A,0,none⟩),.pointer (some ⟨K,0,none⟩)] w fun e w'=>e=.returned (.bool (rows.any (rowB k0 v)))/\Below w.heap.size w w':=by
  obtain ⟨W,hW⟩:∃ W,w.alloc (.cells #[.int .i64 v] 3)=W:=⟨_,rfl⟩;have hb0:Below w.heap.size w W:=bAe hW;have g0:W.heap[w.heap.size]?=some (.cells #[.int .i64 v] 3 (0,0)):=hAe hW;have HB0:Hid (Below w.heap.size w W):=hb0;have c0:W.cell? ⟨A,0,none⟩=some vr:=(hb0.cell (p:=⟨A,0,none⟩) (World.block_lt_of_cell? w _ hA)).trans hA;have H:Hid (Calls Tryz.prog 106 #[vr,.func (.func 165) #[] #[.pointer (some ⟨K,0,none⟩),.pointer (some ⟨w.heap.size,0,none⟩)]] W fun e w'=>e=.returned (.bool (rows.any (rowB k0 v)))/\Below W.heap.size W w'):=
    containsR96 vr rows K w.heap.size k0 n v W (hr.below hb0) ((hb0.cell (p:=⟨K,0,none⟩) (World.block_lt_of_cell? w _ h1)).trans h1) (cell_of g0 0) hl hk0 hn hr64
  obtain ⟨a,cap,rfl,_⟩:=hr.form;generalize (rows.any (rowB k0 v))=B at *
  clear hA hr h1 hl hb0 g0;go_enter Tryz.func164,Tryz.ntmps164;go_wp2_with fail
  try rw [hW]
  clear hW;go_wp2_with fail
  refine cA H.out ?_;rintro e w3 ⟨rfl,hb3⟩;go_wp2_with fail
  go_ret;exact ⟨rfl,bl_next HB0.out hb3⟩
def plcL (xs:List Int) (n:Nat):List Int:=coefL (xs.map fun x=>(1,x)) n
theorem plcL_next {xs:List Int} {n k m:Nat} (hk:k<xs.length) (hm:xs[k]=(m:Int)) (hm2:m<(plcL (xs.take k) n).length):plcL (xs.take (k+1)) n=(plcL (xs.take k) n).set m ((plcL (xs.take k) n)[m]+1):=by
  have h1:k<(xs.map fun x=>((1:Int),x)).length:=by rw [List.length_map];exact hk
  have e:(xs.map fun x=>((1:Int),x))[k]=(1,xs[k]):=by rw [List.getElem_map]
  have e1:∀ j,plcL (xs.take j) n=coefL ((xs.map fun x=>((1:Int),x)).take j) n:=fun j=>by unfold plcL;rw [List.map_take]
  have h2:m<(coefL ((xs.map fun x=>((1:Int),x)).take k) n).length:=by rw [coefL_len];unfold plcL at hm2;rw [coefL_len] at hm2;exact hm2
  have h3:=coefL_next (t:=xs.map fun x=>((1:Int),x)) (n:=n) (m:=m) h1 (by rw [e];exact hm) h2;rw [e1 (k+1),h3];simp only [e1 k,e]
theorem plcL_len (xs:List Int) (n:Nat):(plcL xs n).length=n:=coefL_len _ _
theorem plcL_bdk (xs:List Int) (k n x:Nat) (hl:xs.length<=64) (hx:x<(plcL (xs.take k) n).length):-64000000<=(plcL (xs.take k) n)[x]/\(plcL (xs.take k) n)[x]<=64000000:=by
  have h1:=coefL_bd (t:=(xs.take k).map fun x=>((1:Int),x)) (fun q hq=>by obtain ⟨_,_,rfl⟩:=List.mem_map.1 hq;simp) n x (by unfold plcL at hx;exact hx);have h2:(xs.take k).length<=64:=Nat.le_trans (by rw [List.length_take];exact Nat.min_le_right _ _) hl;rw [List.length_map] at h1;unfold plcL;omega
def sure1 (v:Int) (z:Int × Dm):Int:=if z.2.has v&&z.2.size==1 then z.1 else 0
def may1 (v:Int) (z:Int × Dm):Int:=if z.2.has v then z.1 else 0
def sumZ (f:Int × Dm->Int) (l:List (Int × Dm)):Int:=(l.map f).sum
theorem sumZ_next (f:Int × Dm->Int) (l:List (Int × Dm)) (k:Nat) (hk:k<l.length):sumZ f (l.take (k+1))=sumZ f (l.take k)+f l[k]:=by
  unfold sumZ;rw [List.take_succ_eq_append_getElem hk,List.map_append,List.sum_append];simp
theorem sumZ_bd (f:Int × Dm->Int) (l:List (Int × Dm)) (h:∀ z∈l,-64000000<=f z/\f z<=64000000) (hl:l.length<=32) (k:Nat):-3000000000<=sumZ f (l.take k)/\sumZ f (l.take k)<=3000000000:=by
  have key:∀ l:List (Int × Dm),(∀ z∈l,-64000000<=f z/\f z<=64000000)->-(64000000*(l.length:Int))<=sumZ f l/\sumZ f l<=64000000*(l.length:Int):=by
    intro l
    induction l with
    | nil=>intro _;simp [sumZ]
    | cons z l ih =>
      intro h;have h1:=h z List.mem_cons_self;have h2:=ih (fun z hz=>h z (List.mem_cons_of_mem _ hz));have e:sumZ f (z :: l)=f z+sumZ f l:=by simp [sumZ]
      rw [e,List.length_cons];omega
  have h1:=key (l.take k) (fun z hz=>h z (List.mem_of_mem_take hz));have h2:(l.take k).length<=32:=Nat.le_trans (by rw [List.length_take];exact Nat.min_le_right _ _) hl;omega
def ctStep (am al:Bool) (v k sure may:Int) (Q:List Sq) (x:Nat) (z:Int × Dm):List Sq:=
  if z.1=0∨z.2.has v=false then Q
  else if (al&&decide (may-z.1<k))=true then keepQ (if (am&&decide (1<z.2.size)&&decide (k<sure+z.1))=true then someQ Q x (fun u=>u != v) else Q) x v v
  else (if (am&&decide (1<z.2.size)&&decide (k<sure+z.1))=true then someQ Q x (fun u=>u != v) else Q)
def ctQ (am al:Bool) (v k sure may:Int) (zs:List (Int × Dm)) (Q:List Sq):Nat->List Sq
  | 0=>Q
  | j + 1 => match zs[j]? with
    | some z=>ctStep am al v k sure may (ctQ am al v k sure may zs Q j) j z
    | none=>ctQ am al v k sure may zs Q j
theorem ctQ_next (am al:Bool) (v k sure may:Int) (zs:List (Int × Dm)) (Q:List Sq) (j:Nat) (hj:j<zs.length):ctQ am al v k sure may zs Q (j+1)=ctStep am al v k sure may (ctQ am al v k sure may zs Q j) j zs[j]:=by
  show (match zs[j]? with | some z=>ctStep am al v k sure may (ctQ am al v k sure may zs Q j) j z | none=>ctQ am al v k sure may zs Q j)=_;rw [List.getElem?_eq_getElem hj]
def countQ (D:List Dm) (c:Md.Cn) (Q:List Sq):Option (List Sq):=
  if ((c.op != 3)&&decide (c.k<sumZ (sure1 c.v) ((plcL c.xs D.length).zip D))||(c.op != 1)&&decide (sumZ (may1 c.v) ((plcL c.xs D.length).zip D)<c.k))=true then none
  else some (ctQ (c.op != 3) (c.op != 1) c.v c.k (sumZ (sure1 c.v) ((plcL c.xs D.length).zip D)) (sumZ (may1 c.v) ((plcL c.xs D.length).zip D)) ((plcL c.xs D.length).zip D) Q ((plcL c.xs D.length).zip D).length)
theorem keepQ_ts {Q:List Sq} {n:Nat} (h:∀ q∈Q,q.ts.length<=n) (x:Nat) (a b:Int):∀ q∈keepQ Q x a b,q.ts.length<=n:=fun q hq=>by
  unfold keepQ at hq
  split at hq
  · rename_i s hs
    rcases List.mem_or_eq_of_mem_set hq with hq | rfl
    · exact h q hq
    · exact h s (List.mem_of_getElem? hs)
  · exact h q hq
theorem ctStep_ts {Q:List Sq} {n:Nat} (h:∀ q∈Q,q.ts.length<=n) (am al:Bool) (v k sure may:Int) (x:Nat) (z:Int × Dm):∀ q∈ctStep am al v k sure may Q x z,q.ts.length<=n+1:=by
  have h1:∀ q∈(if (am&&decide (1<z.2.size)&&decide (k<sure+z.1))=true then someQ Q x (fun u=>u != v) else Q),q.ts.length<=n+1:=by
    split
    · exact someQ_ts h x _
    · exact fun q hq=>Nat.le_succ_of_le (h q hq)
  unfold ctStep
  split
  · exact fun q hq=>Nat.le_succ_of_le (h q hq)
  · split
    · exact keepQ_ts h1 x v v
    · exact h1
theorem ctQ_ts {Q:List Sq} {n:Nat} (h:∀ q∈Q,q.ts.length<=n) (am al:Bool) (v k sure may:Int) (zs:List (Int × Dm)) (j:Nat):∀ q∈ctQ am al v k sure may zs Q j,q.ts.length<=n+j:=by
  induction j with
  | zero=>exact h
  | succ j ih =>
    show ∀ q∈(match zs[j]? with | some z=>ctStep am al v k sure may (ctQ am al v k sure may zs Q j) j z | none=>ctQ am al v k sure may zs Q j),_
    split
    · exact ctStep_ts ih am al v k sure may j _
    · exact fun q hq=>Nat.le_succ_of_le (ih q hq)
theorem ct1_any (N:Nat) (v u:Int) (a0 a1 a2 a3 a5 a6 a7 a8 a9:Value) (w:World) (hN:w.heap[N]?=some (.cells #[a0,a1,a2,a3,.int .i64 v,a5,a6,a7,a8,a9] 56 (0,0))):Calls Tryz.prog 167 #[.int .i64 u,.pointer (some ⟨N,0,none⟩)] w fun e w'=>e=.returned (.bool (u != v))/\Below w.heap.size w w':=by
  have c4:w.cell? ⟨N,4,none⟩=some (.int .i64 v):=cell_of hN 4;clear hN;go_enter Tryz.func167,Tryz.ntmps167;go_wp2_with fail
  go_ret;exact ⟨rfl,Below.refl _ _⟩
theorem enters98:Enters Tryz.prog 167:=enters_of Tryz.func167 (by kernel_rfl) rfl
def CnU (B:Nat) (w:World) (c:Md.Cn) (vt vx vb vr:Value):Prop:=∃ w0,CnAt w0 c vt vx vb vr/\w0.heap.size<=B/\Below w0.heap.size w0 w
theorem CnU.k {B:Nat} {w:World} {c:Md.Cn} {vt vx vb vr:Value} (h:CnU B w c vt vx vb vr):CnK B w c vt vx vb vr:=fun w' hb=>by
  obtain ⟨w0,h1,h2,h3⟩:=h;exact h1.below (h3.trans (hb.mono h2))
theorem CnU.rows {B:Nat} {w:World} {c:Md.Cn} {vt vx vb vr:Value} (h:CnU B w c vt vx vb vr):∃ a cap,vr=.slice a c.rows.length cap/\∀ j (hj:j<c.rows.length),∃ b off u,a=some ⟨b,off,none⟩/\∀ w',Below B w w'->w'.cell? ⟨b,off+j,none⟩=some u/\IntsAt w' u c.rows[j]:=by
  obtain ⟨w0,h1,h2,h3⟩:=h;obtain ⟨a,cap,e,_,hc⟩:=h1.r;refine ⟨a,cap,e,fun j hj=>?_⟩;obtain ⟨b,off,e2,hlt,hcl⟩:=hc (by omega);obtain ⟨u,hu,hI⟩:=hcl j hj;refine ⟨b,off,u,e2,fun w' hb=>?_⟩;have hb2:=h3.trans (hb.mono h2);exact ⟨(hb2.cell (p:=⟨b,_,none⟩) hlt).trans hu,hI.below hb2⟩
theorem own_set {w:World} {base:Nat} {e:TypeId} {size:Nat} {v:Value} {n:Nat} {xs:List Value} (h:w.ownsRow base e size v n xs) {a:Nat} (ha:a<base) (u:Value):(w.setCell ⟨a,0,none⟩ u).ownsRow base e size v n xs:=by
  obtain ⟨h1,h2⟩:=h;refine ⟨h1,?_⟩;rcases h2 with h2 | ⟨g,cap,cur,e1,e2,e3,e4⟩
  · exact .inl h2
  · exact .inr ⟨g,cap,cur,e1,e2,(heap_setCell_other _ _ _ _ (by show g≠a;omega)).trans e3,e4⟩
theorem info28:(Tryz.prog.info? 27).map (fun i=>(i.zero,i.size,i.bytes))=some (some (.slice none 0 0),1,24):=by kernel_rfl
theorem enters94:Enters Tryz.prog 164:=enters_of Tryz.func164 (by kernel_rfl) rfl
def aliveL (D:List Dm) (c:Md.Cn):List (List Int):=c.rows.filter fun r=>alB D r c.xs c.xs.length
def tabF (D:List Dm) (c:Md.Cn) (Q:List Sq) (n:Nat):List Sq:=(List.range n).foldl (fun Q k=>someQ Q (c.xs.getD k 0).toNat (fun v=>(aliveL D c).any (rowB k v))) Q
def tableQ (D:List Dm) (c:Md.Cn) (Q:List Sq):Option (List Sq):=if 0<(aliveL D c).length then some (tabF D c Q c.xs.length) else none
theorem tabF_next (D:List Dm) (c:Md.Cn) (Q:List Sq) (n:Nat):tabF D c Q (n+1)=someQ (tabF D c Q n) (c.xs.getD n 0).toNat (fun v=>(aliveL D c).any (rowB n v)):=by
  unfold tabF;rw [List.range_succ,List.foldl_append];rfl
theorem tabF_ts {D:List Dm} {c:Md.Cn} {Q:List Sq} {m:Nat} (h:∀ q∈Q,q.ts.length<=m):∀ n,∀ q∈tabF D c Q n,q.ts.length<=m+n:=fun n=>by
  induction n with
  | zero=>exact h
  | succ n ih=>rw [tabF_next];exact someQ_ts ih _ _
theorem take_filter_next {l:List (List Int)} {f:List Int->Bool} {k:Nat} (hk:k<l.length):(l.take (k+1)).filter f=(l.take k).filter f++(if f l[k]=true then [l[k]] else []):=by
  rw [List.take_add_one,List.getElem?_eq_getElem hk,List.filter_append]
  cases h:f l[k] <;> simp [h]
def UsK (B:Nat) (w:World) (us:List Value) (L:List (List Int)):Prop:=us.length=L.length/\∀ j (h:j<us.length) (h2:j<L.length),∀ w',Below B w w'->IntsAt w' us[j] L[j]
theorem UsK.snoc {B:Nat} {w:World} {us:List Value} {L:List (List Int)} {u:Value} {r:List Int} (h:UsK B w us L) (hu:∀ w',Below B w w'->IntsAt w' u r):UsK B w (us++[u]) (L++[r]):=by
  refine ⟨by simp [h.1],fun j h1 h2 w' hb=>?_⟩
  by_cases hj:j<us.length
  · have hj2:j<L.length:=by rw [<-h.1];exact hj
    rw [List.getElem_append_left hj,List.getElem_append_left hj2];exact h.2 j hj hj2 w' hb
  · have e1:j=us.length:=by simp at h1;omega
    have hL:=h.1;subst e1;simp only [hL,List.getElem_append_right (Nat.le_refl _),Nat.sub_self,List.getElem_cons_zero];have:(us++[u])[us.length]'h1=u:=by simp
    simpa [hL] using hu w' hb
theorem UsK.rows {B:Nat} {w w1 w2:World} {us:List Value} {L:List (List Int)} {base:Nat} {v:Value} (h:UsK B w us L) (ho:w1.ownsRow base 27 1 v L.length us) (hm:L.length<=maxLen) (hb:Below B w w1) (hk:Kq B w1 w2):RowsAt w2 v L:=by
  have ho2:w2.ownsRow base 27 1 v L.length us:=by
    obtain ⟨h1,h2⟩:=ho;refine ⟨h1,?_⟩;rcases h2 with h2 | ⟨g,cap,cur,e1,e2,e3,e4⟩
    · exact .inl h2
    · exact .inr ⟨g,cap,cur,e1,e2,hk.block e3 (by decide) (by decide),e4⟩
  exact rows_own ho2 h.1 hm (fun j h1 h2=>h.2 j h1 h2 w2 (hb.trans hk.below))
theorem table_any (B lp g p:Nat) (nv mv:Value) (s:St) (Q:List Sq) (w:World) (h:LfQ B lp g p nv mv s Q w) (hts:∀ q∈Q,q.ts.length<=1000) (c:Md.Cn) (vt vx vb vr:Value) (hC:CnU B w c vt vx vb vr) (hx:∀ x∈c.xs,0<=x/\x<(s.now.length:Int)) (hl:c.xs.length<=64) (hr:∀ r∈c.rows,r.length=c.xs.length) (hrl:c.rows.length<=64):Calls Tryz.prog 138 #[.pointer (some ⟨lp,0,none⟩),cnVal c vt vx vb vr] w (RlOut B lp g p nv mv s (tableQ s.now c Q) w):=by
  have hBs:=h.size;have hI0:=hC.k.xs;obtain ⟨xa,xc,rfl,_⟩:=hI0.at.form;obtain ⟨ra,rc,rfl,hrows⟩:=hC.rows;obtain ⟨W,hW⟩:∃ W,(w.alloc (.cells #[.int .i64 c.kind,.int .i64 c.op,vt,.int .i64 c.k,.int .i64 c.v,.int .i64 c.x,.int .i64 c.y,.slice xa c.xs.length xc,vb,.slice ra c.rows.length rc] 56)).alloc (.cells #[.slice none 0 0] 54)=W:=⟨_,rfl⟩;have hb0:Below w.heap.size w W:=by rw [<-hW];exact ((Below.refl _ _).alloc (Nat.le_refl _) _).alloc (by simp) _
  have g0:W.heap[w.heap.size]?=some (.cells #[.int .i64 c.kind,.int .i64 c.op,vt,.int .i64 c.k,.int .i64 c.v,.int .i64 c.x,.int .i64 c.y,.slice xa c.xs.length xc,vb,.slice ra c.rows.length rc] 56 (0,0)):=by rw [<-hW];exact heap_alloc2_old w _ _
  have g1:W.heap[w.heap.size+1]?=some (.cells #[.slice none 0 0] 54 (0,0)):=by rw [<-hW];exact heap_alloc2_new w _ _
  have hsz:W.heap.size=w.heap.size+2:=by rw [<-hW];simp
  have HSz:Hid (W.heap.size=w.heap.size+2):=hsz;have HBs:Hid (B<=w.heap.size):=hBs
  -- What holds in each world of the first loop.
  have HWw:Hid (∀ w',Below (w.heap.size+1) W w'->Below w.heap.size w w'):=fun w' hb=>hb0.trans (hb.mono (by omega))
  have HN:Hid (∀ w',Below (w.heap.size+1) W w'->w'.heap[w.heap.size]?=some (.cells #[.int .i64 c.kind,.int .i64 c.op,vt,.int .i64 c.k,.int .i64 c.v,.int .i64 c.x,.int .i64 c.y,.slice xa c.xs.length xc,vb,.slice ra c.rows.length rc] 56 (0,0))):=fun w' hb=>(hb.block _ (by omega)).trans g0
  have HRw:Hid (∀ j (hj:j<c.rows.length),∃ b off u,ra=some ⟨b,off,none⟩/\∀ w',Below B w w'->w'.cell? ⟨b,off+j,none⟩=some u/\IntsAt w' u c.rows[j]):=hrows;have HAl:Hid (∀ w' u j (hj:j<c.rows.length),Below w.heap.size w w'->IntsAt w' u c.rows[j]->Calls Tryz.prog 163 #[.pointer (some ⟨lp,0,none⟩),u,.slice xa c.xs.length xc] w' fun e w2=>e=.returned (.bool (alB s.now c.rows[j] c.xs c.xs.length))/\Below w'.heap.size w' w2):=fun w' u j hj hb hu=>alive_any B lp g p nv mv s Q w' (h.below hb) u _ c.rows[j] c.xs hu (hI0 w' (Kq.of_below hb hBs)) hx (hr _ (List.getElem_mem hj)) hl
  have HLw:Hid (∀ w',Below w.heap.size w w'->LfQ B lp g p nv mv s Q w'):=fun w' hb=>h.below hb
  have HI0:Hid (IntsK B w (.slice xa c.xs.length xc) c.xs):=hI0;have HX:Hid (∀ x∈c.xs,0<=x/\x<(s.now.length:Int)):=hx;have HTs:Hid (∀ q∈Q,q.ts.length<=1000):=hts;have HSm:Hid (∀ w' (x:Nat) (hx:x<s.now.length) Q' fn caps t,LfQ B lp g p nv mv s Q' w'->TestIs B w' (.func (.func fn) #[] caps) t->(∀ q∈Q',q.ts.length<=100000)->Calls Tryz.prog 154 #[.pointer (some ⟨lp,0,none⟩),.int .i64 (x:Int),.func (.func fn) #[] caps] w' (KqOut B lp g p nv mv s (someQ Q' x t) w')):=fun w' x hx Q' fn caps t hL hT hl=>hL.some x hx fn caps t hT hl
  obtain ⟨f,hf⟩:∃ f:List Int->Bool,(fun r=>alB s.now r c.xs c.xs.length)=f:=⟨_,rfl⟩;have HF:Hid ((fun r=>alB s.now r c.xs c.xs.length)=f):=hf;have HRr:Hid (∀ r∈c.rows,r.length=c.xs.length):=hr;have c9:W.cell? ⟨w.heap.size,9,none⟩=some (.slice ra c.rows.length rc):=cell_of g0 9;have HG1:Hid (W.heap[w.heap.size+1]?=some (.cells #[.slice none 0 0] 54 (0,0))):=g1;have hcv:cnVal c vt (.slice xa c.xs.length xc) vb (.slice ra c.rows.length rc)=.agg #[.int .i64 c.kind,.int .i64 c.op,vt,.int .i64 c.k,.int .i64 c.v,.int .i64 c.x,.int .i64 c.y,.slice xa c.xs.length xc,vb,.slice ra c.rows.length rc]:=rfl;rw [hcv];clear h hts hx hr hBs hb0 g0 g1 hcv hI0 hC hf hrows hsz;go_enter Tryz.func138,Tryz.ntmps138;go_wp2_with fail
  try rw [hW]
  clear hW;go_wp2_with fail
  go_loopw [13] (fun iv wr=>∃ (k:Nat) (aa:Option Addr) (ac:Nat) (us:List Value),iv=.int .i64 (k:Int)/\k<=c.rows.length/\Hid (wr.heap[w.heap.size+1]?=some (.cells #[.slice aa ((c.rows.take k).filter f).length ac] 54 (0,0)))/\Hid (wr.ownsRow (w.heap.size+2) 27 1 (.slice aa ((c.rows.take k).filter f).length ac) ((c.rows.take k).filter f).length us)/\Hid (UsK B w us ((c.rows.take k).filter f))/\Hid (Below (w.heap.size+1) W wr)) (fun iv _=>c.rows.length-(intOf iv).toNat)
  case atStart=>exact ⟨0,none,0,[],rfl,Nat.zero_le _,HG1,World.ownsRow_nil _ _ _ _,⟨rfl,fun j h1 _ _ _=>absurd h1 (Nat.not_lt_zero _)⟩,Below.refl _ _⟩
  case round=>
  obtain ⟨k,aa,ac,us,rfl,hk,HA,HO,HU,HBr⟩:=hrel;clear c9
  by_cases hkn:k<c.rows.length
  · have hkI:(k:Int)<(c.rows.length:Int):=by omega
    obtain ⟨b,off,u,rfl,hu⟩:=HRw.out k hkn;have HUr:Hid (∀ w',Below B w w'->IntsAt w' u c.rows[k]):=fun w' hb=>(hu w' hb).2
    have hBw:Below B w wr:=(HWw.out wr HBr.out).mono HBs.out;have f0:=(hu wr hBw).1;obtain ⟨ua,uc,hue,_⟩:=(hu wr hBw).2.form;subst hue;have f7:wr.cell? ⟨w.heap.size,7,none⟩=some (.slice xa c.xs.length xc):=cell_of (HN.out wr HBr.out) 7;have hlen:=List.length_filter_le f (c.rows.take k);have hlen2:(c.rows.take k).length<=64:=by rw [List.length_take];omega
    have HAk:=HAl.out wr _ k hkn (HWw.out wr HBr.out) (hu wr hBw).2;have hnx:=take_filter_next (f:=f) hkn;have hfk:alB s.now c.rows[k] c.xs c.xs.length=f c.rows[k]:=congrFun HF.out c.rows[k];rw [hfk] at HAk;have HSz2:Hid (w.heap.size+2<=wr.heap.size):=Nat.le_trans (Nat.le_of_eq HSz.out.symm) HBr.out.size;obtain ⟨AL,hAL⟩:∃ AL,(c.rows.take k).filter f=AL:=⟨_,rfl⟩;rw [hAL] at hnx HA HO HU hlen;obtain ⟨row,hrow⟩:∃ row,c.rows[k]=row:=⟨_,rfl⟩;rw [hrow] at hnx HAk HUr f0;have HN2:Hid ((c.rows.take (k+1)).filter f=AL++(if f row=true then [row] else [])):=hnx;obtain ⟨r,hr⟩:∃ r,f row=r:=⟨_,rfl⟩;rw [hr] at HAk HN2;obtain ⟨rl,hrl2⟩:∃ n,row.length=n:=⟨_,rfl⟩;rw [hrl2] at HAk f0 HUr
    have HAk':Hid (Calls Tryz.prog 163 #[.pointer (some ⟨lp,0,none⟩),.slice ua rl uc,.slice xa c.xs.length xc] wr fun e w2=>e=.returned (.bool r)/\Below wr.heap.size wr w2):=HAk;clear hu hBw HAk hnx hfk hAL hrow hr hrl2
    cases r with
    | false =>
      have HN3:Hid ((c.rows.take (k+1)).filter f=AL):=by show _=_;rw [HN2.out];simp
      go_wp2_with (go_at_call 163;refine cA HAk'.out ?_;rintro e w2 ⟨rfl,hb2⟩);go_roundw
      case rel=>
        refine ⟨k+1,aa,ac,us,by go_num,hkn,?_,?_,?_,?_⟩
        · show _=_;rw [HN3.out];exact (hb2.block _ (by have:=HSz2.out;omega)).trans HA.out
        · show World.ownsRow _ _ _ _ _ _ _;rw [HN3.out];exact own_below HO.out hb2
        · show UsK _ _ _ _;rw [HN3.out];exact HU.out
        · exact HBr.out.trans (hb2.mono (by have:=HSz2.out;omega))
      case measure=>simp [intOf];omega
    | true =>
      have HN3:Hid ((c.rows.take (k+1)).filter f=AL++[row]):=by show _=_;rw [HN2.out];simp
      have HSt:Hid (∀ w2,Below wr.heap.size wr w2->w2.cell? ⟨w.heap.size+1,0,none⟩=some (.slice aa AL.length ac)):=fun w2 hb2=>cell_of ((hb2.block _ (by have:=HSz2.out;omega)).trans HA.out) 0
      have HVs:Hid (∀ w2,Below wr.heap.size wr w2->∃ V,w2.alloc (.cells #[.slice ua rl uc] 27)=V/\Hid (SrcAt V (.slice (some ⟨w2.heap.size,0,none⟩) 1 1) 1 1 [.slice ua rl uc])/\Hid (V.ownsRow (w.heap.size+2) 27 1 (.slice aa AL.length ac) AL.length us)/\Hid (Below (w.heap.size+1) W V)/\Hid (V.heap[w.heap.size+1]?=some (.cells #[.slice aa AL.length ac] 54 (0,0)))/\Hid (w.heap.size+2<=V.heap.size)):=fun w2 hb2=>by
        obtain ⟨V,hV⟩:∃ V,w2.alloc (.cells #[.slice ua rl uc] 27)=V:=⟨_,rfl⟩;have hbV:Below w2.heap.size w2 V:=bAe hV;have gV:V.heap[w2.heap.size]?=some (.cells #[.slice ua rl uc] 27 (0,0)):=hAe hV;have hA2:w2.heap[w.heap.size+1]?=some (.cells #[.slice aa AL.length ac] 54 (0,0)):=(hb2.block _ (by have:=HSz2.out;omega)).trans HA.out;exact ⟨V,hV,src_one gV rfl,own_below (own_below HO.out hb2) hbV,(HBr.out.trans (hb2.mono (by have:=HSz2.out;omega))).trans (hbV.mono (by have:=HSz2.out;have:=hb2.size;omega)),(hbV.block _ (by have:=HSz2.out;have:=hb2.size;omega)).trans hA2,Nat.le_trans HSz2.out (Nat.le_trans hb2.size hbV.size)⟩
      go_wp2_with (first
        | (go_at_call 163;refine cA HAk'.out ?_;rintro e w2 ⟨rfl,hb2⟩;(have d0:=HSt.out w2 hb2);(obtain ⟨V,hV,HSc,HOV,HBV,HAV,HSV⟩:=HVs.out w2 hb2);clear hb2 f0 f7)
        | (at_builtin;(try rw [hV]);refine append_src V rfl (.tmp 22) (.tmp 24) 54 27 (.slice none 0 0) 1 24 rfl und30 info28 rfl (by decide) (w.heap.size+2) _ _ AL.length 1 us [.slice ua rl uc] (by rfl) (by rfl) HOV.out HSc.out (by unfold maxLen;omega) (by omega) HSV.out ?_;intro v4 w4 g1 g2 g3;(obtain ⟨aa4,ac4,rfl⟩:=own_slice g1);(have hA4:w4.heap[w.heap.size+1]?=some (.cells #[.slice aa AL.length ac] 54 (0,0)):=(g2.block _ (by have:=HSV.out;omega) (fun e=>own_type HOV.out HAV.out (by decide) e.symm)).trans HAV.out);(have d04:w4.cell? ⟨w.heap.size+1,0,none⟩=some (.slice aa AL.length ac):=cell_of hA4 0);(have dz:w4.frozen? ⟨w.heap.size+1,0,none⟩=false:=frozen_of hA4 0)))
      have HB4:Hid (Below (w.heap.size+1) W w4):=HBV.out.grown g2 (by have:=HSV.out;omega) (fun g hg=>by have:=(HOV.out.lt g hg).1;omega);have HO4:Hid (w4.ownsRow (w.heap.size+2) 27 1 (.slice aa4 (AL.length+1) ac4) (AL.length+1) (us++[.slice ua rl uc])):=g1;have HA4:Hid (w4.heap[w.heap.size+1]?=some (.cells #[.slice aa AL.length ac] 54 (0,0))):=hA4;clear g1 g2 g3 hA4;go_wp2_with fail
      go_roundw
      case rel=>
        have e1:((c.rows.take (k+1)).filter f).length=AL.length+1:=by rw [HN3.out,List.length_append];rfl
        refine ⟨k+1,aa4,ac4,us++[.slice ua rl uc],by go_num,hkn,?_,?_,?_,?_⟩
        · show _=_;rw [e1];exact heap_setCell_same _ _ _ _ _ _ HA4.out
        · show World.ownsRow _ _ _ _ _ _ _;rw [e1];exact own_set HO4.out (by omega) _
        · show UsK _ _ _ _;rw [HN3.out];exact HU.out.snoc HUr.out
        · exact HB4.out.setCell (by show _<=w.heap.size+1;omega) _
      case measure=>simp [intOf];omega
  · have hke:k=c.rows.length:=by omega
    subst hke;have hkI:¬ (c.rows.length:Int)<(c.rows.length:Int):=by omega
    have HO2:Hid (wr.ownsRow (w.heap.size+2) 27 1 (.slice aa (aliveL s.now c).length ac) (aliveL s.now c).length us):=by
      have:=HO.out;rw [List.take_length,<-HF.out] at this;exact this
    have HA2:Hid (wr.heap[w.heap.size+1]?=some (.cells #[.slice aa (aliveL s.now c).length ac] 54 (0,0))):=by
      have:=HA.out;rw [List.take_length,<-HF.out] at this;exact this
    have HU2:Hid (UsK B w us (aliveL s.now c)):=by
      have:=HU.out;rw [List.take_length,<-HF.out] at this;exact this
    clear HO HA HU;have f7:wr.cell? ⟨w.heap.size,7,none⟩=some (.slice xa c.xs.length xc):=cell_of (HN.out wr HBr.out) 7;have HKw:Hid (Kq B w wr):=Kq.of_below (HWw.out wr HBr.out) HBs.out;have hBr:B<=wr.heap.size:=Nat.le_trans HBs.out HKw.out.below.size;have hal:(aliveL s.now c).length<=64:=Nat.le_trans (List.length_filter_le _ _) hrl;have HL0:Hid (LfQ B lp g p nv mv s Q wr):=HLw.out wr (HWw.out wr HBr.out);have HG:Hid (∀ w',Kq B wr w'->w'.heap[w.heap.size+1]?=some (.cells #[.slice aa (aliveL s.now c).length ac] 54 (0,0))/\RowsAt w' (.slice aa (aliveL s.now c).length ac) (aliveL s.now c)):=fun w' hk=>⟨hk.block HA2.out (by decide) (by decide),HU2.out.rows HO2.out (by unfold maxLen;omega) HKw.out.below hk⟩
    have HRl:Hid (∀ r∈aliveL s.now c,r.length=c.xs.length):=fun r hr=>HRr.out r (List.mem_filter.1 hr).1
    have HTe:Hid (∀ (K k:Nat) V,Kq B wr V->V.heap[K]?=some (.cells #[.int .i64 (k:Int)] 3 (0,0))->k<c.xs.length->TestIs B V (.func (.func 164) #[] #[.pointer (some ⟨w.heap.size+1,0,none⟩),.pointer (some ⟨K,0,none⟩)]) (fun v=>(aliveL s.now c).any (rowB k v))):=fun K k V hk hK hkx=>⟨164,_,rfl,enters94,fun w2 hk2 u _ _=>by
      have h2:=HG.out w2 (hk.trans hk2)
      exact clos94 _ (aliveL s.now c) (w.heap.size+1) K k c.xs.length u w2 (cell_of h2.1 0) h2.2 (cell_of (hk2.block hK (by decide) (by decide)) 0) HRl.out hkx hl hal⟩
    have HXc:Hid (∀ k (hk:k<c.xs.length) w',Kq B wr w'->∃ b off,xa=some ⟨b,off,none⟩/\w'.cell? ⟨b,off+k,none⟩=some (.int .i64 c.xs[k])):=fun k hk w' hkq=>by
      obtain ⟨a',c',e1,_,hcell⟩:=HI0.out w' (HKw.out.trans hkq);injection e1 with e1 _ _;obtain ⟨b,off,ha,_,hcl⟩:=hcell (by omega);exact ⟨b,off,e1.trans ha,hcl k hk⟩
    have HQt:Hid (∀ k,∀ q∈tabF s.now c Q k,q.ts.length<=1000+k):=fun k=>tabF_ts HTs.out k
    have HQn:Hid (∀ k,tabF s.now c Q (k+1)=someQ (tabF s.now c Q k) (c.xs.getD k 0).toNat (fun v=>(aliveL s.now c).any (rowB k v))):=tabF_next s.now c Q;have HR:Hid (tableQ s.now c Q=if 0<(aliveL s.now c).length then some (tabF s.now c Q c.xs.length) else none):=rfl;have HT0:Hid (LfQ B lp g p nv mv s (tabF s.now c Q 0) wr):=HL0.out;generalize tabF s.now c Q=T at HQt HQn HR HT0
    have HA3:Hid (∀ w',Kq B wr w'->w'.cell? ⟨w.heap.size+1,0,none⟩=some (.slice aa (aliveL s.now c).length ac)):=fun w' hk=>cell_of (HG.out w' hk).1 0
    clear HA2 HO2 HU2 HRl HG HN HRw HAl HRr HL0 HLw HG1 HTs;generalize aliveL s.now c=L at *
    go_wp2_with fail
    clear f7;go_loopw [30] (fun iv wq=>∃ (k:Nat),iv=.int .i64 (k:Int)/\k<=c.xs.length/\Hid (LfQ B lp g p nv mv s (T k) wq)/\Hid (Kq B wr wq)) (fun iv _=>c.xs.length-(intOf iv).toNat)
    case atStart=>exact ⟨0,rfl,Nat.zero_le _,HT0,Kq.refl _ _⟩
    case round=>
    obtain ⟨k,rfl,hk,HLk,HKk⟩:=hrel;rename World=>wq
    by_cases hkn:k<c.xs.length
    · have hkI:(k:Int)<(c.xs.length:Int):=by omega
      obtain ⟨b,off,rfl,f0⟩:=HXc.out k hkn wq HKk.out;obtain ⟨m,hm,hmn⟩:∃ m:Nat,c.xs[k]=(m:Int)/\m<s.now.length:=⟨c.xs[k].toNat,by have:=HX.out _ (List.getElem_mem hkn);omega,by have:=HX.out _ (List.getElem_mem hkn);omega⟩;have hnx:=HQn.out k;rw [getD_at hkn,hm,Int.toNat_natCast] at hnx;rw [hm] at f0;have HNx:Hid (T (k+1)=someQ (T k) m (fun v=>L.any (rowB k v))):=hnx;obtain ⟨V,hV⟩:∃ V,wq.alloc (.cells #[.int .i64 (k:Int)] 3)=V:=⟨_,rfl⟩;have hbV:Below wq.heap.size wq V:=bAe hV;have gV:V.heap[wq.heap.size]?=some (.cells #[.int .i64 (k:Int)] 3 (0,0)):=hAe hV;have hKV:Kq B wr V:=HKk.out.next hbV (Nat.le_trans hBr HKk.out.below.size);have HKV:Hid (Kq B wr V):=hKV
      have HS:Hid (Calls Tryz.prog 154 #[.pointer (some ⟨lp,0,none⟩),.int .i64 (m:Int),.func (.func 164) #[] #[.pointer (some ⟨w.heap.size+1,0,none⟩),.pointer (some ⟨wq.heap.size,0,none⟩)]] V (KqOut B lp g p nv mv s (someQ (T k) m (fun v=>L.any (rowB k v))) V)):=HSm.out V m hmn (T k) 164 _ _ (HLk.out.below hbV) (HTe.out wq.heap.size k V hKV gV hkn) (fun q hq=>Nat.le_trans (HQt.out k q hq) (by omega));clear hnx hm hbV gV hKV
      go_wp2_with (first
        | (go_at_call 154;(try rw [hV]);refine cA HS.out ?_;rintro e w5 ⟨rfl,hL5,hk5⟩;clear hV f0))
      go_roundw
      case rel=>exact ⟨k+1,by go_num,hkn,(by show LfQ _ _ _ _ _ _ _ _ _;rw [HNx.out];exact hL5),HKV.out.trans hk5⟩
      case measure=>simp [intOf];omega
    · have hke:k=c.xs.length:=by omega
      subst hke;have hkI:¬ (c.xs.length:Int)<(c.xs.length:Int):=by omega
      have d0:=HA3.out wq HKk.out;go_wp2_with fail
      go_ret
      by_cases h0:0<L.length
      · have hRe:tableQ s.now c Q=some (T c.xs.length):=by rw [HR.out,if_pos h0]
        refine ⟨ret_bool (by rw [hRe];simp;omega),fun Q' hq=>?_,HKw.out.trans HKk.out⟩;rw [hRe] at hq;injection hq with hq;rw [<-hq];exact HLk.out
      · have hRe:tableQ s.now c Q=none:=by rw [HR.out,if_neg h0]
        refine ⟨ret_bool (by rw [hRe];exact decide_eq_false h0),fun Q' hq=>?_,HKw.out.trans HKk.out⟩;rw [hRe] at hq
        cases hq
end Go.Proofs.YtjnckfchgcmmpaaGreatDoor
