import Derived.Test.YtjnckfchgcmmpaaGreatDoorJ05
import Derived.Test.YtjnckfchgcmmpaaGreatDoorHlIv
import Derived.Test.YtjnckfchgcmmpaaGreatDoorJ31
import Derived.Test.YtjnckfchgcmmpaaGreatDoorJ34
import Derived.Test.YtjnckfchgcmmpaaGreatDoorJ21
import Derived.Test.YtjnckfchgcmmpaaGreatDoorJ26
import Derived.Test.YtjnckfchgcmmpaaGreatDoorJ35
import Derived.Test.YtjnckfchgcmmpaaGreatDoorJ40
import Derived.Test.YtjnckfchgcmmpaaGreatDoorJ39
import Derived.Deep.OwnRows
import Derived.Laws.Tables
namespace Go.Proofs.YtjnckfchgcmmpaaGreatDoor
open Go.RowKit
set_option maxRecDepth 10000
set_option maxHeartbeats 8000000
theorem make_ints (c:Int) (h0:0<=c) (h1:c<=100000000) (w:World):(Instr.makeSlice 27 (.int .i64 0) (.int .i64 c)).run Tryz.prog w=.ok (.slice (some ⟨w.heap.size,0,none⟩) 0 c.toNat) (w.alloc (.cells (madeCells #[.int .i64 0] c.toNat) 3)):=by
  obtain ⟨i,hi,hz,hs,hbb⟩:=info_of info3;have hr:=run_make (P:=Tryz.prog) w 27 3 i (.int .i64 0) und28 hi hz .i64 .i64 0 c (Int.le_refl _) h0 (by rw [hbb];omega) (by omega);rw [hs,Nat.mul_one] at hr;exact hr
theorem made_own (w:World) (B n:Nat) (hB:B<=w.heap.size) (hn:n<=100000000):(w.alloc (.cells (madeCells #[.int .i64 0] n) 3)).ownsRow B 3 1 (.slice (some ⟨w.heap.size,0,none⟩) 0 n) 0 []:=by
  refine ⟨rfl,.inr ⟨w.heap.size,n,_,rfl,hB,heap_alloc_new w _,Nat.zero_le _,by unfold maxLen;omega,?_,?_⟩⟩
  · unfold madeCells
    simp
  · simp
def HlR (W:World) (lo hi:Int) (s5:Value) (wx:World):Prop:=∃ Hb v,s5=.pointer (some ⟨Hb,0,none⟩)/\Hid (wx.heap[Hb]?=some (.cells #[.int .i64 lo,.int .i64 hi,v] 58 (0,0)))/\Hid (wx.ownsRow W.heap.size 3 1 v 0 [])/\Hid (W.heap.size<=Hb)/\Hid (Below W.heap.size W wx)
theorem hlR_a {W:World} {lo hi:Int} {n:Nat} (hn:n<=100000000):HlR W lo hi (.pointer (some ⟨W.heap.size+1,0,none⟩)) ((W.alloc (.cells (madeCells #[.int .i64 0] n) 3)).alloc (.cells #[.int .i64 lo,.int .i64 hi,.slice (some ⟨W.heap.size,0,none⟩) 0 n] 58)).drew:=
  ⟨_,_,rfl,heap_alloc2_new W _ _,(made_own W _ n (Nat.le_refl _) hn).alloc _,Nat.le_succ _,(((Below.refl _ _).alloc (Nat.le_refl _) _).alloc (by simp) _).drew⟩
theorem hlR_b {W:World} {lo hi:Int} {n:Nat} (hn:n<=100000000):HlR W lo hi (.pointer (some ⟨W.heap.size,0,none⟩)) ((W.alloc (.cells #[.int .i64 lo,.int .i64 hi,.slice (some ⟨W.heap.size+1,0,none⟩) 0 n] 58)).alloc (.cells (madeCells #[.int .i64 0] n) 3)).drew:=by
  have h1:=made_own (W.alloc (.cells #[.int .i64 lo,.int .i64 hi,.slice (some ⟨W.heap.size+1,0,none⟩) 0 n] 58)) W.heap.size n (by simp) hn;have e:(W.alloc (.cells #[.int .i64 lo,.int .i64 hi,.slice (some ⟨W.heap.size+1,0,none⟩) 0 n] 58)).heap.size=W.heap.size+1:=by simp
  rw [e] at h1;exact ⟨_,_,rfl,(heap_alloc_old (W.alloc _) _ (by simp)).trans (heap_alloc_new W _),h1,Nat.le_refl _,(((Below.refl _ _).alloc (Nat.le_refl _) _).alloc (by simp) _).drew⟩
theorem own_base2 {w:World} {B B':Nat} {e:TypeId} {size:Nat} {v:Value} {n:Nat} {xs:List Value} (h:w.ownsRow B e size v n xs) (hB:B'<=B):w.ownsRow B' e size v n xs:=by
  obtain ⟨h1,h2⟩:=h;refine ⟨h1,?_⟩;rcases h2 with h2 | ⟨g,cap,cur,e1,e2,e3⟩
  · exact .inl h2
  · exact .inr ⟨g,cap,cur,e1,Nat.le_trans hB e2,e3⟩
theorem own_bl {w w':World} {B:Nat} {e:TypeId} {size:Nat} {v:Value} {n:Nat} {xs:List Value} (h:w.ownsRow B e size v n xs) (hb:Below w.heap.size w w'):w'.ownsRow B e size v n xs:=own_off h (S:=fun _=>False) (fun _ _ h=>h) ⟨hb.size,fun k hk _=>hb.block k hk⟩
def HlI (W:World) (Hb:Nat) (lo hi:Int) (L:List Int) (wr:World):Prop:=∃ v,wr.heap[Hb]?=some (.cells #[.int .i64 lo,.int .i64 hi,v] 58 (0,0))/\wr.ownsRow W.heap.size 3 1 v L.length (L.map (.int .i64))/\Below W.heap.size W wr
theorem hlI_next {W w7 wr:World} {Hb:Nat} {lo hi x:Int} {L:List Int} {v v7:Value} (hH:W.heap.size<=Hb) (h0:wr.heap[Hb]?=some (.cells #[.int .i64 lo,.int .i64 hi,v] 58 (0,0))) (hb:Below W.heap.size W wr) (ho:wr.ownsRow W.heap.size 3 1 v L.length (L.map (.int .i64)))
    (h7:w7.ownsRow W.heap.size 3 1 v7 (L.length+1) (L.map (.int .i64)++[.int .i64 x])) (hg:(wr.alloc (.cells [.int .i64 x].toArray 3)).grownBy w7 v.ownBlock) (hn:v7.ownBlock=v.ownBlock∨v7.ownBlock=some (wr.heap.size+1)):HlI W Hb lo hi (L++[x]) (w7.setCell ⟨Hb,2,none⟩ v7)/\w7.cell? ⟨Hb,2,none⟩=some v/\w7.frozen? ⟨Hb,2,none⟩=false:=by
  have lH:=(hLt h0);have hne:v.ownBlock≠some Hb:=fun e=>by
    rcases ho.2 with ⟨rfl,_⟩ | ⟨g,cap,cur,rfl,_,h3,_⟩
    · cases e
    · have e:g=Hb:=by simpa [Value.ownBlock] using e
      subst e;rw [h0] at h3;injection h3 with h3;injection h3 with _ h4 _
      cases h4
  have k0:w7.heap[Hb]?=some (.cells #[.int .i64 lo,.int .i64 hi,v] 58 (0,0)):=(hg.block _ (by simp;omega) (fun e=>hne e.symm)).trans ((heap_alloc_old wr _ lH).trans h0);have hbs:=hb.size;refine ⟨⟨v7,?_,?_,?_⟩,cell_of k0 2,frozen_of k0 2⟩
  · have hE:=heap_setCell_same w7 Hb 2 _ 58 v7 k0
    simpa only [List.setIfInBounds_toArray,List.set_cons_zero,List.set_cons_succ] using hE
  · rw [List.length_append,List.map_append]
    refine own_off h7 (fun g hgg e=>?_) (Off.set (S:=fun b=>b=Hb) _ rfl);have e:g=Hb:=e;rcases hn with hn | hn
    · rw [hn,e] at hgg
      exact hne hgg
    · rw [hn] at hgg
      injection hgg with hgg;omega
  · exact (((hb.alloc hbs _).grown hg (by simp;omega) (fun k hk=>(ho.lt k hk).1))).setCell hH _
theorem set3h {w:World} {N:Nat} {a0 a1 a2:Value} {t:TypeId} (h:w.heap[N]?=some (.cells #[a0,a1,a2] t (0,0))) (b0 b1 b2:Value):(((w.setCell ⟨N,0,none⟩ b0).setCell ⟨N,1,none⟩ b1).setCell ⟨N,2,none⟩ b2).heap[N]?=some (.cells #[b0,b1,b2] t (0,0)):=by
  have hE:=heap_setCell_same _ N 2 _ t b2 (heap_setCell_same _ N 1 _ t b1 (heap_setCell_same w N 0 _ t b0 h));simpa only [List.setIfInBounds_toArray,List.set_cons_zero,List.set_cons_succ] using hE
theorem info37s:(Tryz.prog.info? 58).map (·.size)=some 3:=by kernel_rfl
theorem fil_next {xs:List Int} {f:Int->Bool} {k:Nat} (hk:k<xs.length):(xs.take (k+1)).filter f=(xs.take k).filter f++if f xs[k] then [xs[k]] else []:=by
  rw [List.take_succ_eq_append_getElem hk,List.filter_append]
  congr 1
  by_cases h:f xs[k]=true
  · simp [h]
  · simp [h]
theorem hall_any (xa:Option Addr) (xc:Nat) (xs:List Int) (vg:Value) (i:Iv) (w:World) (hX:IntsAt w (.slice xa xs.length xc) xs) (hx:∀ x∈xs,0<=x/\x<32) (hi:i.Ok) (hl:xs.length<=1000000):Calls Tryz.prog 113 #[.agg #[.slice xa xs.length xc,vg],i.val] w fun e w'=>∃ v,e=.returned (.agg #[.int .i64 i.lo,.int .i64 i.hi,v])/\Hid (w'.ownsRow w.heap.size 3 1 v (xs.filter fun x=>i.f x.toNat).length ((xs.filter fun x=>i.f x.toNat).map (.int .i64)))/\Below w.heap.size w w':=by
  obtain ⟨lo,hi',f,n⟩:=i;obtain ⟨l1,l2,h1,h2,n1,n2⟩:=hi;unfold Iv.val;dsimp only at l1 l2 h1 h2 n1 n2 ⊢;have HAt:Hid (∀ (x:Int) w',0<=x->x<32->Calls Tryz.prog 129 #[bVal f,.int .i64 x] w' fun e w2=>e=.returned (.bool (f x.toNat))/\Below w'.heap.size w' w2):=fun x w' h1 h2=>by
    obtain ⟨y,rfl⟩:∃ y:Nat,x=(y:Int):=⟨x.toNat,by omega⟩;exact bAt_any f y (by omega) w'
  have HAt0:=HAt.out;unfold bVal at HAt0;generalize wd f 0=a0 at *
  generalize wd f 1=a1 at *
  generalize wd f 2=a2 at *
  generalize wd f 3=a3 at *
  obtain ⟨W,hW⟩:∃ W,((w.alloc (.cells #[.slice xa xs.length xc,vg] 147)).alloc (.cells #[.int .i64 lo,.int .i64 hi',.int .u8 (a0:Int),.int .u8 (a1:Int),.int .u8 (a2:Int),.int .u8 (a3:Int),.int .i64 n] 157)).alloc (.cells #[.int .i64 0,.int .i64 0,.slice none 0 0] 58)=W:=⟨_,rfl⟩;have HB:Hid (Below w.heap.size w W):=by rw [<-hW];exact alloc3b w _ _ _
  have g0:W.heap[w.heap.size]?=some (.cells #[.slice xa xs.length xc,vg] 147 (0,0)):=by rw [<-hW];exact alloc3_0 w _ _ _
  have g1:W.heap[w.heap.size+1]?=some (.cells #[.int .i64 lo,.int .i64 hi',.int .u8 (a0:Int),.int .u8 (a1:Int),.int .u8 (a2:Int),.int .u8 (a3:Int),.int .i64 n] 157 (0,0)):=by rw [<-hW];exact alloc3_1 w _ _ _
  have g2:W.heap[w.heap.size+1+1]?=some (.cells #[.int .i64 0,.int .i64 0,.slice none 0 0] 58 (0,0)):=by rw [<-hW];exact alloc3_2 w _ _ _
  have e0:=cell_of g1 0;have e1:=cell_of g1 1;have e6:=cell_of g1 6;have hmk:=make_ints n n1 n2;have hlt1:w.heap.size+1<W.heap.size:=(hLt g1);have hlt2:w.heap.size+1<W.heap.size+1:=by omega
  go_enter Tryz.func113,Tryz.ntmps113;go_upto_region 1 with fail
  try rw [hW]
  clear hW;go_cut [5] from 8 to 17 (fun s5 wx=>HlR W lo hi' s5 wx)
  case first=>
    go_region
    · go_wp2_with fail
      go_meet;exact hlR_a (by omega)
    · go_wp2_with fail
      go_meet;exact hlR_b (by omega)
  case rest=>
  obtain ⟨Hb,v0,rfl,H0,HO,HHb,HBx⟩:=hcut;rename World=>wx;have HI0:Hid (HlI W Hb lo hi' ((xs.take 0).filter fun x=>f x.toNat) wx):=⟨v0,H0.out,HO.out,HBx.out⟩;have HAt1:Hid (∀ (x:Int) w',0<=x->x<32->Calls Tryz.prog 129 #[.agg #[.int .u8 (a0:Int),.int .u8 (a1:Int),.int .u8 (a2:Int),.int .u8 (a3:Int)],.int .i64 x] w' fun e w2=>e=.returned (.bool (f x.toNat))/\Below w'.heap.size w' w2):=HAt0;have HX:Hid (∀ w',Below W.heap.size W w'->∀ (k:Nat) (hk:k<xs.length),∃ b off,xa=some ⟨b,off,none⟩/\w'.cell? ⟨b,off+k,none⟩=some (.int .i64 xs[k])):=fun w' hb k hk=>by
    obtain ⟨a',c',e,_,hcl⟩:=hX;injection e with e1 _ _;subst e1;obtain ⟨b,off,e,hlt,hc⟩:=hcl (by omega);exact ⟨b,off,e,((HB.out.trans (hb.mono HB.out.size)).cell (p:=⟨b,_,none⟩) hlt).trans (hc k hk)⟩
  have HG:Hid (∀ w',Below W.heap.size W w'->w'.cell? ⟨w.heap.size,0,none⟩=some (.slice xa xs.length xc)/\(w'.cell? ⟨w.heap.size+1,2,none⟩=some (.int .u8 (a0:Int))/\w'.cell? ⟨w.heap.size+1,3,none⟩=some (.int .u8 (a1:Int))/\w'.cell? ⟨w.heap.size+1,4,none⟩=some (.int .u8 (a2:Int))/\w'.cell? ⟨w.heap.size+1,5,none⟩=some (.int .u8 (a3:Int)))/\w'.heap[w.heap.size+1+1]?=some (.cells #[.int .i64 0,.int .i64 0,.slice none 0 0] 58 (0,0))):=fun w' hb=>by
    have q0:=(hb.block _ (hLt g0)).trans g0;have q1:=(hb.block _ (hLt g1)).trans g1;exact ⟨cell_of q0 0,⟨cell_of q1 2,cell_of q1 3,cell_of q1 4,cell_of q1 5⟩,(hb.block _ (hLt g2)).trans g2⟩
  have Hxs:Hid (∀ (k:Nat) (hk:k<xs.length),0<=xs[k]/\xs[k]<32):=fun k hk=>hx _ (List.getElem_mem hk)
  have Hlt:Hid (w.heap.size+1+1<W.heap.size):=(hLt g2);clear g0 g1 g2 e0 e1 e6 hmk hlt1 hlt2 H0 HO HBx HAt HAt0 hX hx;obtain ⟨p0,_⟩:=HG.out wx HI0.out.choose_spec.2.2;go_upto_region 3 with fail
  clear p0;go_loopw [21] (fun iv wr=>∃ (k:Nat),iv=.int .i64 (k:Int)/\k<=xs.length/\Hid (HlI W Hb lo hi' ((xs.take k).filter fun x=>f x.toNat) wr)) (fun iv _=>xs.length-(intOf iv).toNat)
  case atStart=>exact ⟨0,rfl,Nat.zero_le _,HI0⟩
  case round=>
  obtain ⟨k,rfl,hk,HI⟩:=hrel;obtain ⟨v,j0,jo,jb⟩:=HI.out;obtain ⟨va,vp,rfl⟩:=own_slice jo;have HJ0:Hid (wr.heap[Hb]?=some (.cells #[.int .i64 lo,.int .i64 hi',.slice va ((xs.take k).filter fun x=>f x.toNat).length vp] 58 (0,0))):=j0;have HJo:Hid (wr.ownsRow W.heap.size 3 1 (.slice va ((xs.take k).filter fun x=>f x.toNat).length vp) ((xs.take k).filter fun x=>f x.toNat).length (((xs.take k).filter fun x=>f x.toNat).map (.int .i64))):=jo;have HJb:Hid (Below W.heap.size W wr):=jb;have c0:=cell_of j0 0;have c1:=cell_of j0 1;have c2:=cell_of j0 2;clear j0 jo jb HI;obtain ⟨_,⟨q2,q3,q4,q5⟩,_⟩:=HG.out wr HJb.out
  by_cases hkn:k<xs.length
  case neg=>
    have hke:k=xs.length:=by omega
    subst hke;have hkI:¬ (xs.length:Int)<(xs.length:Int):=by omega
    rw [List.take_length] at *;obtain ⟨_,_,r2⟩:=HG.out wr HJb.out;have HR2:Hid (wr.heap[w.heap.size+1+1]?=some (.cells #[.int .i64 0,.int .i64 0,.slice none 0 0] 58 (0,0))):=r2;have s0:=cell_of r2 0;have s1:=cell_of r2 1;have s2:=cell_of r2 2;have sz:∀ i,wr.frozen? ⟨w.heap.size+1+1,i,none⟩=false:=fun i=>frozen_of r2 i
    clear r2;go_wp2_with fail
    refine bodyPost_ret (v:=.agg #[.int .i64 lo,.int .i64 hi',.slice va (xs.filter fun x=>f x.toNat).length vp]) (results_cell_row Tryz.results113 _ _ (w.heap.size+1+1) 58 #[.int .i64 lo,.int .i64 hi',.slice va (xs.filter fun x=>f x.toNat).length vp] (0,0) _ rfl (set3h HR2.out _ _ _) Tryz.underlying58 rfl info37s) rfl ⟨_,rfl,?_,?_⟩
    · refine own_base2 (own_off HJo.out (fun g hg e=>?_) ((Off.set (S:=fun b=>b=w.heap.size+1+1) _ rfl).trans ((Off.set (S:=fun b=>b=w.heap.size+1+1) _ rfl).trans (Off.set (S:=fun b=>b=w.heap.size+1+1) _ rfl)))) HB.out.size
      have:=(HJo.out.lt g hg).1;have:=Hlt.out;omega
    · exact (((HB.out.trans (HJb.out.mono HB.out.size)).setCell (by show w.heap.size<=w.heap.size+1+1;omega) _).setCell (by show w.heap.size<=w.heap.size+1+1;omega) _).setCell (by show w.heap.size<=w.heap.size+1+1;omega) _
  case pos=>
  have hkI:(k:Int)<(xs.length:Int):=by omega
  obtain ⟨b,off,rfl,x0⟩:=HX.out wr HJb.out k hkn;have hxk:=Hxs.out k hkn;have HN:Hid ((xs.take (k+1)).filter (fun x=>f x.toNat)=(xs.take k).filter (fun x=>f x.toNat)++if f xs[k].toNat then [xs[k]] else []):=fil_next hkn;have HA:=HAt1.out xs[k] wr hxk.1 hxk.2;obtain ⟨x,hx⟩:∃ x,xs[k]=x:=⟨_,rfl⟩;rw [hx] at x0 HN HA;obtain ⟨r,hr⟩:∃ r,f x.toNat=r:=⟨_,rfl⟩;rw [hr] at HN HA;have HA2:Hid (Calls Tryz.prog 129 #[.agg #[.int .u8 (a0:Int),.int .u8 (a1:Int),.int .u8 (a2:Int),.int .u8 (a3:Int)],.int .i64 x] wr fun e w2=>e=.returned (.bool r)/\Below wr.heap.size wr w2):=HA;have HGL:Hid (∀ w',Below wr.heap.size wr w'->HlI W Hb lo hi' ((xs.take k).filter fun x=>f x.toNat) w'/\w'.cell? ⟨Hb,2,none⟩=some (.slice va ((xs.take k).filter fun x=>f x.toNat).length vp)):=fun w' hb=>by
    have h1:=(hb.block _ (hLt HJ0.out)).trans HJ0.out;exact ⟨⟨_,h1,own_bl HJo.out hb,bl_next HJb.out hb⟩,cell_of h1 2⟩
  have hfl:((xs.take k).filter fun x=>f x.toNat).length<=1000000:=by
    have:=List.length_filter_le (fun x:Int=>f x.toNat) (xs.take k);have:=List.length_take_le k xs;omega
  clear HA hx hr hxk HJo;obtain ⟨L,hL⟩:∃ L,(xs.take k).filter (fun x=>f x.toNat)=L:=⟨_,rfl⟩;rw [hL] at HN HGL hfl HJ0
  cases r with
  | false =>
    go_wp2_with (go_at_call 129;refine cA HA2.out ?_;rintro e w4 ⟨rfl,hb4⟩);go_roundw
    case rel=>exact ⟨k+1,by go_num,hkn,(by show HlI _ _ _ _ _ _;rw [HN.out];simpa using (HGL.out w4 hb4).1)⟩
    case measure=>simp [intOf];omega
  | true =>
    have HOne:Hid (∀ u∈([.int .i64 x]:List Value),u.oneCell'=true):=by
      intro u hu;rw [List.mem_singleton.1 hu];rfl
    have HAp:Hid (∀ w4,Below wr.heap.size wr w4->∃ o4,w4.ownsRow W.heap.size 3 1 (.slice va L.length vp) L.length o4/\o4=L.map (.int .i64)/\w4.heap[Hb]?=some (.cells #[.int .i64 lo,.int .i64 hi',.slice va L.length vp] 58 (0,0))/\Below W.heap.size W w4):=fun w4 hb=>by
      obtain ⟨v',q0,qo,qb⟩:=(HGL.out w4 hb).1;have h1:=(hb.block _ (hLt HJ0.out)).trans HJ0.out;have ev:v'=.slice va L.length vp:=by
        rw [h1] at q0;injection q0 with q0;injection q0 with q0;have:=congrArg (fun a=>a[2]?) q0;simpa using this.symm
      subst ev;exact ⟨_,qo,rfl,h1,qb⟩
    go_upto_region 6 with (go_at_call 129;refine cA HA2.out ?_;rintro e w4 ⟨rfl,hb4⟩);obtain ⟨_,ho4,rfl,hh4,hB4⟩:=HAp.out w4 hb4;have HO4:Hid (w4.ownsRow W.heap.size 3 1 (.slice va L.length vp) L.length (L.map (.int .i64))):=ho4;have HH4:Hid (w4.heap[Hb]?=some (.cells #[.int .i64 lo,.int .i64 hi',.slice va L.length vp] 58 (0,0))):=hh4;have HB4:Hid (Below W.heap.size W w4):=hB4;have t2:=cell_of hh4 2;clear ho4 hh4 hB4 hb4 c0 c1 c2 q2 q3 q4 q5 x0
    go_wp2_with (at_builtin;refine append_els w4 [.int .i64 x] 1 rfl (by decide) rfl (.tmp 30) (.tmp 32) 27 3 (.int .i64 0) 8 rfl und28 info3 rfl W.heap.size _ _ _ (by rfl) HO4.out HOne.out w4.heap.size rfl (by rfl) (by unfold maxLen;omega) (by omega) HB4.out.size ?_;intro v7 w7 ho7 hg7 hn7;(obtain ⟨a7,c7,rfl⟩:=own_slice ho7);(obtain ⟨hN7,hc7,hz7⟩:=hlI_next HHb.out HH4.out HB4.out HO4.out ho7 hg7 hn7);(have HN7:Hid (HlI W Hb lo hi' (L++[x]) (w7.setCell ⟨Hb,2,none⟩ (.slice a7 (L.length+1) c7))):=hN7);clear hN7 ho7 hg7 hn7);generalize w7.setCell ⟨Hb,2,none⟩ (.slice a7 (L.length+1) c7)=w8 at *
    go_roundw
    case rel=>exact ⟨k+1,by go_num,hkn,(by show HlI _ _ _ _ _ _;rw [HN.out];exact HN7.out)⟩
    case measure=>simp [intOf];omega
def Iv.cells (i:Iv):List Value:=[.int .i64 i.lo,.int .i64 i.hi,.int .u8 (wd i.f 0:Int),.int .u8 (wd i.f 1:Int),.int .u8 (wd i.f 2:Int),.int .u8 (wd i.f 3:Int),.int .i64 i.n]
def IvAt (w:World) (b o:Nat) (i:Iv):Prop:=w.cell? ⟨b,o,none⟩=some (.int .i64 i.lo)/\w.cell? ⟨b,o+1,none⟩=some (.int .i64 i.hi)/\w.cell? ⟨b,o+2,none⟩=some (.int .u8 (wd i.f 0:Int))/\w.cell? ⟨b,o+3,none⟩=some (.int .u8 (wd i.f 1:Int))/\w.cell? ⟨b,o+4,none⟩=some (.int .u8 (wd i.f 2:Int))/\w.cell? ⟨b,o+5,none⟩=some (.int .u8 (wd i.f 3:Int))/\w.cell? ⟨b,o+6,none⟩=some (.int .i64 i.n)
def IvsAt (w:World) (a:Option Addr) (L:List Iv):Prop:=∀ j (h:j<L.length),∃ b off,a=some ⟨b,off,none⟩/\b<w.heap.size/\IvAt w b (off+j*7) L[j]
def tkL (g:Gr):List Iv->Nat->Nat->Option Nat
  | [],_,_=>none
  | i :: L,k,j=>if (!i.f g.x&&(decide (i.lo<=g.lo+(j:Int))&&(decide (g.lo+(j:Int)<=i.hi)&&decide (g.lo+(j:Int)<=g.hi))))=true then some k else tkL g L (k+1) j
def pv (a:Option Addr):Option Nat->Value
  | none=>.pointer none
  | some k=>match a with | some ad=>.pointer (some (ad.add (k*7))) | none=>.pointer none
def nil64:Array Value:=#[.pointer none,.pointer none,.pointer none,.pointer none,.pointer none,.pointer none,.pointer none,.pointer none,.pointer none,.pointer none,.pointer none,.pointer none,.pointer none,.pointer none,.pointer none,.pointer none,.pointer none,.pointer none,.pointer none,.pointer none,.pointer none,.pointer none,.pointer none,.pointer none,.pointer none,.pointer none,.pointer none,.pointer none,.pointer none,.pointer none,.pointer none,.pointer none,.pointer none,.pointer none,.pointer none,.pointer none,.pointer none,.pointer none,.pointer none,.pointer none,.pointer none,.pointer none,.pointer none,.pointer none,.pointer none,.pointer none,.pointer none,.pointer none,.pointer none,.pointer none,.pointer none,.pointer none,.pointer none,.pointer none,.pointer none,.pointer none,.pointer none,.pointer none,.pointer none,.pointer none,.pointer none,.pointer none,.pointer none,.pointer none]
theorem nil64_row (w:World):(w.alloc (.cells nil64 180)).rowIs w.heap.size 180 64 (fun _=>.pointer none):=World.rowIs_alloc w nil64 180 _ (by
  have h:∀ i:Fin 64,nil64[i.val]?=some (.pointer none):=by
    intro i;have:nil64=(List.replicate 64 (Value.pointer none)).toArray:=by rfl
    rw [this,List.getElem?_toArray,List.getElem?_replicate,if_pos i.isLt]
  exact fun i hi=>h ⟨i,hi⟩)
theorem pv_one (a:Option Addr) (t:Option Nat):(pv a t).oneCell'=true:=by
  cases t with
  | none=>rfl
  | some k=>cases a <;> rfl
theorem tk_skip {g:Gr} {i:Iv} {L:List Iv} {k:Nat} (h:i.f g.x=true) (j:Nat):tkL g (i :: L) k j=tkL g L (k+1) j:=by
  have e:tkL g (i :: L) k j=if (!i.f g.x&&(decide (i.lo<=g.lo+(j:Int))&&(decide (g.lo+(j:Int)<=i.hi)&&decide (g.lo+(j:Int)<=g.hi))))=true then some k else tkL g L (k+1) j:=rfl
  rw [e,h];simp
theorem tk_take {g:Gr} {i:Iv} {L:List Iv} {k:Nat} (h:i.f g.x=false) (j:Nat) (a:Option Addr):pv a (tkL g (i :: L) k j)=if max g.lo i.lo<=g.lo+(j:Int)/\g.lo+(j:Int)<min g.hi i.hi+1 then pv a (some k) else pv a (tkL g L (k+1) j):=by
  have e:tkL g (i :: L) k j=if (!i.f g.x&&(decide (i.lo<=g.lo+(j:Int))&&(decide (g.lo+(j:Int)<=i.hi)&&decide (g.lo+(j:Int)<=g.hi))))=true then some k else tkL g L (k+1) j:=rfl
  rw [e,h]
  by_cases hc:max g.lo i.lo<=g.lo+(j:Int)/\g.lo+(j:Int)<min g.hi i.hi+1
  · rw [if_pos hc,if_pos]
    simp;omega
  · rw [if_neg hc,if_neg]
    simp;omega
theorem setRow_same {w:World} {g:Nat} {cs old:Array Value} {t:TypeId} {fr:Nat × Nat} (h:w.heap[g]?=some (.cells old t fr)):(w.setRow g cs).heap[g]?=some (.cells cs t fr):=by
  unfold World.setRow;simp [Array.getElem?_modify,h]
theorem setRow_below {w w':World} {B g:Nat} {cs:Array Value} (h:Below B w w') (hg:B<=g):Below B w (w'.setRow g cs):=by
  refine ⟨h.os,h.tape,h.output,?_,fun k hk=>?_⟩
  · unfold World.setRow
    simp;exact h.size
  · have hne:g≠k:=by omega
    unfold World.setRow;simp [Array.getElem?_modify,hne];exact h.block k hk
theorem info115s:(Tryz.prog.info? 180).map (·.size)=some 64:=by kernel_rfl
theorem IvAt.mono {w w':World} {b o:Nat} {i:Iv} (h:IvAt w b o i) (hb:w'.heap[b]?=w.heap[b]?):IvAt w' b o i:=by
  have hc:∀ k,w'.cell? ⟨b,k,none⟩=w.cell? ⟨b,k,none⟩:=fun k=>by unfold World.cell?;rw [hb]
  obtain ⟨h0,h1,h2,h3,h4,h5,h6⟩:=h;exact ⟨(hc _).trans h0,(hc _).trans h1,(hc _).trans h2,(hc _).trans h3,(hc _).trans h4,(hc _).trans h5,(hc _).trans h6⟩
theorem add_none (b o k:Nat):(⟨b,o,none⟩:Addr).add k=⟨b,o+k,none⟩:=addr_none b o k
theorem taken_any (g:Gr) (hg:g.Ok) (h64:g.hi-g.lo<64) (a:Option Addr) (cap:Nat) (L:List Iv) (w:World) (hL:IvsAt w a L) (hok:∀ i∈L,i.Ok) (hl:L.length<=1000000):Calls Tryz.prog 128 #[g.val,.slice a L.length cap] w fun e w'=>∃ c:Array Value,e=.returned (.agg c)/\c.size=64/\(∀ j,j<64->c[j]?=some (pv a (tkL g L 0 j)))/\Below w.heap.size w w':=by
  obtain ⟨lo,hi,x,n⟩:=g;obtain ⟨l1,l2,h1,h2,hx,n1,n2⟩:=hg;unfold Gr.val;dsimp only at h64 l1 l2 h1 h2 hx n1 n2 ⊢;obtain ⟨W,hW⟩:∃ W,((w.alloc (.cells #[.int .i64 lo,.int .i64 hi,.int .i64 (x:Int),.int .i64 n] 160)).alloc (.cells nil64 180)).alloc (.cells nil64 180)=W:=⟨_,rfl⟩;have hb0:Below w.heap.size w W:=by rw [<-hW];exact alloc3b w _ _ _
  have g0:W.heap[w.heap.size]?=some (.cells #[.int .i64 lo,.int .i64 hi,.int .i64 (x:Int),.int .i64 n] 160 (0,0)):=by rw [<-hW];exact alloc3_0 w _ _ _
  have g1:W.heap[w.heap.size+1]?=some (.cells nil64 180 (0,0)):=by rw [<-hW];exact alloc3_1 w _ _ _
  have g2:W.rowIs (w.heap.size+1+1) 180 64 (fun _=>.pointer none):=by
    rw [<-hW];have:=nil64_row ((w.alloc (.cells #[.int .i64 lo,.int .i64 hi,.int .i64 (x:Int),.int .i64 n] 160)).alloc (.cells nil64 180));simpa using this
  have HWe:Hid (((w.alloc (.cells #[.int .i64 lo,.int .i64 hi,.int .i64 (x:Int),.int .i64 n] 160)).alloc (.cells nil64 180)).alloc (.cells nil64 180)=W):=hW;have HB:Hid (Below w.heap.size w W):=hb0;have HO:Hid (∀ w',Below (w.heap.size+1+1) W w'->(w'.cell? ⟨w.heap.size,0,none⟩=some (.int .i64 lo)/\w'.cell? ⟨w.heap.size,1,none⟩=some (.int .i64 hi)/\w'.cell? ⟨w.heap.size,2,none⟩=some (.int .i64 (x:Int)))/\w'.heap[w.heap.size+1]?=some (.cells nil64 180 (0,0))/\Below w.heap.size w w'):=fun w' ho=>by
    have q0:=(ho.block _ (by omega)).trans g0;have q1:=(ho.block _ (by omega)).trans g1;refine ⟨⟨cell_of q0 0,cell_of q0 1,cell_of q0 2⟩,q1,?_⟩;exact hb0.trans (ho.mono (by omega))
  have HL:Hid (∀ w',Below (w.heap.size+1+1) W w'->∀ j (h:j<L.length),∃ b off,a=some ⟨b,off,none⟩/\IvAt w' b (off+j*7) L[j]):=fun w' ho j hj=>by
    obtain ⟨b,off,e,hlt,hI⟩:=hL j hj;have hs:=hb0.size;exact ⟨b,off,e,hI.mono ((ho.block b (by omega)).trans (hb0.block b hlt))⟩
  have Hok:Hid (∀ j (h:j<L.length),L[j].Ok):=fun j hj=>hok _ (List.getElem_mem hj)
  have HR0:Hid (W.rowIs (w.heap.size+1+1) 180 64 (fun j=>pv a (tkL ⟨lo,hi,x,n⟩ (L.drop L.length) L.length j))):=by
    rw [List.drop_length];exact g2
  have HAt:Hid (∀ (f:Nat->Bool) w',Calls Tryz.prog 129 #[bVal f,.int .i64 (x:Int)] w' fun e w2=>e=.returned (.bool (f x))/\Below w'.heap.size w' w2):=fun f w'=>bAt_any f x hx w'
  have HLt:Hid (w.heap.size+1+1<W.heap.size):=g2.lt;clear hL hok hW hb0 g0 g1 g2;go_enter Tryz.func128,Tryz.ntmps128;go_upto_region 2 with fail
  have hWe:=HWe.out;unfold nil64 at hWe;rw [hWe];clear hWe HWe;go_upto_region 3 with fail
  go_loopw [6] (fun iv wr=>∃ (k:Nat),iv=.int .i64 ((k:Int)-1)/\k<=L.length/\Hid (wr.rowIs (w.heap.size+1+1) 180 64 (fun j=>pv a (tkL ⟨lo,hi,x,n⟩ (L.drop k) k j)))/\Hid (Below (w.heap.size+1+1) W wr)) (fun iv _=>(intOf iv+1).toNat)
  case atStart=>exact ⟨L.length,by go_num,Nat.le_refl _,HR0,Below.refl _ _⟩
  case round=>
  obtain ⟨k,rfl,hk,HR,HOf⟩:=hrel;obtain ⟨⟨p0,p1,p2⟩,_⟩:=HO.out wr HOf.out
  cases k with
  | zero =>
    obtain ⟨c,hc,hcs,hcf⟩:=HR.out;obtain ⟨_,q1,hbw⟩:=HO.out wr HOf.out;have hone:c.all (·.oneCell')=true:=by
      rw [Array.all_eq_true];intro j hj;have:=hcf j (by omega);rw [Array.getElem?_eq_getElem hj] at this;injection this with this;rw [this];exact pv_one _ _
    have HC:Hid (wr.heap[w.heap.size+1+1]?=some (.cells c 180 (0,0))):=hc;have HQ:Hid (wr.heap[w.heap.size+1]?=some (.cells nil64 180 (0,0))):=q1;have HI:Hid ((Tryz.prog.info? 180).map (·.size)=some c.size):=by show _=_;rw [hcs];exact info115s
    have HN:Hid (nil64.size=c.size):=by show _=_;rw [hcs];rfl
    have HF:Hid (∀ j,j<64->c[j]?=some (pv a (tkL ⟨lo,hi,x,n⟩ L 0 j))):=hcf;have HBw:Hid (Below w.heap.size w wr):=hbw;have HOn:Hid (c.all (·.oneCell')=true):=hone;have HCs:Hid (c.size=64):=hcs;clear hc hcs hcf q1 hbw hone HR;go_wp2_with (first | (refine wpList_load_row rfl 180 _ rfl (w.heap.size+1+1) rfl 180 c (0,0) (.array 64 179) HC.out (by kernel_rfl) rfl HI.out ?_) | (refine wpList_store_row rfl 180 _ _ rfl (w.heap.size+1) c rfl rfl 180 nil64 HQ.out HI.out HN.out HOn.out ?_))
    exact bodyPost_ret (v:=.agg c) (results_cell_row Tryz.results128 _ _ (w.heap.size+1) 180 c (0,0) _ rfl (setRow_same HQ.out) (by kernel_rfl:Tryz.prog.underlying 180=some (.array 64 179)) rfl HI.out) rfl ⟨c,rfl,HCs.out,HF.out,setRow_below HBw.out (by omega)⟩
  | succ m =>
    have hm:m<L.length:=by omega
    have e1:((m+1:Nat):Int)-1=(m:Int):=by omega
    rw [e1];obtain ⟨b,off,rfl,hI⟩:=HL.out wr HOf.out m hm;have hIok:=Hok.out m hm;have HLm:Hid (∀ w',Below (w.heap.size+1+1) W w'->IvAt w' b (off+m*7) L[m]):=fun w' hb=>by
      obtain ⟨b',off',e,h⟩:=HL.out w' hb m hm;injection e with e;injection e with e1 e2;subst e1 e2;exact h
    have hdr:L.drop m=L[m] :: L.drop (m+1):=(List.drop_eq_getElem_cons hm);have HDr:Hid (L.drop m=L[m] :: L.drop (m+1)):=hdr;obtain ⟨⟨ilo,ihi,f,inn⟩,hi'⟩:∃ i,L[m]=i:=⟨_,rfl⟩;rw [hi'] at hI HLm hIok HDr;obtain ⟨i1,i2,i3,i4,i5,i6⟩:=hIok;dsimp only at i1 i2 i3 i4 i5 i6;have HAf:=fun w'=>HAt.out f w'
    obtain ⟨r0,r1,r2,r3,r4,r5,_⟩:=hI;have HHeld:Hid (∀ w',Below (w.heap.size+1+1) W w'->(w'.cell? ⟨b,off+m*7,none⟩=some (.int .i64 ilo)/\w'.cell? ⟨b,off+m*7+1,none⟩=some (.int .i64 ihi))/\(w'.cell? ⟨b,off+m*7+2,none⟩=some (.int .u8 (wd f 0:Int))/\w'.cell? ⟨b,off+m*7+3,none⟩=some (.int .u8 (wd f 1:Int))/\w'.cell? ⟨b,off+m*7+4,none⟩=some (.int .u8 (wd f 2:Int))/\w'.cell? ⟨b,off+m*7+5,none⟩=some (.int .u8 (wd f 3:Int)))/\w'.cell? ⟨w.heap.size,0,none⟩=some (.int .i64 lo)/\w'.cell? ⟨w.heap.size,1,none⟩=some (.int .i64 hi)/\w'.cell? ⟨w.heap.size,2,none⟩=some (.int .i64 (x:Int))):=fun w' hb=>by
      obtain ⟨t0,t1,t2,t3,t4,t5,_⟩:=HLm.out w' hb;exact ⟨⟨t0,t1⟩,⟨t2,t3,t4,t5⟩,(HO.out w' hb).1⟩
    have HSk:Hid (f x=true->∀ j,tkL ⟨lo,hi,x,n⟩ (L.drop m) m j=tkL ⟨lo,hi,x,n⟩ (L.drop (m+1)) (m+1) j):=fun h j=>by
      rw [HDr.out];exact tk_skip (g:=⟨lo,hi,x,n⟩) (i:=⟨ilo,ihi,f,inn⟩) h j
    have HTk:Hid (f x=false->∀ j,pv (some ⟨b,off,none⟩) (tkL ⟨lo,hi,x,n⟩ (L.drop m) m j)=if max lo ilo<=lo+(j:Int)/\lo+(j:Int)<min hi ihi+1 then pv (some ⟨b,off,none⟩) (some m) else pv (some ⟨b,off,none⟩) (tkL ⟨lo,hi,x,n⟩ (L.drop (m+1)) (m+1) j)):=fun h j=>by
      rw [HDr.out];exact tk_take (g:=⟨lo,hi,x,n⟩) (i:=⟨ilo,ihi,f,inn⟩) h j _
    unfold bVal at HAf;obtain ⟨r,hr⟩:∃ r,f x=r:=⟨_,rfl⟩;rw [hr] at HAf HSk HTk;clear hdr hi' HDr HLm HL Hok HAt e1 r0 r1 r2 r3 r4 r5 p0 p1 p2;generalize wd f 0=b0 at *
    generalize wd f 1=b1 at *
    generalize wd f 2=b2 at *
    generalize wd f 3=b3 at *
    have HAg:Hid (∀ w',Calls Tryz.prog 129 #[.agg #[.int .u8 (b0:Int),.int .u8 (b1:Int),.int .u8 (b2:Int),.int .u8 (b3:Int)],.int .i64 (x:Int)] w' fun e w2=>e=.returned (.bool r)/\Below w'.heap.size w' w2):=HAf;clear HAf hr;have hmI:(m:Int)<(L.length:Int):=by omega
    go_upto_region 6 with fail
    go_cut [25] from 19 to 25 (fun s25 wx=>s25=.bool r/\Hid (Below wr.heap.size wr wx))
    case first=>
      have HBd:Hid (Below (w.heap.size+1+1) W wr.drew):=HOf.out.drew;have HWl:Hid (w.heap.size+1+1<=wr.heap.size):=Nat.le_trans (Nat.le_of_lt HLt.out) HOf.out.size;go_region_held3 (fun w'=>(w'.cell? ⟨b,off+m*7,none⟩=some (.int .i64 ilo)/\w'.cell? ⟨b,off+m*7+1,none⟩=some (.int .i64 ihi))/\(w'.cell? ⟨b,off+m*7+2,none⟩=some (.int .u8 (b0:Int))/\w'.cell? ⟨b,off+m*7+3,none⟩=some (.int .u8 (b1:Int))/\w'.cell? ⟨b,off+m*7+4,none⟩=some (.int .u8 (b2:Int))/\w'.cell? ⟨b,off+m*7+5,none⟩=some (.int .u8 (b3:Int)))/\w'.cell? ⟨w.heap.size,0,none⟩=some (.int .i64 lo)/\w'.cell? ⟨w.heap.size,1,none⟩=some (.int .i64 hi)/\w'.cell? ⟨w.heap.size,2,none⟩=some (.int .i64 (x:Int)))
        (first | exact HHeld.out _ HB4.out | exact HHeld.out _ HBd.out)
        (first | (go_at_call 129;refine cA (HAg.out _) ?_;rintro e w4 ⟨rfl,hb4⟩;(have HB5:Hid (Below wr.heap.size wr w4):=(Below.refl _ _).drew.trans hb4);(have HB4:Hid (Below (w.heap.size+1+1) W w4):=HOf.out.trans (HB5.out.mono HWl.out));clear hb4))
      go_wp2_with fail
      go_meet;exact ⟨rfl,HB5⟩
    case rest=>
    obtain ⟨rfl,HBx⟩:=hcut;rename World=>wx;have HWl:Hid (w.heap.size+1+1<=wr.heap.size):=Nat.le_trans (Nat.le_of_lt HLt.out) HOf.out.size;have HBx2:Hid (Below (w.heap.size+1+1) W wx):=HOf.out.trans (HBx.out.mono HWl.out);have HRx:Hid (wx.rowIs (w.heap.size+1+1) 180 64 (fun j=>pv (some ⟨b,off,none⟩) (tkL ⟨lo,hi,x,n⟩ (L.drop (m+1)) (m+1) j))):=HR.out.of_block (HBx.out.block _ HR.out.lt);obtain ⟨⟨r0,r1⟩,_,p0,p1,p2⟩:=HHeld.out wx HBx2.out
    cases r with
    | true =>
      go_wp2_with fail
      go_roundw
      case rel=>exact ⟨m,by go_num,by omega,HRx.out.congr (fun j _=>by rw [HSk.out (by trivial) j]),HBx2⟩
      case measure=>simp [intOf]
    | false =>
      go_upto_region 7 with fail
      go_region;obtain ⟨st,hst⟩:∃ st,max lo ilo=st:=⟨_,rfl⟩;obtain ⟨sp,hsp⟩:∃ sp,min hi ihi=sp:=⟨_,rfl⟩;have hTk:=HTk.out (by trivial);rw [hst,hsp] at hTk;have HTk2:Hid (∀ j:Nat,pv (some ⟨b,off,none⟩) (tkL ⟨lo,hi,x,n⟩ (L.drop m) m j)=if st<=lo+(j:Int)/\lo+(j:Int)<sp+1 then pv (some ⟨b,off,none⟩) (some m) else pv (some ⟨b,off,none⟩) (tkL ⟨lo,hi,x,n⟩ (L.drop (m+1)) (m+1) j)):=hTk;have hst1:lo<=st:=by omega
      have hst2:st<=2000000000:=by omega
      have hsp1:sp<=hi:=by omega
      have HSt:Hid (max lo ilo=st):=hst;have HSp:Hid (min hi ihi=sp):=hsp;rw [hst];clear hTk HTk HSk hst r0 r1 p0 p1 p2;go_wp2_with fail
      go_loopw [8] (fun iv wz=>∃ v:Int,iv=.int .i64 v/\st<=v/\(v<=sp+1∨v=st)/\Hid (wz.rowIs (w.heap.size+1+1) 180 64 (fun j=>if st<=lo+(j:Int)/\lo+(j:Int)<v then pv (some ⟨b,off,none⟩) (some m) else pv (some ⟨b,off,none⟩) (tkL ⟨lo,hi,x,n⟩ (L.drop (m+1)) (m+1) j)))/\Hid (Below (w.heap.size+1+1) W wz)) (fun iv _=>(sp+1-intOf iv).toNat)
      case atStart=>exact ⟨st,rfl,Int.le_refl _,.inr rfl,HRx.out.drew.congr (fun j _=>by rw [if_neg (by omega)]),HBx2.out.drew⟩
      case round=>
      obtain ⟨v,rfl,hv1,hv2,HRz,HBz⟩:=hrel;rename World=>wz;obtain ⟨⟨r0,r1⟩,_,p0,p1,p2⟩:=HHeld.out wz HBz.out
      by_cases hv:v<=sp
      case neg=>
        go_upto_region 8 with fail
        go_region;go_wp2_with fail
        go_roundw
        case rel=>exact ⟨m,by go_num,by omega,HRz.out.congr (fun j _=>by rw [HTk2.out j];by_cases hj:st<=lo+(j:Int)/\lo+(j:Int)<v;(rw [if_pos hj,if_pos (by omega)]);(rw [if_neg hj,if_neg (by omega)])),HBz.out.drew⟩
        case measure=>simp [intOf]
      case pos=>
        obtain ⟨j,hj⟩:∃ j:Nat,v-lo=(j:Int):=⟨(v-lo).toNat,by omega⟩;have hj64:(j:Int)<64:=by omega
        have cj:=HRz.out.cell (i:=j) (by omega);have zj:=HRz.out.frozen j;obtain ⟨ov,hov⟩:∃ ov,(if st<=lo+(j:Int)/\lo+(j:Int)<v then pv (some ⟨b,off,none⟩) (some m) else pv (some ⟨b,off,none⟩) (tkL ⟨lo,hi,x,n⟩ (L.drop (m+1)) (m+1) j))=ov:=⟨_,rfl⟩;rw [hov] at cj;have HNx:Hid ((wz.setCell ⟨w.heap.size+1+1,j,none⟩ (.pointer (some ⟨b,off+m*7,none⟩))).drew.rowIs (w.heap.size+1+1) 180 64 (fun j=>if st<=lo+(j:Int)/\lo+(j:Int)<v+1 then pv (some ⟨b,off,none⟩) (some m) else pv (some ⟨b,off,none⟩) (tkL ⟨lo,hi,x,n⟩ (L.drop (m+1)) (m+1) j))):=by
          refine (HRz.out.set j _).drew.congr (fun k _=>?_)
          by_cases hk:k=j
          · subst hk
            rw [if_pos rfl,if_pos (by omega)];show _=Value.pointer (some ((⟨b,off,none⟩:Addr).add (m*7)));rw [add_none]
          · rw [if_neg hk]
            by_cases hc:st<=lo+(k:Int)/\lo+(k:Int)<v
            · rw [if_pos hc,if_pos (by omega)]
            · rw [if_neg hc,if_neg (by omega)]
        have HBn:Hid (Below (w.heap.size+1+1) W (wz.setCell ⟨w.heap.size+1+1,j,none⟩ (.pointer (some ⟨b,off+m*7,none⟩))).drew):=(HBz.out.setCell (Nat.le_refl _) _).drew;clear hov;go_upto_region 8 with fail
        go_region;go_wp2_with fail
        go_roundw
        case rel=>exact ⟨v+1,by go_num,by omega,.inl (by omega),HNx,HBn⟩
        case measure=>simp [intOf];omega
structure Cz where
  x:Nat
  v:Int
  lo:Int
  hi:Int
  xs:List Int
def Cz.cells (z:Cz) (u:Value):List Value:=[.int .i64 0,.int .i64 3,.int .i64 (z.x:Int),.int .i64 z.v,.int .i64 z.lo,.int .i64 z.hi,u]
def czs (Z:List Cz) (us:List Value):List Value:=(Z.zip us).flatMap fun p=>p.1.cells p.2
theorem czs_append (Z Z':List Cz) (us us':List Value) (h:us.length=Z.length):czs (Z++Z') (us++us')=czs Z us++czs Z' us':=by
  unfold czs;rw [List.zip_append h.symm,List.flatMap_append]
structure CzAt (w:World) (B:Nat) (v:Value) (Z:List Cz) (us:List Value):Prop where
  len:us.length=Z.length
  row:w.ownsRow B 60 7 v Z.length (czs Z us)
  each:∀ j (h:j<us.length) (h2:j<Z.length),w.ownsRow B 3 1 us[j] Z[j].xs.length (Z[j].xs.map (.int .i64))
theorem CzAt.below {w w':World} {B:Nat} {v:Value} {Z:List Cz} {us:List Value} (h:CzAt w B v Z us) (hb:Below w.heap.size w w'):CzAt w' B v Z us:=⟨h.len,own_bl h.row hb,fun j h1 h2=>own_bl (h.each j h1 h2) hb⟩
def CzOut (Z:List Cz) (w:World) (e:Ending) (w':World):Prop:=∃ v us,e=.returned v/\CzAt w' w.heap.size v Z us/\Below w.heap.size w w'
theorem own_ty {w:World} {B:Nat} {e t:TypeId} {sz:Nat} {v:Value} {n:Nat} {xs:List Value} {k:Nat} {cs:Array Value} {f:Nat × Nat} (h:w.ownsRow B e sz v n xs) (hk:w.heap[k]?=some (.cells cs t f)) (hne:t≠e):v.ownBlock≠some k:=fun hg=>by
  rcases h.2 with ⟨rfl,_⟩ | ⟨b,cap,cur,rfl,_,h3,_⟩
  · cases hg
  · have e1:b=k:=by simpa [Value.ownBlock] using hg
    rw [e1,hk] at h3;injection h3 with h3;injection h3 with _ h4 _;exact hne h4
theorem cell_grown {w w':World} {o:Option Nat} (hg:w.grownBy w' o) {b:Nat} (hb:b<w.heap.size) (hne:o≠some b) (k:Nat):w'.cell? ⟨b,k,none⟩=w.cell? ⟨b,k,none⟩:=by
  unfold World.cell?;rw [hg.block b hb (fun e=>hne e.symm)]
theorem CzAt.base {w:World} {B B':Nat} {v:Value} {Z:List Cz} {us:List Value} (h:CzAt w B v Z us) (hB:B'<=B):CzAt w B' v Z us:=⟨h.len,own_base2 h.row hB,fun j h1 h2=>own_base2 (h.each j h1 h2) hB⟩
theorem czAt_nil (w:World) (B:Nat):CzAt w B (.slice none 0 0) [] []:=⟨rfl,World.ownsRow_nil _ _ _ _,fun _ h=>absurd h (Nat.not_lt_zero _)⟩
theorem hown_apart {w:World} {B B':Nat} {e e':TypeId} {s s':Nat} {v v':Value} {n n':Nat} {xs xs':List Value} (h:w.ownsRow B e s v n xs) (h':w.ownsRow B' e' s' v' n' xs') (hne:e≠e') (g:Nat) (hg:v.ownBlock=some g):v'.ownBlock≠some g:=fun hg'=>by
  rcases h.2 with ⟨rfl,_⟩ | ⟨b,cap,cur,rfl,_,h3,_⟩
  · cases hg
  · rcases h'.2 with ⟨rfl,_⟩ | ⟨b',cap',cur',rfl,_,h3',_⟩
    · cases hg'
    · have e1:b=g:=by simpa [Value.ownBlock] using hg
      have e2:b'=g:=by simpa [Value.ownBlock] using hg'
      rw [e1] at h3;rw [e2,h3] at h3';injection h3' with h3';injection h3' with _ h4 _;exact hne h4
theorem CzAt.more {w w7:World} {B:Nat} {v v7:Value} {Z Z':List Cz} {us us':List Value} (h:CzAt w B v Z us) (hl:us'.length=Z'.length) (h7:w7.ownsRow B 60 7 v7 (Z.length+Z'.length) (czs Z us++czs Z' us')) (hg:w.grownBy w7 v.ownBlock) (he:∀ j (h:j<us'.length) (h2:j<Z'.length),w.ownsRow B 3 1 us'[j] Z'[j].xs.length (Z'[j].xs.map (.int .i64))):CzAt w7 B v7 (Z++Z') (us++us'):=by
  have keep:∀ {u:Value} {l:List Int},w.ownsRow B 3 1 u l.length (l.map (.int .i64))->w7.ownsRow B 3 1 u l.length (l.map (.int .i64)):=fun {u l} hu=>
    own_off hu (S:=fun b=>v.ownBlock=some b) (fun g hgg e=>hown_apart hu h.row (by decide) g hgg e) ⟨hg.size,fun k hk hne=>hg.block k hk (fun e=>hne e.symm)⟩
  refine ⟨by simp [h.len,hl],?_,fun j h1 h2=>?_⟩
  · rw [List.length_append,czs_append _ _ _ _ h.len]
    exact h7
  · by_cases hj:j<us.length
    · have hj2:j<Z.length:=by rw [<-h.len];exact hj
      rw [List.getElem_append_left hj,List.getElem_append_left hj2];exact keep (h.each j hj hj2)
    · have hlen:=h.len
      have h1':j-us.length<us'.length:=by simp at h1;omega
      rw [List.getElem_append_right (by omega),List.getElem_append_right (by omega)];have:=keep (he (j-us.length) h1' (by omega));simp only [hlen] at this ⊢;exact this
def cz1 (xs:List Int) (g:Gr) (L:List Iv) (v:Int):List Cz:=match tkL g L 0 (v-g.lo).toNat with
  | none=>[]
  | some k => match L[k]? with
    | some i=>[⟨g.x,v,i.lo,i.hi,xs.filter fun x=>i.f x.toNat⟩]
    | none=>[]
def czL (xs:List Int) (g:Gr) (L:List Iv) (vs:List Int):List Cz:=vs.flatMap (cz1 xs g L)
theorem czL_next {xs:List Int} {g:Gr} {L:List Iv} {vs:List Int} {k:Nat} (hk:k<vs.length):czL xs g L (vs.take (k+1))=czL xs g L (vs.take k)++cz1 xs g L vs[k]:=by
  unfold czL;rw [List.take_succ_eq_append_getElem hk,List.flatMap_append];simp
theorem tk_lt {g:Gr} {L:List Iv} {k j r:Nat} (h:tkL g L k j=some r):k<=r/\r<k+L.length:=by
  induction L generalizing k with
  | nil=>cases h
  | cons i L ih =>
    have e:tkL g (i :: L) k j=if (!i.f g.x&&(decide (i.lo<=g.lo+(j:Int))&&(decide (g.lo+(j:Int)<=i.hi)&&decide (g.lo+(j:Int)<=g.hi))))=true then some k else tkL g L (k+1) j:=rfl
    rw [e] at h
    split at h
    · injection h with h
      subst h;simp
    · have:=ih h
      simp;omega
theorem cz1_none {xs:List Int} {g:Gr} {L:List Iv} {v:Int} (h:tkL g L 0 (v-g.lo).toNat=none):cz1 xs g L v=[]:=by
  unfold cz1;rw [h]
theorem cz1_some {xs:List Int} {g:Gr} {L:List Iv} {v:Int} {k:Nat} (h:tkL g L 0 (v-g.lo).toNat=some k) (hk:k<L.length):cz1 xs g L v=[⟨g.x,v,L[k].lo,L[k].hi,xs.filter fun x=>L[k].f x.toNat⟩]:=by
  unfold cz1;rw [h];show (match L[k]? with | some i=>_ | none=>_)=_;rw [List.getElem?_eq_getElem hk]
theorem pv_all {a:Option Addr} {t:Nat->Option Nat} {c:Array Value} (hs:c.size=64) (hf:∀ j,j<64->c[j]?=some (pv a (t j))):c.all (·.oneCell')=true:=by
  rw [Array.all_eq_true];intro j hj;have:=hf j (by omega);rw [Array.getElem?_eq_getElem hj] at this;injection this with this;rw [this];exact pv_one _ _
theorem cz1_len (xs:List Int) (g:Gr) (L:List Iv) (v:Int):(cz1 xs g L v).length<=1:=by
  unfold cz1
  split
  · simp
  · split <;> simp
theorem czL_len (xs:List Int) (g:Gr) (L:List Iv) (vs:List Int):(czL xs g L vs).length<=vs.length:=by
  unfold czL
  induction vs with
  | nil=>simp
  | cons v vs ih =>
    rw [List.flatMap_cons,List.length_append,List.length_cons];have:=cz1_len xs g L v;omega
theorem src_cz {V:World} {b:Nat} {z:Cz} {u:Value} {a:Option Addr} {n cp:Nat} (hu:u=.slice a n cp:=by rfl) (h:V.heap[b]?=some (.cells #[.int .i64 0,.int .i64 3,.int .i64 (z.x:Int),.int .i64 z.v,.int .i64 z.lo,.int .i64 z.hi,u] 60 (0,0))):SrcAt V (.slice (some ⟨b,0,none⟩) 1 1) 1 7 (czs [z] [u]):=by
  subst hu;refine ⟨_,1,rfl,by simp [czs,Cz.cells],?_,(fun h=>by cases h),fun ad ha j y hj=>?_⟩
  · intro y hy
    simp only [czs,List.zip_cons_cons,List.zip_nil_left,List.flatMap_cons,List.flatMap_nil,List.append_nil,Cz.cells,List.mem_cons,List.not_mem_nil,or_false] at hy
    rcases hy with rfl | rfl | rfl | rfl | rfl | rfl | rfl <;> rfl
  · injection ha with ha
    subst ha;rw [add_none,Nat.zero_add,cell_of h];simpa [czs,Cz.cells] using hj
theorem info44:(Tryz.prog.info? 60).map (fun i=>(i.zero,i.size,i.bytes))=some (some (.agg #[.int .i64 0,.int .i64 0,.int .i64 0,.int .i64 0,.int .i64 0,.int .i64 0,.slice none 0 0]),7,72):=by kernel_rfl
theorem und33:Tryz.prog.underlying 43=some (.slice 60):=by kernel_rfl
theorem cutZ_any (xa:Option Addr) (xc:Nat) (xs:List Int) (vg:Value) (g:Gr) (va:Option Addr) (vcp:Nat) (vs:List Int) (a:Option Addr) (cap:Nat) (L:List Iv) (w:World) (hX:IntsAt w (.slice xa xs.length xc) xs) (hx:∀ x∈xs,0<=x/\x<32) (hxl:xs.length<=1000000) (hg:g.Ok) (h64:g.hi-g.lo<64) (hV:IntsAt w (.slice va vs.length vcp) vs) (hvs:∀ v∈vs,g.lo<=v/\v<=g.hi) (hvl:vs.length<=1000) (hL:IvsAt w a L) (hok:∀ i∈L,i.Ok) (hl:L.length<=1000000):Calls Tryz.prog 112 #[.agg #[.slice xa xs.length xc,vg],g.val,.slice va vs.length vcp,.slice a L.length cap] w (CzOut (czL xs g L vs) w):=by
  have HTk:=fun w' (hb:Below w.heap.size w w')=>taken_any g hg h64 a cap L w' (fun j hj=>by
    obtain ⟨b,off,e,hlt,hI⟩:=hL j hj
    exact ⟨b,off,e,Nat.lt_of_lt_of_le hlt hb.size,hI.mono (hb.block b hlt)⟩) hok hl
  have HCn:=fun (v:Int)=>cz1_none (xs:=xs) (g:=g) (L:=L) (v:=v)
  have HCs:=fun (v:Int) (k:Nat)=>cz1_some (xs:=xs) (g:=g) (L:=L) (v:=v) (k:=k)
  have HTl:=fun j r=>tk_lt (g:=g) (L:=L) (k:=0) (j:=j) (r:=r)
  have HNx:=fun (k:Nat) (hk:k<vs.length)=>czL_next (xs:=xs) (g:=g) (L:=L) hk
  have HZl:=fun (k:Nat)=>czL_len xs g L (vs.take k)
  have HZf:czL xs g L (vs.take vs.length)=czL xs g L vs:=by rw [List.take_length]
  have HO:Hid (∀ v us w',CzAt w' w.heap.size v (czL xs g L (vs.take vs.length)) us->Below w.heap.size w w'->CzOut (czL xs g L vs) w (.returned v) w'):=fun v us w' h1 h2=>⟨v,us,rfl,by rw [<-HZf];exact h1,h2⟩
  obtain ⟨t,ht⟩:∃ t,tkL g L 0=t:=⟨_,rfl⟩;obtain ⟨cl,hcl⟩:∃ cl,czL xs g L=cl:=⟨_,rfl⟩;rw [hcl] at HNx HZl HO;rw [hcl];obtain ⟨c1,hc1⟩:∃ c,cz1 xs g L=c:=⟨_,rfl⟩;rw [hc1] at HNx;simp only [hc1] at HCn HCs;have h0:cl (vs.take 0)=[]:=by rw [<-hcl];rfl
  obtain ⟨lo,hi,x,n⟩:=g;obtain ⟨l1,l2,h1,h2,hx32,n1,n2⟩:=hg;simp only [ht] at HTk HCn HCs HTl;unfold Gr.val at HTk ⊢;dsimp only at h64 hvs l1 l2 h1 h2 hx32 n1 n2 HTk HCn HCs ⊢;clear ht hcl hc1 HZf;obtain ⟨W,hW⟩:∃ W,(w.alloc (.cells #[.slice xa xs.length xc,vg] 147)).alloc (.cells #[.int .i64 lo,.int .i64 hi,.int .i64 (x:Int),.int .i64 n] 160)=W:=⟨_,rfl⟩;have hb0:Below w.heap.size w W:=by rw [<-hW];exact ((Below.refl _ _).alloc (Nat.le_refl _) _).alloc (by simp) _
  have g0:W.heap[w.heap.size]?=some (.cells #[.slice xa xs.length xc,vg] 147 (0,0)):=by rw [<-hW,heap_alloc_old (w.alloc _) _ (by simp)];exact heap_alloc_new w _
  have g1:W.heap[w.heap.size+1]?=some (.cells #[.int .i64 lo,.int .i64 hi,.int .i64 (x:Int),.int .i64 n] 160 (0,0)):=by rw [<-hW];exact heap_alloc2_new w _ _
  have HB:Hid (Below w.heap.size w W):=hb0;have HWs:Hid (∀ w',Below W.heap.size W w'->Below w.heap.size w w'):=fun w' hb=>hb0.trans (hb.mono hb0.size)
  have HTw:Hid (Calls Tryz.prog 128 #[.agg #[.int .i64 lo,.int .i64 hi,.int .i64 (x:Int),.int .i64 n],.slice a L.length cap] W fun e w'=>∃ c:Array Value,e=.returned (.agg c)/\c.size=64/\(∀ j,j<64->c[j]?=some (pv a (t j)))/\Below W.heap.size W w'):=HTk W hb0;have HHl:Hid (∀ (i:Iv) w',i.Ok->Below w.heap.size w w'->Calls Tryz.prog 113 #[.agg #[.slice xa xs.length xc,vg],i.val] w' fun e w2=>∃ v,e=.returned (.agg #[.int .i64 i.lo,.int .i64 i.hi,v])/\Hid (w2.ownsRow w'.heap.size 3 1 v (xs.filter fun x=>i.f x.toNat).length ((xs.filter fun x=>i.f x.toNat).map (.int .i64)))/\Below w'.heap.size w' w2):=fun i w' hi hb=>hall_any xa xc xs vg i w' (hX.below hb) hx hi hxl
  have HV:Hid (∀ w',Below w.heap.size w w'->∀ (k:Nat) (hk:k<vs.length),∃ b off,va=some ⟨b,off,none⟩/\w'.cell? ⟨b,off+k,none⟩=some (.int .i64 vs[k])):=fun w' hb k hk=>by
    obtain ⟨a',c',e,_,hcl⟩:=hV;injection e with e1 _ _;subst e1;obtain ⟨b,off,e,hlt,hc⟩:=hcl (by omega);exact ⟨b,off,e,(hb.cell (p:=⟨b,_,none⟩) hlt).trans (hc k hk)⟩
  have HLi:Hid (∀ w',Below w.heap.size w w'->∀ j (h:j<L.length),∃ b off,a=some ⟨b,off,none⟩/\b<w.heap.size/\IvAt w' b (off+j*7) L[j]):=fun w' hb j hj=>by
    obtain ⟨b,off,e,hlt,hI⟩:=hL j hj;exact ⟨b,off,e,hlt,hI.mono (hb.block b hlt)⟩
  have HGb:Hid (∀ w',Below W.heap.size W w'->w'.heap[w.heap.size]?=some (.cells #[.slice xa xs.length xc,vg] 147 (0,0))/\w'.heap[w.heap.size+1]?=some (.cells #[.int .i64 lo,.int .i64 hi,.int .i64 (x:Int),.int .i64 n] 160 (0,0))):=fun w' hb=>⟨(hb.block _ (hLt g0)).trans g0,(hb.block _ (hLt g1)).trans g1⟩
  have Hok:Hid (∀ j (h:j<L.length),L[j].Ok):=fun j hj=>hok _ (List.getElem_mem hj)
  have Hvs:Hid (∀ (k:Nat) (hk:k<vs.length),lo<=vs[k]/\vs[k]<=hi):=fun k hk=>hvs _ (List.getElem_mem hk)
  have HGd:Hid (∀ w',Below W.heap.size W w'->(w'.cell? ⟨w.heap.size,0,none⟩=some (.slice xa xs.length xc)/\w'.cell? ⟨w.heap.size,1,none⟩=some vg)/\w'.cell? ⟨w.heap.size+1,0,none⟩=some (.int .i64 lo)/\w'.cell? ⟨w.heap.size+1,1,none⟩=some (.int .i64 hi)/\w'.cell? ⟨w.heap.size+1,2,none⟩=some (.int .i64 (x:Int))/\w'.cell? ⟨w.heap.size+1,3,none⟩=some (.int .i64 n)):=fun w' hb=>by
    have q0:=(hb.block _ (hLt g0)).trans g0;have q1:=(hb.block _ (hLt g1)).trans g1;exact ⟨⟨cell_of q0 0,cell_of q0 1⟩,cell_of q1 0,cell_of q1 1,cell_of q1 2,cell_of q1 3⟩
  have HCn':Hid (∀ v:Int,t (v-lo).toNat=none->c1 v=[]):=HCn;have HCs':Hid (∀ (v:Int) (k:Nat),t (v-lo).toNat=some k->∀ hk:k<L.length,c1 v=[⟨x,v,L[k].lo,L[k].hi,xs.filter fun x=>L[k].f x.toNat⟩]):=HCs;have HTl':Hid (∀ j r,t j=some r->r<L.length):=fun j r h=>by have:=(HTl j r h).2;omega
  have HNx':Hid (∀ (k:Nat) (hk:k<vs.length),cl (vs.take (k+1))=cl (vs.take k)++c1 vs[k]):=HNx;have HZl':Hid (∀ k,(cl (vs.take k)).length<=1000):=fun k=>by
    have:=HZl k;have:=List.length_take_le' k vs;omega
  have H0:Hid (cl (vs.take 0)=[]):=h0;obtain ⟨_,p0,p1,p2,p3⟩:=HGd.out W (Below.refl _ _);clear HTk HCn HCs HTl HNx HZl hX hx hV hvs hL hok hb0 g0 g1 h0;go_enter Tryz.func112,Tryz.ntmps112;go_upto_region 1 with fail
  try rw [hW]
  clear hW;go_upto_region 2 with (first | (go_at_call 128;refine cA HTw.out ?_;rintro e w1 ⟨c,rfl,hcs,hcf,hb1⟩) | (refine wpList_store_row rfl 180 _ _ rfl w1.heap.size c rfl rfl 180 _ (heap_alloc_new w1 _) (by rw [hcs];exact info115s) (by rw [hcs];rfl) (pv_all hcs hcf) ?_;rw [setRow_alloc]));have HB2:Hid (Below W.heap.size W (w1.alloc (.cells c 180))):=hb1.alloc hb1.size _;have HC2:Hid ((w1.alloc (.cells c 180)).heap[w1.heap.size]?=some (.cells c 180 (0,0))):=heap_alloc_new w1 _;have HWl:Hid (W.heap.size<=w1.heap.size):=hb1.size;have HCf:Hid (∀ j,j<64->c[j]?=some (pv a (t j))):=hcf;try simp only [Act.put]
  generalize w1.alloc (.cells c 180)=W2 at *
  have HI0:Hid (CzAt W2 W2.heap.size (.slice none 0 0) (cl (vs.take 0)) []):=by
    have:=H0.out;show CzAt _ _ _ _ _;rw [this];exact czAt_nil _ _
  have HC3:Hid (∀ w',Below W2.heap.size W2 w'->∀ j,j<64->w'.cell? ⟨w1.heap.size,j,none⟩=some (pv a (t j))):=fun w' hb j hj=>by
    have:=(hb.block _ (hLt HC2.out)).trans HC2.out;rw [cell_of this];exact HCf.out j hj
  clear hcs hcf hb1 HTw p0 p1 p2 p3 HC2 HCf;go_upto_region 4 with fail
  go_loopw [19,10] (fun iv ov wr=>∃ (k:Nat) (us:List Value),iv=.int .i64 (k:Int)/\k<=vs.length/\Hid (CzAt wr W2.heap.size ov (cl (vs.take k)) us)/\Hid (Below W2.heap.size W2 wr)) (fun iv _ _=>vs.length-(intOf iv).toNat)
  case atStart=>exact ⟨0,[],rfl,Nat.zero_le _,HI0,Below.refl _ _⟩
  case round=>
  obtain ⟨k,us,rfl,hk,HZ,HBr⟩:=hrel;have HBw:Hid (Below W.heap.size W wr):=HB2.out.trans (HBr.out.mono HB2.out.size)
  by_cases hkn:k<vs.length
  case neg=>
    have hke:k=vs.length:=by omega
    subst hke;have hkI:¬ (vs.length:Int)<(vs.length:Int):=by omega
    go_wp2_with fail
    go_ret;exact HO.out _ us _ (HZ.out.base (HWs.out _ HB2.out).size) (HWs.out _ HBw.out)
  case pos=>
  have hkI:(k:Int)<(vs.length:Int):=by omega
  obtain ⟨vb,voff,rfl,v0⟩:=HV.out wr (HWs.out _ HBw.out) k hkn;have hvk:=Hvs.out k hkn;have HNk:=HNx'.out k hkn;obtain ⟨v,hv⟩:∃ v,vs[k]=v:=⟨_,rfl⟩;rw [hv] at v0 hvk HNk;obtain ⟨j,hj⟩:∃ j:Nat,v-lo=(j:Int):=⟨(v-lo).toNat,by omega⟩;have hj64:(j:Int)<64:=by omega
  have cj:=HC3.out wr HBr.out j (by omega);have HCnv:=HCn'.out v;have HCsv:=HCs'.out v;rw [hj,Int.toNat_natCast] at HCnv HCsv;obtain ⟨_,p0,p1,p2,p3⟩:=HGd.out wr HBw.out;have HNk':Hid (cl (vs.take (k+1))=cl (vs.take k)++c1 v):=HNk
  cases ht:t j with
  | none =>
    rw [ht] at cj;have HNn:Hid (cl (vs.take (k+1))=cl (vs.take k)):=by show _=_;rw [HNk'.out,HCnv ht,List.append_nil]
    have cj':wr.cell? ⟨w1.heap.size,j,none⟩=some (.pointer none):=cj;clear cj HCnv HCsv HNk hv ht;go_wp2_with fail
    go_roundw
    case rel=>exact ⟨k+1,us,by go_num,hkn,(by show CzAt _ _ _ _ _;rw [HNn.out];exact HZ.out),HBr⟩
    case measure=>simp [intOf];omega
  | some m =>
    have hm:=HTl'.out j m ht;rw [ht] at cj;obtain ⟨b,off,rfl,hblt,hI⟩:=HLi.out wr (HWs.out _ HBw.out) m hm;have HBlt:Hid (b<w.heap.size):=hblt;have HLm:Hid (∀ w',Below wr.heap.size wr w'->IvAt w' b (off+m*7) L[m]):=fun w' hb=>by
      obtain ⟨b',off',e,_,h⟩:=HLi.out w' (HWs.out _ (bl_next HBw.out hb)) m hm;injection e with e;injection e with e1 e2;subst e1 e2;exact h
    have hIok:=Hok.out m hm;have HCm:=HCsv m ht hm;have HHm:=fun w'=>HHl.out L[m] w' hIok
    have cj':wr.cell? ⟨w1.heap.size,j,none⟩=some (.pointer (some ⟨b,off+m*7,none⟩)):=by
      rw [cj];show some (Value.pointer (some ((⟨b,off,none⟩:Addr).add (m*7))))=_;rw [add_none]
    obtain ⟨⟨ilo,ihi,f,inn⟩,hi'⟩:∃ i,L[m]=i:=⟨_,rfl⟩;rw [hi'] at HLm HCm HHm hIok;unfold Iv.val at HHm;dsimp only at HCm HHm;obtain ⟨fx,hfx⟩:∃ fx,(xs.filter fun x=>f x.toNat)=fx:=⟨_,rfl⟩;rw [hfx] at HCm HHm;obtain ⟨o,ho⟩:∃ o,off+m*7=o:=⟨_,rfl⟩;have HLm0:=HLm.out;unfold IvAt at HLm0;dsimp only at HLm0;rw [ho] at HLm0 cj';generalize wd f 0=b0 at HHm HLm0
    generalize wd f 1=b1 at HHm HLm0
    generalize wd f 2=b2 at HHm HLm0
    generalize wd f 3=b3 at HHm HLm0
    have HHeld:Hid (∀ w',Below wr.heap.size wr w'->(w'.cell? ⟨w.heap.size,0,none⟩=some (.slice xa xs.length xc)/\w'.cell? ⟨w.heap.size,1,none⟩=some vg)/\(w'.cell? ⟨w.heap.size+1,0,none⟩=some (.int .i64 lo)/\w'.cell? ⟨w.heap.size+1,1,none⟩=some (.int .i64 hi)/\w'.cell? ⟨w.heap.size+1,2,none⟩=some (.int .i64 (x:Int))/\w'.cell? ⟨w.heap.size+1,3,none⟩=some (.int .i64 n))/\w'.cell? ⟨b,o,none⟩=some (.int .i64 ilo)/\w'.cell? ⟨b,o+1,none⟩=some (.int .i64 ihi)/\w'.cell? ⟨b,o+2,none⟩=some (.int .u8 (b0:Int))/\w'.cell? ⟨b,o+3,none⟩=some (.int .u8 (b1:Int))/\w'.cell? ⟨b,o+4,none⟩=some (.int .u8 (b2:Int))/\w'.cell? ⟨b,o+5,none⟩=some (.int .u8 (b3:Int))/\w'.cell? ⟨b,o+6,none⟩=some (.int .i64 inn)):=fun w' hb=>⟨(HGd.out w' (bl_next HBw.out hb)).1,(HGd.out w' (bl_next HBw.out hb)).2,HLm0 w' hb⟩
    have HHr:Hid (∀ w',Below w.heap.size w w'->Calls Tryz.prog 113 #[.agg #[.slice xa xs.length xc,vg],.agg #[.int .i64 ilo,.int .i64 ihi,.int .u8 (b0:Int),.int .u8 (b1:Int),.int .u8 (b2:Int),.int .u8 (b3:Int),.int .i64 inn]] w' fun e w2=>∃ v,e=.returned (.agg #[.int .i64 ilo,.int .i64 ihi,v])/\Hid (w2.ownsRow w'.heap.size 3 1 v fx.length (fx.map (.int .i64)))/\Below w'.heap.size w' w2):=HHm;have HCm':Hid (c1 v=[⟨x,v,ilo,ihi,fx⟩]):=HCm;obtain ⟨oa,oc,rfl⟩:=own_slice HZ.out.row;have hzl:=HZl'.out k;clear HCnv HCsv HNk hv ht cj hI HLm HCm HHm hi' hfx ho HLm0 hIok hblt;go_upto_region 8 with fail
    have HBd:Hid (Below wr.heap.size wr wr.drew):=(Below.refl _ _).drew;have HZd:Hid (CzAt wr.drew W2.heap.size (.slice oa (cl (vs.take k)).length oc) (cl (vs.take k)) us):=HZ.out.below (Below.refl _ _).drew
    refine wp_region_T (fun w'=>(w'.cell? ⟨w.heap.size,0,none⟩=some (.slice xa xs.length xc)/\w'.cell? ⟨w.heap.size,1,none⟩=some vg)/\(w'.cell? ⟨w.heap.size+1,0,none⟩=some (.int .i64 lo)/\w'.cell? ⟨w.heap.size+1,1,none⟩=some (.int .i64 hi)/\w'.cell? ⟨w.heap.size+1,2,none⟩=some (.int .i64 (x:Int))/\w'.cell? ⟨w.heap.size+1,3,none⟩=some (.int .i64 n))/\w'.cell? ⟨b,o,none⟩=some (.int .i64 ilo)/\w'.cell? ⟨b,o+1,none⟩=some (.int .i64 ihi)/\w'.cell? ⟨b,o+2,none⟩=some (.int .u8 (b0:Int))/\w'.cell? ⟨b,o+3,none⟩=some (.int .u8 (b1:Int))/\w'.cell? ⟨b,o+4,none⟩=some (.int .u8 (b2:Int))/\w'.cell? ⟨b,o+5,none⟩=some (.int .u8 (b3:Int))/\w'.cell? ⟨b,o+6,none⟩=some (.int .i64 inn)) (fun _=>True) [12] (by kernel_rfl) ⟨HHeld.out _ HBd.out,trivial⟩ (fun hHeld=>?_);generalize wr.drew=U at HBd HZd hHeld ⊢
    refine tB (i:=0) (oi:=⟨some 32,.move (.tmp 10),_,_,_,_⟩) (v:=?v_ab) ?hy_ab (by assumption) ?rest_ab
    case hy_ab=>(intro w hSw;(try dsimp only at hSw);go_simp;try (with_reducible rfl))
    try simp only [Act.put,q1,q2,q3]
    refine tB (i:=1) (oi:=⟨some 33,.fieldAddr 160 (.tmp 5) 1,_,_,_,_⟩) (v:=?v_ah) ?hy_ah (by assumption) ?rest_ah
    case hy_ah=>(intro w hSw;(try dsimp only at hSw);go_simp;try (with_reducible rfl))
    try simp only [Act.put,q1,q2,q3]
    refine tB (i:=2) (oi:=⟨some 34,.load 3 (.tmp 33),_,_,_,_⟩) (v:=?v_ag) ?hy_ag (by assumption) ?rest_ag
    case hy_ag=>(intro w hSw;(try dsimp only at hSw);go_simp;try (with_reducible rfl))
    try simp only [Act.put,q1,q2,q3]
    refine tB (i:=3) (oi:=⟨some 35,.move (.tmp 12),_,_,_,_⟩) (v:=?v_ad) ?hy_ad (by assumption) ?rest_ad
    case hy_ad=>(intro w hSw;(try dsimp only at hSw);go_simp;try (with_reducible rfl))
    try simp only [Act.put,q1,q2,q3]
    refine tB (i:=4) (oi:=⟨some 36,.build 41 #[(0,(.const (.int .i64 3))),(1,(.tmp 34)),(2,(.tmp 35))],_,_,_,_⟩) (v:=?v_af) ?hy_af (by assumption) ?rest_af
    case hy_af=>(intro w hSw;(try dsimp only at hSw);go_simp;try (with_reducible rfl))
    try simp only [Act.put,q1,q2,q3]
    refine tB (i:=5) (oi:=⟨some 37,.load 147 (.tmp 4),_,_,_,_⟩) (v:=?v_ai) ?hy_ai (by assumption) ?rest_ai
    case hy_ai=>(intro w hSw;(try dsimp only at hSw);go_simp;try (with_reducible rfl))
    try simp only [Act.put,q1,q2,q3]
    refine tB (i:=6) (oi:=⟨some 38,.move (.tmp 13),_,_,_,_⟩) (v:=?v_aa) ?hy_aa (by assumption) ?rest_aa
    case hy_aa=>(intro w hSw;(try dsimp only at hSw);go_simp;try (with_reducible rfl))
    try simp only [Act.put,q1,q2,q3]
    refine tB (i:=7) (oi:=⟨some 39,.nilCheck (.tmp 38),_,_,_,_⟩) (v:=?v_ac) ?hy_ac (by assumption) ?rest_ac
    case hy_ac=>(intro w hSw;(try dsimp only at hSw);go_simp;try (with_reducible rfl))
    try simp only [Act.put,q1,q2,q3]
    refine tB (i:=8) (oi:=⟨some 40,.load 157 (.tmp 39),_,_,_,_⟩) (v:=?v_ae) ?hy_ae (by assumption) ?rest_ae
    case hy_ae=>(intro w hSw;(try dsimp only at hSw);go_simp;try (with_reducible rfl))
    try simp only [Act.put,q1,q2,q3]
    refine wpAnyT_one (i:=9) (o:=⟨some 41,.call { callee:=.value (.func 113),args:=#[(.tmp 37),(.tmp 40)],argTypes:=#[147,157] },_,_,_,_⟩) (by kernel_rfl) rfl (fun K hK=>?_);go_simp;refine cA (HHr.out _ (HWs.out _ (bl_next HBw.out HBd.out))) ?_;rintro e w2 ⟨hv2,rfl,ho2,hb2⟩;go_wp2_with fail
    have HB3:Hid (Below wr.heap.size wr w2):=bl_next HBd.out hb2;have HZ2:Hid (CzAt w2 W2.heap.size (.slice oa (cl (vs.take k)).length oc) (cl (vs.take k)) us):=HZd.out.below hb2;have HO2:Hid (w2.ownsRow W2.heap.size 3 1 hv2 fx.length (fx.map (.int .i64))):=own_base2 ho2.out (Nat.le_trans HBr.out.size HBd.out.size);obtain ⟨ha2,hc2,rfl⟩:=own_slice HO2.out;clear hb2 hHeld ho2;have hHeld:=(⟨HHeld.out _ HB3.out,trivial⟩:_/\True);refine hK.out _ _ ⟨hHeld.1,fun _=>trivial⟩ ?_;clear hK K;refine tB (i:=10) (oi:=⟨some 42,.build 60 #[(1,(.tmp 36)),(2,(.tmp 41))],_,_,_,_⟩) (v:=?v_ak) ?hy_ak (by assumption) ?rest_ak
    case hy_ak=>(intro w hSw;(try dsimp only at hSw);go_simp;try (with_reducible rfl))
    try simp only [Act.put,q1,q2,q3]
    refine wpAnyT_one (i:=11) (o:=⟨some 43,.buildSlice 43 1 #[(0,(.tmp 42))],_,_,_,_⟩) (by kernel_rfl) rfl (fun K hK=>?_);go_simp;obtain ⟨V,hV⟩:∃ V,w2.alloc (.cells #[.int .i64 0,.int .i64 3,.int .i64 (x:Int),.int .i64 v,.int .i64 ilo,.int .i64 ihi,.slice ha2 fx.length hc2] 60)=V:=⟨_,rfl⟩;have hbV:Below w2.heap.size w2 V:=bAe hV;have gV:V.heap[w2.heap.size]?=some (.cells #[.int .i64 0,.int .i64 3,.int .i64 (x:Int),.int .i64 v,.int .i64 ilo,.int .i64 ihi,.slice ha2 fx.length hc2] 60 (0,0)):=hAe hV;have HSV:Hid (SrcAt V (.slice (some ⟨w2.heap.size,0,none⟩) 1 1) 1 7 (czs [⟨x,v,ilo,ihi,fx⟩] [.slice ha2 fx.length hc2])):=src_cz (z:=⟨x,v,ilo,ihi,fx⟩) rfl gV;have HBV:Hid (Below wr.heap.size wr V):=bl_next HB3.out hbV
    have HZV:Hid (CzAt V W2.heap.size (.slice oa (cl (vs.take k)).length oc) (cl (vs.take k)) us):=HZ2.out.below hbV;have HOV:Hid (V.ownsRow W2.heap.size 3 1 (.slice ha2 fx.length hc2) fx.length (fx.map (.int .i64))):=own_bl HO2.out hbV;try rw [hV]
    clear hV hbV gV hHeld;have hHeld:=(⟨HHeld.out _ HBV.out,trivial⟩:_/\True);refine hK.out _ _ ⟨hHeld.1,fun _=>trivial⟩ ?_;clear hK K;refine wpAnyT_late (i:=12) (o:=⟨some 44,.call { callee:=.builtin .append,args:=#[(.tmp 32),(.tmp 43)],argTypes:=#[43,43] },_,_,_,_⟩) (by kernel_rfl) rfl (by kernel_rfl) (fun K hK=>?_);refine op_append_src V (.tmp 32) (.tmp 43) 43 60 (.agg #[.int .i64 0,.int .i64 0,.int .i64 0,.int .i64 0,.int .i64 0,.int .i64 0,.slice none 0 0]) 7 72 rfl und33 info44 rfl (by decide) W2.heap.size _ _ (cl (vs.take k)).length 1 (czs (cl (vs.take k)) us) (czs [⟨x,v,ilo,ihi,fx⟩] [.slice ha2 fx.length hc2]) (by rfl) (by rfl) HZV.out.row HSV.out (by unfold maxLen;omega) (by omega) (Nat.le_trans HBr.out.size HBV.out.size) (by rfl) ?_;intro v4 w4 q1 q2 q3
    have HZ4:Hid (CzAt w4 W2.heap.size v4 (cl (vs.take (k+1))) (us++[.slice ha2 fx.length hc2])):=by
      show CzAt _ _ _ _ _;rw [HNk'.out,HCm'.out]
      exact HZV.out.more rfl q1 q2 (fun j h1 h2=>by
        have hj0:j=0:=by simpa using h1
        subst hj0
        exact HOV.out)
    have HB5:Hid (Below W2.heap.size W2 w4):=(bl_next HBr.out HBV.out).grown q2 (Nat.le_trans HBr.out.size HBV.out.size) (fun g hg=>(HZV.out.row.lt g hg).1);have hk4:=HHeld.out V HBV.out;obtain ⟨y0,y1⟩:=HGb.out V (bl_next HBw.out HBV.out);have hs0:=(hLt y0);have hs1:=(hLt y1);have hnb:(Value.slice oa (cl (vs.take k)).length oc).ownBlock≠some b:=fun e=>by
      have:=(HZV.out.row.lt b e).1;have:=HBlt.out;have:=(HWs.out _ HB2.out).size;omega
    have hc0:=cell_grown q2 hs0 (own_ty HZV.out.row y0 (by decide));have hc1:=cell_grown q2 hs1 (own_ty HZV.out.row y1 (by decide));have hc2':=cell_grown q2 (Nat.lt_of_lt_of_le HBlt.out (Nat.le_trans (HWs.out _ HBw.out).size HBV.out.size)) hnb;rw [<-hc0,<-hc0,<-hc1,<-hc1,<-hc1,<-hc1,<-hc2',<-hc2',<-hc2',<-hc2',<-hc2',<-hc2',<-hc2'] at hk4;clear q1 q2 q3 hHeld y0 y1 hs0 hs1 hnb hc0 hc1 hc2';refine hK.out _ _ hk4 ?_;have hHeld:=(⟨hk4,trivial⟩:_/\True);clear hK K;try simp only [Act.put,q1,q2,q3]
    refine wpAnyT_late (i:=13) (o:=⟨some 10,.assign (.tmp 44),_,_,_,_⟩) (by kernel_rfl) rfl (by kernel_rfl) (fun K hK=>?_);go_simp;refine hK.out _ _ ?sh_aj ?rest_aj
    case sh_aj=>((try dsimp only);(first | exact hHeld.1 | skip))
    clear hK K;try simp only [Act.put,q1,q2,q3]
    refine wpAnyT_done (by kernel_rfl) ?_ _;go_wp2_with fail
    go_roundw
    case rel=>exact ⟨k+1,_,by go_num,hkn,HZ4,HB5⟩
    case measure=>simp [intOf];omega
end Go.Proofs.YtjnckfchgcmmpaaGreatDoor
