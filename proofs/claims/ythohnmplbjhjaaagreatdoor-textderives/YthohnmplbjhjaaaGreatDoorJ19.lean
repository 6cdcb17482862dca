/-
  Put together: TrLine, TrNext, TrEnd, TrWhole.
-/
import Derived.Test.YthohnmplbjhjaaaGreatDoorTrRng
import Derived.Test.YthohnmplbjhjaaaGreatDoorPfAny
namespace Go.Proofs.YthohnmplbjhjaaaGreatDoor
open Go.RowKit Go.Shelf Go.Lib
set_option maxHeartbeats 4000000
set_option maxRecDepth 100000
theorem Zk (a c:List UInt8):((yc a).toList==(yc c).toList)=decide (a=c):=by
 rw [Lib.toList_data,Lib.toList_data,zz,zz]
 by_cases h:a=c
 ·rw [h];simp
 ·simp [h]
theorem Ln.c0 {w0:World} {V:List Md.Vr} {va:Value} {b:Nat} {s:St} {w:World} (h:Ln w0 V va b s w):w.cell? ⟨b,0,none⟩=some va:=by rw [yd h.o 0];rfl
theorem Ln.c1 {w0:World} {V:List Md.Vr} {va:Value} {b:Nat} {s:St} {w:World} (h:Ln w0 V va b s w):w.cell? ⟨b,1,none⟩=some (.string (yc s.1)):=by rw [yd h.o 1];rfl
theorem Ln.c2 {w0:World} {V:List Md.Vr} {va:Value} {b:Nat} {s:St} {w:World} (h:Ln w0 V va b s w):w.cell? ⟨b,2,none⟩=some (.int .i64 s.2):=by rw [yd h.o 2];rfl
theorem Ln.fr {w0:World} {V:List Md.Vr} {va:Value} {b:Nat} {s:St} {w:World} (h:Ln w0 V va b s w) (i:Nat):w.frozen? ⟨b,i,none⟩=false:=yt h.o i
theorem zC {w0:World} {V:List Md.Vr} {va:Value} {b:Nat} {s:St} (e:Int) (w:World) (h:Ln w0 V va b s w):Calls Tryz.prog 109 #[.pointer (some ⟨b,0,none⟩),.int .i64 e] w (RO w0 V va b (.tuple #[]) (yh e s) w):=by
 have c1:=h.c2
 have z1:=h.fr 2
 by_cases h0:s.2=0
 ·have HE:Hid (RO w0 V va b (.tuple #[]) (yh e s) w (.returned (.tuple #[])) (w.setCell ⟨b,2,none⟩ (.int .i64 e))):=⟨rfl,by unfold yh;rw [if_pos h0];exact h.put2 e,Ofw.set _ rfl⟩
  rw [h0] at c1
  clear h h0
  go_enter Tryz.func109,Tryz.ntmps109
  go_wp2_with fail
  go_end0
  exact HE.out
 ·have HE:Hid (RO w0 V va b (.tuple #[]) (yh e s) w (.returned (.tuple #[])) w):=⟨rfl,by unfold yh;rw [if_neg h0];exact h,Ofw.refl _ _⟩
  clear h
  go_enter Tryz.func109,Tryz.ntmps109
  go_wp2_with fail
  go_end0
  exact HE.out
theorem xT {F:Fence} (n b:Nat) (w:World) (hF:F=Fence.wide):CallsIn F n Tryz.prog 47 #[.pointer (some ⟨b,0,none⟩)] w fun e w'=>e=.returned (.func (.func 105) #[] #[.pointer (some ⟨w.heap.size,0,none⟩)])/\w'=w.alloc (.cells #[.pointer (some ⟨b,0,none⟩)] 113):=by
 subst hF
 refine callsIn_of_wp Tryz.func47 rfl trivial ?_ rfl
 simp only [Tryz.ntmps47,List.size_toArray,List.length_cons,List.length_nil,Nat.reduceAdd,Nat.reduceSub,Array.replicate_succ,Array.replicate_zero,List.push_toArray,List.append_toArray,List.nil_append,List.cons_append]
 gi_wp2
 go_ret
 exact ⟨rfl,rfl⟩
def xv (w:World) (b:Nat):Nat:=match w.cell? ⟨b,1,none⟩ with
 | some (.string s)=>s.size
 | _=>0
theorem Ln.len {w0:World} {V:List Md.Vr} {va:Value} {b:Nat} {s:St} {w:World} (h:Ln w0 V va b s w):xv w b=s.1.length:=by
 unfold xv
 rw [h.c1]
 exact zI _
theorem Yf (n:Nat) (hn:1<=n) {w0:World} {V:List Md.Vr} {va:Value} {b:Nat} (B:Nat) (W:World) (hB:W.heap[B]?=some (.cells #[.pointer (some ⟨b,0,none⟩)] 113)) (hBb:B≠b) :
  SeqW Fence.wide n Tryz.prog 105 #[.pointer (some ⟨B,0,none⟩)] w0 V va b (fun k=>k=B) W:=by
 intro l J J2 s0 hL hJ hY h0 _
 refine callsIn_of_wp Tryz.func105 rfl trivial ?_ rfl
 simp only [Tryz.ntmps105,List.size_toArray,List.length_cons,List.length_nil,Nat.reduceAdd,Nat.reduceSub,Array.replicate_succ,Array.replicate_zero,List.push_toArray,List.append_toArray,List.nil_append,List.cons_append]
 gi_wp2
 gi_loopw [3,4] (fun _ _ wr=>∃ s:St,J s wr/\wr.heap[B]?=some (.cells #[.pointer (some ⟨b,0,none⟩)] 113)) (fun _ _ wr=>xv wr b)
 case atStart=>exact ⟨s0,h0,hB⟩
 case round=>
  obtain ⟨s,hj,hBr⟩:=hrel
  have hln:=hL s wr hj
  have k0:wr.cell? ⟨B,0,none⟩=some (.pointer (some ⟨b,0,none⟩)):=by simp [World.cell?,hBr]
  have k1:=hln.c1
  have k2:=hln.c2
  by_cases hf:s.2=0
  ·have hT:Calls Tryz.prog 106 #[.string (yc s.1),.string ⟨#[32,9]⟩] wr fun e w'=>e=.returned (.string (yc (s.1.dropWhile blk)))/\Below wr.heap.size wr w':=by
    have:=Qd (yc s.1) wr
    rw [zz] at this
    exact this
   obtain ⟨r,hr⟩:∃ r,s.1.dropWhile blk=r:=⟨_,rfl⟩
   have hrl:r.length<=70000:=by rw [<-hr];exact Nat.le_trans (List.dropWhile_sublist _).length_le hln.n
   obtain ⟨R,hR⟩:∃ R,yc r=R:=⟨_,rfl⟩
   obtain ⟨L,hLL⟩:∃ L,yc s.1=L:=⟨_,rfl⟩
   have hRs:R.size=r.length:=by rw [<-hR];exact zI r
   have hRl:R.data.toList=r:=by rw [<-hR];exact zz r
   rw [hr,hR,hLL] at hT
   rw [hLL] at k1
   rw [hf] at k2
   have HT:Hid (CallsIn Fence.wide (n-1) Tryz.prog 106 #[.string L,.string ⟨#[32,9]⟩] wr fun e w'=>e=.returned (.string R)/\Below wr.heap.size wr w'):=callsIn_wide.2 hT
   have HA:Hid (∀ w',CallsIn Fence.wide (n-1) Tryz.prog 107 #[.string R,.string ⟨#[32,9]⟩] w' fun e w2=>e=.returned (.int .i64 (if wlen r<r.length then (wlen r:Int) else -1))/\Below w'.heap.size w' w2):=fun w'=>by
    have:=Qc R w' (by omega)
    rw [hRl,hRs] at this
    exact callsIn_wide.2 this
   have HW:Hid (∀ w',Below wr.heap.size wr w'->w'.cell? ⟨B,0,none⟩=some (.pointer (some ⟨b,0,none⟩))/\w'.cell? ⟨b,1,none⟩=some (.string L)/\w'.frozen? ⟨b,1,none⟩=false):=fun w' hb=>by
    have h1:=hln.below hb
    refine ⟨(hb.cell (p:=⟨B,0,none⟩) (Array.getElem?_eq_some_iff.1 hBr).1).trans k0,?_,h1.fr 1⟩
    rw [h1.c1,hLL]
   by_cases hr0:r=[]
   ·have hem:R.toList.isEmpty=true:=by rw [Lib.toList_data,hRl,hr0];rfl
    have HN:Hid (yl s=none):=by show yl s=none;unfold yl;rw [if_neg (fun e=>e.2 (hr.trans hr0))]
    have HJ:Hid (J s wr):=hj
    clear hT hR hLL hRs hRl hr hr0 hj hln hBr hrl
    gi_wp2_with (refine ⟨trivial,?_⟩;gi_at_call 106;refine HT.out.mono ?_;rintro e w1 ⟨rfl,hb1⟩;have HB1:Hid (Below wr.heap.size wr w1):=hb1;clear hb1)
    refine bodyPost_ret (results_none rfl _ _ _) rfl ?_
    exact ⟨⟨_,rfl⟩,.inl ⟨s,hJ _ _ _ HJ.out (Ofw.of_below HB1.out),HN.out⟩⟩
   ·have hem:R.toList.isEmpty=false:=by
     rw [Lib.toList_data,hRl]
     cases r with
     | nil=>exact absurd rfl hr0
     | cons _ _=>rfl
    have HTk:Hid (yl s=some (r.take (wlen r),(r.drop (wlen r),0))):=by show yl s=_;unfold yl;rw [if_pos ⟨hf,by rw [hr];exact hr0⟩,hr]
    have hwl:=Zb r
    obtain ⟨m,hm⟩:∃ m,wlen r=m:=⟨_,rfl⟩
    rw [hm] at HA hwl HTk
    have hmI:(m:Int)<=(R.size:Int):=by omega
    have HJ:Hid (J s wr):=hj
    have HLn:Hid (Ln w0 V va b s wr):=hln
    have HLt:=zf HTk.out
    have HBr:Hid (wr.heap[B]?=some (.cells #[.pointer (some ⟨b,0,none⟩)] 113)):=hBr
    have HLR:Hid (r.length=R.size/\R=yc r):=⟨hRs.symm,hR.symm⟩
    have HLt':Hid ((r.drop m).length<s.1.length):=HLt.1
    clear hT hR hLL hRs hRl hr hr0 hm hj hln hBr hrl HLt
    have fin:∀ w2,Below wr.heap.size wr w2->∃ W5,(w2.setCell ⟨b,1,none⟩ (.string (yc (r.drop m)))).drew=W5/\Ln w0 V va b (r.drop m,0) W5/\Ofw (fun k=>k=b) wr W5/\W5.heap[B]?=some (.cells #[.pointer (some ⟨b,0,none⟩)] 113):=fun w2 hb2=>by
     refine ⟨_,rfl,?_,?_,?_⟩
     ·have h1:=((HLn.out.below hb2).put1 (r.drop m) (by have:=HLn.out.n;have:=HLt'.out;omega))
      rw [hf] at h1
      exact h1.below (Below.refl _ _).drew
     ·exact ((Ofw.of_below hb2).trans (Ofw.set (S:=fun k=>k=b) _ rfl)).trans (Ofw.of_below (Below.refl _ _).drew)
     ·show (w2.setCell ⟨b,1,none⟩ _).heap[B]?=_
      rw [Below.heap_setCell w2 ⟨b,1,none⟩ _ B (by simpa using hBb)]
      exact (hb2.block _ (Array.getElem?_eq_some_iff.1 HBr.out).1).trans HBr.out
    have Hfin:Hid (∀ w2,Below wr.heap.size wr w2->∃ W5,(w2.setCell ⟨b,1,none⟩ (.string (yc (r.drop m)))).drew=W5/\Ln w0 V va b (r.drop m,0) W5/\Ofw (fun k=>k=b) wr W5/\W5.heap[B]?=some (.cells #[.pointer (some ⟨b,0,none⟩)] 113)):=fin
    clear fin
    by_cases hlt:m<r.length
    ·rw [if_pos hlt] at HA
     have hm0:¬ (m:Int)<0:=by omega
     clear hlt
     gi_wp2_with (first | (refine ⟨trivial,?_⟩;gi_at_call 106;refine HT.out.mono ?_;rintro e w1 ⟨rfl,hb1⟩;have HB1:Hid (Below wr.heap.size wr w1):=hb1;clear hb1) | (refine ⟨trivial,?_⟩;gi_at_call 107;refine (HA.out w1).mono ?_;rintro e w2 ⟨rfl,hb2⟩;have HB2:Hid (Below wr.heap.size wr w2):=yj HB1.out hb2;obtain ⟨y0,y1,z1⟩:=HW.out w2 HB2.out;clear hb2))
     gi_region
     obtain ⟨hlen,hRt⟩:=HLR.out
     have x1:R.extract m R.size=yc (r.drop m):=by rw [hRt,Ys,List.take_of_length_le (by simp [zI])]
     have x2:R.extract 0 m=yc (r.take m):=by rw [hRt,Ys];simp
     rw [x1]
     obtain ⟨W5,hW5,ln5,of5,b5⟩:=Hfin.out w2 HB2.out
     rw [hW5]
     obtain ⟨fn,tmps,assign,body,hy,hR⟩:=hY s (r.take m) (r.drop m,0) wr W5 HJ.out HTk.out ln5 of5
     have hlt5:xv wr b=s.1.length:=HLn.out.len
     clear y0 y1 z1 hW5 hRt hlen x1 k0 k1 k2
     gi_wp2
     refine hR.mono ?_
     rintro e W6 ⟨(⟨rfl,s2,hj6,hle⟩ | ⟨rfl,hj6⟩),_,hk6⟩
     ·have hln6:=(hL s2 W6 hj6).len
      gi_wp2
      go_roundw
      case rel=>exact ⟨s2,hj6,(hk6 B rfl).trans b5⟩
      case measure=>(have:=HLt'.out;have h2:s2.1.length<=(r.drop m).length:=hle;omega)
     ·gi_wp2
      refine bodyPost_ret (results_none rfl _ _ _) rfl ?_
      exact ⟨⟨_,rfl⟩,.inr hj6⟩
    ·rw [if_neg hlt] at HA
     have hmR:m=R.size:=by have:=HLR.out.1;omega
     clear hlt
     gi_wp2_with (first | (refine ⟨trivial,?_⟩;gi_at_call 106;refine HT.out.mono ?_;rintro e w1 ⟨rfl,hb1⟩;have HB1:Hid (Below wr.heap.size wr w1):=hb1;clear hb1) | (refine ⟨trivial,?_⟩;gi_at_call 107;refine (HA.out w1).mono ?_;rintro e w2 ⟨rfl,hb2⟩;have HB2:Hid (Below wr.heap.size wr w2):=yj HB1.out hb2;obtain ⟨y0,y1,z1⟩:=HW.out w2 HB2.out;clear hb2))
     gi_region
     obtain ⟨hlen,hRt⟩:=HLR.out
     have x1:ByteArray.empty=yc (r.drop m):=by rw [List.drop_eq_nil_of_le (by omega)];rfl
     have x2:R.extract 0 R.size=yc (r.take m):=by rw [<-hmR,hRt,Ys];simp
     have x3:R.extract 0 r.length=yc (r.take m):=by rw [hlen];exact x2
     rw [x1]
     obtain ⟨W5,hW5,ln5,of5,b5⟩:=Hfin.out w2 HB2.out
     rw [hW5]
     obtain ⟨fn,tmps,assign,body,hy,hR⟩:=hY s (r.take m) (r.drop m,0) wr W5 HJ.out HTk.out ln5 of5
     have hlt5:xv wr b=s.1.length:=HLn.out.len
     have hdl:(r.drop m).length<s.1.length:=HLt'.out
     rw [hmR] at hy
     clear y0 y1 z1 hW5 hRt hlen x1 k0 k1 k2
     gi_wp2
     refine hR.mono ?_
     rintro e W6 ⟨(⟨rfl,s2,hj6,hle⟩ | ⟨rfl,hj6⟩),_,hk6⟩
     ·have hln6:=(hL s2 W6 hj6).len
      gi_wp2
      go_roundw
      case rel=>exact ⟨s2,hj6,(hk6 B rfl).trans b5⟩
      case measure=>(have:=HLt'.out;have h2:s2.1.length<=(r.drop m).length:=hle;omega)
     ·gi_wp2
      refine bodyPost_ret (results_none rfl _ _ _) rfl ?_
      exact ⟨⟨_,rfl⟩,.inr hj6⟩
  ·have k2f:decide (s.2=0)=false:=decide_eq_false hf
   have HN:Hid (yl s=none):=xm hf
   gi_wp2
   go_end0
   exact ⟨⟨_,rfl⟩,.inl ⟨s,hj,HN.out⟩⟩
end Go.Proofs.YthohnmplbjhjaaaGreatDoor

namespace Go.Proofs.YthohnmplbjhjaaaGreatDoor
open Go Go.RowKit Go.Shelf Go.Lib
set_option maxRecDepth 100000
set_option maxHeartbeats 2000000
attribute [local go_sem] Oper.semAt_some
theorem Ofw.new {S T:Nat->Prop} {a b c:World} (h:Ofw S a b) (k:Ofw T b c) (hT:∀ i,T i->a.heap.size<=i∨S i):Ofw S a c:=
 ⟨k.os.trans h.os,k.tape.trans h.tape,k.output.trans h.output,Nat.le_trans h.size k.size,fun i hi hs=>(k.block i (Nat.lt_of_lt_of_le hi h.size) (fun e=>(hT i e).elim (fun h1=>by omega) hs)).trans (h.block i hi hs)⟩
theorem zr {P:Program} {m l':Nat} {f:FuncId} {args:Array Value} {w:World} {R:Ending->World->Prop} (h:Calls P f args w R):CallsIn (Fence.wide.inRound l') m P f args w R:=CallsIn.inRound l' (callsIn_wide.2 h)
theorem xq {w0:World} {V:List Md.Vr} {va:Value} {b:Nat} {s:St} (w:World) (h:Ln w0 V va b s w):Calls Tryz.prog 124 #[.pointer (some ⟨b,0,none⟩)] w (RO w0 V va b (.string (yc (ye s).1)) (ye s).2 w):=by
 refine (callsIn_wide (n:=5)).1 ?_
 obtain ⟨W1,hW1⟩:∃ W1,w.alloc (.cells #[.string ⟨#[]⟩] 9)=W1:=⟨_,rfl⟩
 have hb1:Below w.heap.size w W1:=hW1▸(Below.refl _ _).alloc (Nat.le_refl _) _
 have hs1:W1.heap.size=w.heap.size+1:=by rw [<-hW1];simp
 have hX:=xT (F:=Fence.wide) (5-1) b W1 rfl
 refine callsIn_of_wp_marks Tryz.func124 rfl trivial ?_ rfl
 simp only [Tryz.ntmps124,List.size_toArray,List.length_cons,List.length_nil,Nat.reduceAdd,Nat.reduceSub,Array.replicate_succ,Array.replicate_zero,List.push_toArray,List.append_toArray,List.nil_append,List.cons_append]
 gi_wp2_with (refine ⟨trivial,?_⟩;gi_at_call 47;refine hX.mono ?_;rintro e w' ⟨rfl,rfl⟩)
 obtain ⟨W2,hW2⟩:∃ W2,W1.alloc (.cells #[.pointer (some ⟨b,0,none⟩)] 113)=W2:=⟨_,rfl⟩
 rw [hW2]
 have hb2:Below W1.heap.size W1 W2:=hW2▸(Below.refl _ _).alloc (Nat.le_refl _) _
 have hs2:W2.heap.size=w.heap.size+2:=by rw [<-hW2];simp [hs1]
 have hB2:W2.heap[w.heap.size+1]?=some (.cells #[.pointer (some ⟨b,0,none⟩)] 113):=by
  rw [<-hs1,<-hW2]
  exact World.alloc_heap_new W1 _
 have hN2:W2.heap[w.heap.size]?=some (.cells #[.string ⟨#[]⟩] 9):=(hb2.block _ (by omega)).trans (hW1▸World.alloc_heap_new w _)
 have hbw:Below w.heap.size w W2:=hb1.trans (hb2.mono hb1.size)
 have hln2:Ln w0 V va b s W2:=h.below hbw
 have hlt:=h.lt
 clear hX hW1 hW2 hb1 hb2
 refine Ye rfl (by omega) (gf:=105) (lb:=#[.pointer (some ⟨w.heap.size+1,0,none⟩)]) rfl trivial (enters_of Tryz.func105 (by kernel_rfl) rfl) (w0:=w0) (V:=V) (va:=va) (b:=b) s (T:=fun k=>k=w.heap.size+1) (fun k hk=>by omega)
  (fun W hb=>Yf _ (by omega) (w.heap.size+1) W ((hb.block _ (by omega)).trans hB2) (by omega)) rfl
  (fun s' W=>s'=s/\Ln w0 V va b s W/\W.heap[w.heap.size]?=some (.cells #[.string ⟨#[]⟩] 9)/\Ofw (fun k=>k=b) w W)
  (fun c W=>c=.ret/\∃ x s1,yl s=some (x,s1)/\Ln w0 V va b s1 W/\W.heap[w.heap.size]?=some (.cells #[.string (yc x)] 9)/\Ofw (fun k=>k=b) w W)
  (fun s' W hI=>hI.1▸hI.2.1) ?_ ?_ ⟨rfl,hln2,hN2,Ofw.of_below hbw⟩
  (fun x=>{ tmps:=#[.pointer (some ⟨b,0,none⟩),undef,.pointer (some ⟨w.heap.size,0,none⟩),.string (yc x),.pointer (some ⟨b,0,none⟩),.func (.func 105) #[] #[.pointer (some ⟨w.heap.size+1,0,none⟩)],.string (yc x),undef,undef,undef],defers:=[] }) ?assign ?body ?done ?stop
 ·rintro s' W W' ⟨rfl,hl,hn,ho⟩ k
  exact ⟨rfl,hl.keep (fun k hk=>by have:=h.big;omega) k,(k.block _ (Array.getElem?_eq_some_iff.1 hn).1 (by omega)).trans hn,ho.new k (fun i hi=>by omega)⟩
 ·rintro c W W' ⟨rfl,x,s1,ht,hl,hn,ho⟩ k
  exact ⟨rfl,x,s1,ht,hl.keep (fun k hk=>by have:=h.big;omega) k,(k.block _ (Array.getElem?_eq_some_iff.1 hn).1 (by omega)).trans hn,ho.new k (fun i hi=>by omega)⟩
 case assign=>
  intro l' x W K hK
  gi_wp2
  exact hK
 case body=>
  rintro l' s' x s1 W Wa ⟨rfl,hl,hn,ho⟩ hx hla hoa hsz
  have hna:Wa.heap[w.heap.size]?=some (.cells #[.string ⟨#[]⟩] 9):=(hoa.block _ (Array.getElem?_eq_some_iff.1 hn).1 (by omega)).trans hn
  have c1:Wa.cell? ⟨w.heap.size,0,none⟩=some (.string ⟨#[]⟩):=by rw [yd hna 0];rfl
  have z1:=yt hna 0
  have HE:Hid (∀ V',V'=Wa.setCell ⟨w.heap.size,0,none⟩ (.string (yc x))->(yl s'=some (x,s1)/\Ln w0 V va b s1 V'/\V'.heap[w.heap.size]?=some (.cells #[.string (yc x)] 9)/\Ofw (fun k=>k=b) w V')/\Wa.heap.size<=V'.heap.size/\∀ k,(k=w.heap.size+1∨k=W2.heap.size∨k=W2.heap.size+1)->V'.heap[k]?=Wa.heap[k]?):=fun V' hV=>by
   subst hV
   have hoo:Ofw (fun k=>k=w.heap.size) Wa (Wa.setCell ⟨w.heap.size,0,none⟩ (.string (yc x))):=Ofw.set _ rfl
   exact ⟨⟨hx,hla.keep (fun k hk=>by have:=h.big;omega) hoo,yC hna 0 _,(ho.new hoa (fun i hi=>by omega)).new hoo (fun i hi=>by omega)⟩,hoo.size,fun k hk=>hoo.block k (by omega) (by omega)⟩
  clear hl hn ho hla hoa hna
  gi_wp2
  obtain ⟨⟨q1,q2,q3,q4⟩,q5,q6⟩:=HE.out _ rfl
  exact ⟨.inr (.inl ⟨rfl,rfl,x,s1,q1,q2,q3,q4⟩),q5,q6⟩
 case done=>
  rintro s' W ⟨rfl,hl,hn,ho⟩ ht hK
  have ht':ye s'=([],yh 52 s'):=by unfold ye;rw [ht]
  have HF:Hid (Calls Tryz.prog 109 #[.pointer (some ⟨b,0,none⟩),.int .i64 52] W (RO w0 V va b (.tuple #[]) (yh 52 s') W)):=zC 52 W hl
  have HN:Hid (W.heap[w.heap.size]?=some (.cells #[.string ⟨#[]⟩] 9)/\Ofw (fun k=>k=b) w W/\W.heap[W2.heap.size]?=some (.deferred (some []))):=⟨hn,ho,hK⟩
  clear hn hl ho hK
  gi_wp2_with (refine ⟨trivial,?_⟩;gi_at_call 109;refine (callsIn_wide.2 HF.out).mono ?_;rintro e w3 ⟨rfl,h3,o3⟩;have hn3:=(o3.block _ (Array.getElem?_eq_some_iff.1 HN.out.1).1 (by omega)).trans HN.out.1;have hk3:=(o3.block _ (Array.getElem?_eq_some_iff.1 HN.out.2.2).1 (by omega)).trans HN.out.2.2;have c3:=yd hn3 0;have z3:=yt hn3 0)
  obtain ⟨V3,hV3⟩:∃ V3,w3.setCell ⟨w.heap.size,0,none⟩ (.string ⟨#[]⟩)=V3:=⟨_,rfl⟩
  rw [hV3]
  have ov:Ofw (fun k=>k=w.heap.size) w3 V3:=hV3▸Ofw.set _ rfl
  have kV:V3.heap[w.heap.size+2]?=some (.deferred (some [])):=(ov.block _ (by have:=(Array.getElem?_eq_some_iff.1 hk3).1;omega) (by omega)).trans (by rw [<-hs2];exact hk3)
  have nV:V3.heap[w.heap.size]?=some (.cells #[.string (yc [])] 9):=hV3▸yC hn3 0 _
  refine ⟨by simp,.inl ⟨_,_,rfl,run_takeDeferred kV,?_⟩⟩
  have hp:=zd (S:=fun k=>k=w.heap.size+2) V3 (w.heap.size+2) (.deferred none) rfl
  have c2:(V3.putObj (w.heap.size+2) (.deferred none)).cell? ⟨w.heap.size,0,none⟩=some (.string (yc [])):=by rw [yd ((hp.block _ (Array.getElem?_eq_some_iff.1 nV).1 (by omega)).trans nV) 0];rfl
  refine ⟨_,by simp [results,Tryz.results124,go_sem,c2];rfl,?_⟩
  rw [ht']
  exact ⟨rfl,(h3.keep (fun k hk=>by have:=h.big;omega) ov).keep (fun k hk=>by have:=h.big;omega) hp,(((HN.out.2.1).trans o3).new ov (fun i hi=>by omega)).new hp (fun i hi=>by omega)⟩
 case stop=>
  rintro c W ⟨rfl,x,s1,ht,hl,hn,ho⟩ hK
  have ht':ye s=(x,s1):=by unfold ye;rw [ht]
  have c1:W.cell? ⟨w.heap.size,0,none⟩=some (.string (yc x)):=by rw [yd hn 0];rfl
  rw [ht']
  refine wpIn_ret ?_
  gi_wp2
  refine ⟨by simp,.inl ⟨_,_,rfl,run_takeDeferred hK,?_⟩⟩
  have hp:=zd (S:=fun k=>k=W2.heap.size) W W2.heap.size (.deferred none) rfl
  have c2:(W.putObj W2.heap.size (.deferred none)).cell? ⟨w.heap.size,0,none⟩=some (.string (yc x)):=by rw [yd ((hp.block _ (Array.getElem?_eq_some_iff.1 hn).1 (by omega)).trans hn) 0];rfl
  refine ⟨_,by simp [results,Tryz.results124,go_sem,c2];try rfl,rfl,hl.keep (fun k hk=>by have:=h.big;omega) hp,ho.new hp (fun i hi=>by omega)⟩
theorem QR {w0:World} {V:List Md.Vr} {va:Value} {b:Nat} {s:St} (x y:List UInt8) (w:World) (h:Ln w0 V va b s w):Calls Tryz.prog 133 #[.pointer (some ⟨b,0,none⟩),.string (yc x),.string (yc y)] w (RO w0 V va b (.tuple #[]) (zq x y s) w):=by
 have HF:Hid (Calls Tryz.prog 109 #[.pointer (some ⟨b,0,none⟩),.int .i64 51] w (RO w0 V va b (.tuple #[]) (yh 51 s) w)):=zC 51 w h
 have hq:=Zk x y
 unfold zq
 by_cases hk:x=y
 ·rw [decide_eq_true hk] at hq
  rw [if_pos hk]
  clear hk
  go_enter Tryz.func133,Tryz.ntmps133
  go_wp2_with fail
  go_end0
  exact ⟨rfl,h,Ofw.refl _ _⟩
 ·rw [decide_eq_false hk] at hq
  rw [if_neg hk]
  clear hk h
  go_enter Tryz.func133,Tryz.ntmps133
  go_wp2_with fail
  refine cZ HF.out ?_
  rintro e w1 ⟨rfl,h1,h2⟩
  go_wp2_with fail
  go_end0
  exact ⟨rfl,h1,h2⟩
end Go.Proofs.YthohnmplbjhjaaaGreatDoor

namespace Go.Proofs.YthohnmplbjhjaaaGreatDoor
open Go Go.RowKit Go.Shelf Go.Lib
attribute [local go_sem] Oper.semAt_some
set_option maxRecDepth 100000 in
set_option maxHeartbeats 2000000 in
theorem QA {w0:World} {V:List Md.Vr} {va:Value} {b:Nat} {s:St} (w:World) (h:Ln w0 V va b s w):Calls Tryz.prog 128 #[.pointer (some ⟨b,0,none⟩)] w (RO w0 V va b (.tuple #[]) (endT s) w):=by
 refine (callsIn_wide (n:=5)).1 ?_
 obtain ⟨W1,hW1⟩:∃ W1,w.alloc (.cells #[.pointer (some ⟨b,0,none⟩)] 113)=W1:=⟨_,rfl⟩
 have hb1:Below w.heap.size w W1:=hW1▸(Below.refl _ _).alloc (Nat.le_refl _) _
 have hs1:W1.heap.size=w.heap.size+1:=by rw [<-hW1];simp
 have hX:=xT (F:=Fence.wide) (5-1) b W1 rfl
 have x1:W1.cell? ⟨w.heap.size,0,none⟩=some (.pointer (some ⟨b,0,none⟩)):=by rw [<-hW1,Lib.cell_of_heap (heap_alloc_new w _)];rfl
 refine callsIn_of_wp_marks Tryz.func128 rfl trivial ?_ rfl
 simp only [Tryz.ntmps128,List.size_toArray,List.length_cons,List.length_nil,Nat.reduceAdd,Nat.reduceSub,Array.replicate_succ,Array.replicate_zero,List.push_toArray,List.append_toArray,List.nil_append,List.cons_append]
 gi_wp2_with (refine ⟨trivial,?_⟩;gi_at_call 47;refine hX.mono ?_;rintro e w' ⟨rfl,rfl⟩)
 obtain ⟨W2,hW2⟩:∃ W2,W1.alloc (.cells #[.pointer (some ⟨b,0,none⟩)] 113)=W2:=⟨_,rfl⟩
 rw [hW2]
 have hb2:Below W1.heap.size W1 W2:=hW2▸(Below.refl _ _).alloc (Nat.le_refl _) _
 have hs2:W2.heap.size=w.heap.size+2:=by rw [<-hW2];simp [hs1]
 have hB2:W2.heap[w.heap.size+1]?=some (.cells #[.pointer (some ⟨b,0,none⟩)] 113):=by
  rw [<-hs1,<-hW2]
  exact World.alloc_heap_new W1 _
 have hN2:W2.heap[w.heap.size]?=some (.cells #[.pointer (some ⟨b,0,none⟩)] 113):=(hb2.block _ (by omega)).trans (hW1▸World.alloc_heap_new w _)
 have hbw:Below w.heap.size w W2:=hb1.trans (hb2.mono hb1.size)
 have hln2:Ln w0 V va b s W2:=h.below hbw
 have hlt:=h.lt
 have hbg:=h.big
 clear hX hW1 hW2 hb1 hb2 x1
 refine Ye rfl (by omega) (gf:=105) (lb:=#[.pointer (some ⟨w.heap.size+1,0,none⟩)]) rfl trivial (enters_of Tryz.func105 (by kernel_rfl) rfl) (w0:=w0) (V:=V) (va:=va) (b:=b) s (T:=fun k=>k=w.heap.size+1) (fun k hk=>by omega)
  (fun W hb=>Yf _ (by omega) (w.heap.size+1) W ((hb.block _ (by omega)).trans hB2) (by omega)) rfl
  (fun s' W=>Ln w0 V va b s' W/\W.heap[w.heap.size]?=some (.cells #[.pointer (some ⟨b,0,none⟩)] 113)/\Ofw (fun k=>k=b) w W/\(s'=s∨s'=endT s/\s'.2≠0))
  (fun c W=>False)
  (fun s' W hI=>hI.1) ?_ (fun _ _ _ h=>h.elim) ⟨hln2,hN2,Ofw.of_below hbw,.inl rfl⟩
  (fun x=>{ tmps:=#[.pointer (some ⟨b,0,none⟩),.pointer (some ⟨w.heap.size,0,none⟩),.pointer (some ⟨b,0,none⟩),.func (.func 105) #[] #[.pointer (some ⟨w.heap.size+1,0,none⟩)],.string (yc x),undef,undef],defers:=[] }) ?assign ?body ?done (fun _ _ h=>h.elim)
 ·rintro s' W W' ⟨hl,hn,ho,hq⟩ k
  exact ⟨hl.keep (fun k hk=>by omega) k,(k.block _ (Array.getElem?_eq_some_iff.1 hn).1 (by omega)).trans hn,ho.new k (fun i hi=>by omega),hq⟩
 case assign=>
  intro l' x W K hK
  gi_wp2
  simp
  exact hK
 case body=>
  rintro l' s' x s1 W Wa ⟨hl,hn,ho,hq⟩ hx hla hoa hsz
  have hna:Wa.heap[w.heap.size]?=some (.cells #[.pointer (some ⟨b,0,none⟩)] 113):=(hoa.block _ (Array.getElem?_eq_some_iff.1 hn).1 (by omega)).trans hn
  have c1:Wa.cell? ⟨w.heap.size,0,none⟩=some (.pointer (some ⟨b,0,none⟩)):=by rw [yd hna 0];rfl
  have HF:Hid (Calls Tryz.prog 109 #[.pointer (some ⟨b,0,none⟩),.int .i64 57] Wa (RO w0 V va b (.tuple #[]) (yh 57 s1) Wa)):=zC 57 Wa hla
  have hs:s'=s:=by
   rcases hq with rfl | ⟨_,hq⟩
   ·rfl
   ·rw [xm hq] at hx;cases hx
  subst hs
  have he:yh 57 s1=endT s'/\(yh 57 s1).2≠0:=by
   have h0:=(zf hx).2.2.1
   refine ⟨by unfold endT;rw [hx],?_⟩
   unfold yh
   have h0':s1.2=0:=h0
   rw [if_pos h0']
   show (57:Int)≠0
   decide
  have HE:Hid (∀ V',RO w0 V va b (.tuple #[]) (yh 57 s1) Wa (.returned (.tuple #[])) V'->((∃ s2,(Ln w0 V va b s2 V'/\V'.heap[w.heap.size]?=some (.cells #[.pointer (some ⟨b,0,none⟩)] 113)/\Ofw (fun k=>k=b) w V'/\(s2=s'∨s2=endT s'/\s2.2≠0))/\s2.1.length<=s1.1.length)/\Wa.heap.size<=V'.heap.size/\∀ k,(k=w.heap.size+1∨k=W2.heap.size∨k=W2.heap.size+1)->V'.heap[k]?=Wa.heap[k]?)):=fun V' hV=>by
   refine ⟨⟨_,⟨hV.2.1,(hV.2.2.block _ (Array.getElem?_eq_some_iff.1 hna).1 (by omega)).trans hna,(ho.new hoa (fun i hi=>by omega)).trans hV.2.2,.inr he⟩,by rw [yS];exact Nat.le_refl _⟩,hV.2.2.size,fun k hk=>hV.2.2.block k (by omega) (by omega)⟩
  clear hl hn ho hla hoa hna he
  gi_wp2_with (refine ⟨trivial,?_⟩;gi_at_call 109;refine (zr HF.out).mono ?_;rintro e w3 ⟨rfl,h3,o3⟩;have HV:Hid _:=HE.out w3 ⟨rfl,h3,o3⟩;clear h3 o3)
  exact ⟨.inl ⟨rfl,HV.out.1⟩,HV.out.2.1,HV.out.2.2⟩
 case done=>
  rintro s' W ⟨hl,hn,ho,hq⟩ ht hK
  have he:s'=endT s:=by
   rcases hq with rfl | ⟨hq,_⟩
   ·unfold endT;rw [ht]
   ·exact hq
  gi_wp2
  refine ⟨by simp,.inl ⟨_,_,rfl,run_takeDeferred hK,?_⟩⟩
  have hp:=zd (S:=fun k=>k=W2.heap.size) W W2.heap.size (.deferred none) rfl
  exact ⟨_,results_none rfl _ _ _,rfl,he▸hl.keep (fun k hk=>by omega) hp,ho.new hp (fun i hi=>by omega)⟩
end Go.Proofs.YthohnmplbjhjaaaGreatDoor

namespace Go.Proofs.YthohnmplbjhjaaaGreatDoor
open Go Go.RowKit Go.Shelf Go.Lib
theorem YR (x l:List UInt8):((yc x).toList==l)=decide (x=l):=by
 have:=Zk x l
 rwa [show (yc l).toList=l by rw [Lib.toList_data,zz]] at this
theorem y4W (x:List UInt8):Lib.hasPrefix x [45]=decide (x.headD 0=45)/\Lib.trimPrefix x [45]=if x.headD 0=45 then x.drop 1 else x:=by
  cases x with
  | nil=>exact ⟨rfl,rfl⟩
  | cons c l =>
    by_cases h:c=45
    · subst h
      constructor
      · simp [Lib.hasPrefix]
      · simp [Lib.trimPrefix,Lib.hasPrefix]
    · constructor
      · have hp:[45].isPrefixOf (c :: l)=false:=by simp [List.isPrefixOf];exact fun e=>h e.symm
        simp [Lib.hasPrefix,h,hp]
      · have hp:[45].isPrefixOf (c :: l)=false:=by simp [List.isPrefixOf];exact fun e=>h e.symm
        simp [Lib.trimPrefix,Lib.hasPrefix,h,hp]
theorem y4X (d:List UInt8) (k:Nat) (h:k<d.length):numT (d.take (k+1))=min (10 * numT (d.take k)+((d[k].toNat:Int)-48)) 1000000001:=by
 unfold numT
 rw [List.take_succ_eq_append_getElem h,List.foldl_append]
 rfl
theorem Ke (d:List UInt8) (h:d.all digT=true):0<=numT d/\numT d<=1000000001:=by
  suffices ∀ (d:List UInt8) (n:Int),(d.all digT=true)->0<=n->n<=1000000001->0<=d.foldl (fun n c=>min (10 * n+((c.toNat:Int)-48)) 1000000001) n/\d.foldl (fun n c=>min (10 * n+((c.toNat:Int)-48)) 1000000001) n<=1000000001 from this d 0 h (by omega) (by omega)
  intro d
  induction d with
  | nil=>intro n _ h0 h1;exact ⟨h0,h1⟩
  | cons c l ih =>
    intro n ha h0 h1
    simp only [List.all_cons,Bool.and_eq_true,digT,decide_eq_true_eq] at ha
    rw [List.foldl_cons]
    exact ih _ (by simpa [digT] using ha.2) (by omega) (by omega)
def zE (w:List UInt8):List UInt8:=if w.headD 0=45 then w.drop 1 else w
theorem y4Y {x:List UInt8} (h:zE x=[]):yH x=(0,false):=by unfold yH;unfold zE at h;simp only [h];rfl
theorem y4Z {x:List UInt8} (h:(zE x).headD 0=48) (h2:x≠[48]):yH x=(0,false):=by unfold yH;unfold zE at h;simp only;rw [if_pos (.inr ⟨h,h2⟩)]
theorem y50 {x:List UInt8} (h0:zE x≠[]) (h:¬ ((zE x).headD 0=48/\x≠[48])) (ha:(zE x).all digT=false):yH x=(0,false):=by
 unfold yH;unfold zE at h h0 ha;simp only
 rw [if_neg (fun e=>e.elim h0 h),if_neg (by rw [ha];decide)]
theorem y51 {x:List UInt8} (h0:zE x≠[]) (h:¬ ((zE x).headD 0=48/\x≠[48])) (ha:(zE x).all digT=true):yH x=(if x.headD 0=45 then -(numT (zE x)) else numT (zE x),true):=by
 unfold yH;unfold zE at h h0 ha ⊢;simp only
 rw [if_neg (fun e=>e.elim h0 h),if_pos ha]
theorem y52 {n c:Int} (h0:0<=n) (h1:n<=1000000001) (h2:48<=c) (h3:c<=57):IntKind.i64.wrap (10 * n)=10 * n/\IntKind.u8.wrap (c-48)=c-48/\IntKind.i64.wrap (c-48)=c-48/\IntKind.i64.wrap (10 * n+(c-48))=10 * n+(c-48):=by
 refine ⟨?_,?_,?_,?_⟩
 ·rw [IntKind.wrap_i64];omega
 ·rw [IntKind.wrap_u8];omega
 ·rw [IntKind.wrap_i64];omega
 ·rw [IntKind.wrap_i64];omega
set_option maxRecDepth 10000 in
set_option maxHeartbeats 2000000 in
theorem y4U (x:List UInt8) (w:World) (hx:x.length<=70000):Calls Tryz.prog 185 #[.string (yc x)] w fun e w'=>e=.returned (.tuple #[.int .i64 (yH x).1,.bool (yH x).2])/\w'=w:=by
  obtain ⟨p1,p2⟩:=y4W x
  obtain ⟨d,hd⟩:∃ d,zE x=d:=⟨_,rfl⟩
  obtain ⟨bw,hbw⟩:∃ bw,decide (x.headD 0=45)=bw:=⟨_,rfl⟩
  obtain ⟨D,hD⟩:∃ D,yc d=D:=⟨_,rfl⟩
  have HC:Hid (Calls Tryz.prog 190 #[.string (yc x),.string ⟨#[45]⟩] w fun e w'=>e=.returned (.tuple #[.string D,.bool bw])/\w'=w):=by
    have:=Tryz.strings_CutPrefix (yc x) ⟨#[45]⟩ w
    rw [zz] at this
    have e1:(⟨(Lib.trimPrefix x [45]).toArray⟩:ByteArray)=D:=by rw [p2,<-hD,<-hd];rfl
    have e2:Lib.hasPrefix x [45]=bw:=by rw [p1,hbw]
    rw [<-e1,<-e2]
    exact this
  have hDs:D.size=d.length:=by rw [<-hD];exact zI d
  have hDl:D.data.toList=d:=by rw [<-hD];exact zz d
  have hdl:d.length<=70000:=by
    rw [<-hd];unfold zE
    split
    · simp;omega
    · exact hx
  have hq:=YR x [48]
  obtain ⟨X,hX⟩:∃ X,yc x=X:=⟨_,rfl⟩
  rw [hX] at HC hq ⊢
  clear p1 p2 hX hD
  by_cases h0:d=[]
  · have HR:Hid (yH x=(0,false)):=y4Y (hd.trans h0)
    have hem:D.toList.isEmpty=true:=by rw [Lib.toList_data,hDl,h0];rfl
    rw [HR.out]
    clear hq
    go_enter Tryz.func185,Tryz.ntmps185
    go_wp2_with fail
    refine cZ HC.out ?_
    rintro e w' ⟨rfl,hww⟩
    rw [hww]
    clear hww
    go_wp2_with fail
    go_ret2
    exact ⟨rfl,rfl⟩
  · have hem:D.toList.isEmpty=false:=by
      rw [Lib.toList_data,hDl]
      cases d with
      | nil=>exact absurd rfl h0
      | cons _ _=>rfl
    have hpos:0<D.size:=by rw [hDs];exact List.length_pos_iff.2 h0
    have hposI:(0:Int)<(D.size:Int):=by omega
    have hh:d.headD 0=D[0]:=by
      have:=Yr D hpos
      rw [hDl] at this
      cases d with
      | nil=>exact absurd rfl h0
      | cons a l=>simpa using this
    have hc48:((D[0].toNat:Int)==48)=decide (d.headD 0=48):=by
      rw [hh]
      by_cases h:D[0]=48
      · rw [h];rfl
      · rw [decide_eq_false h]
        have h1:D[0].toNat≠48:=fun e=>h (UInt8.toNat_inj.1 e)
        simp;omega
    by_cases h1:d.headD 0=48/\x≠[48]
    · have HR:Hid (yH x=(0,false)):=y4Z (by rw [hd];exact h1.1) h1.2
      rw [HR.out]
      rw [decide_eq_true h1.1] at hc48
      rw [decide_eq_false h1.2] at hq
      clear h1 hh
      go_enter Tryz.func185,Tryz.ntmps185
      go_wp2_with fail
      refine cZ HC.out ?_
      rintro e w' ⟨rfl,hww⟩
      rw [hww]
      clear hww
      go_wp2_with fail
      go_ret2
      exact ⟨rfl,rfl⟩
    · have hgd:(decide (d.headD 0=48)&&!decide (x=[48]))=false:=by
        by_cases a:d.headD 0=48
        · by_cases b:x=[48]
          · rw [decide_eq_true b];simp
          · exact absurd ⟨a,b⟩ h1
        · rw [decide_eq_false a];rfl
      have HNb:Hid (¬ ((zE x).headD 0=48/\x≠[48])):=by rw [hd];exact h1
      have HN0:Hid (zE x≠[]):=by rw [hd];exact h0
      have HA0:Hid ((d.take 0).all digT=true):=by show _=_;simp
      have HN:Hid (∀ k,(d.take k).all digT=true->0<=numT (d.take k)/\numT (d.take k)<=1000000001):=fun k h=>Ke _ h
      have HS:Hid (∀ k (h:k<d.length),numT (d.take (k+1))=min (10 * numT (d.take k)+((d[k].toNat:Int)-48)) 1000000001):=fun k h=>y4X d k h
      have HDk:Hid (∀ k (h:k<d.length),∃ h':k<D.size,D[k]=d[k]):=fun k h=>by
        have h':k<D.size:=by omega
        refine ⟨h',?_⟩
        have:=Yr D h'
        rw [hDl,List.getElem?_eq_getElem h] at this
        injection this with this
        exact this.symm
      have HBw:Hid (decide (x.headD 0=45)=bw):=hbw
      have HDd:Hid (zE x=d):=hd
      have key:∀ a b:Bool,decide (d.headD 0=48)=a->decide (x=[48])=b->Calls Tryz.prog 185 #[.string X] w fun e w'=>e=.returned (.tuple #[.int .i64 (yH x).1,.bool (yH x).2])/\w'=w:=by
        intro a b ea eb
        rw [ea,eb] at hgd
        rw [ea] at hc48
        rw [eb] at hq
        have main:∀ (hgd:(a&&!b)=false),Calls Tryz.prog 185 #[.string X] w fun e w'=>e=.returned (.tuple #[.int .i64 (yH x).1,.bool (yH x).2])/\w'=w:=by
          intro _
          have HDs:Hid (D.size=d.length):=hDs
          have E0:Hid (numT (d.take 0)=0):=rfl
          clear ea eb h1 hh hbw hd hDl h0 hDs
          cases a <;> cases b <;> first | (exfalso;simp at hgd;done) | skip
          all_goals
            clear hgd
            go_enter Tryz.func185,Tryz.ntmps185
            go_wp2_with fail
            refine cZ HC.out ?_
            rintro e w' ⟨rfl,hww⟩
            rw [hww]
            clear hww
            go_wp2_with fail
            go_loopw [6,26] (fun nv iv wr=>∃ k:Nat,nv=.int .i64 (numT (d.take k))/\iv=.int .i64 (k:Int)/\k<=d.length/\Hid ((d.take k).all digT=true)/\w=wr) (fun _ iv _=>d.length-(RowKit.intOf iv).toNat)
            case atStart=>exact ⟨0,by rw [E0.out],rfl,Nat.zero_le _,HA0,rfl⟩
            case round=>
              obtain ⟨k,rfl,rfl,hk,hA,rfl⟩:=hrel
              by_cases hlt:k<d.length
              · obtain ⟨h',hDc⟩:=HDk.out k hlt
                have hkI:(k:Int)<(D.size:Int):=by have:=HDs.out;omega
                obtain ⟨c,hc⟩:∃ c:UInt8,d[k]=c:=⟨_,rfl⟩
                rw [hc] at hDc
                obtain ⟨n0,n1⟩:=HN.out k hA.out
                have HSk:=HS.out k hlt
                rw [hc] at HSk
                obtain ⟨n,hn⟩:∃ n,numT (d.take k)=n:=⟨_,rfl⟩
                rw [hn] at HSk n0 n1 ⊢
                have HCi:Hid (c=D[k]):=hDc.symm
                clear hDc hn
                rw [HCi.out] at HSk
                by_cases hdg:48<=((D[k].toNat:Nat):Int)/\((D[k].toNat:Nat):Int)<=57
                · have hcl:decide (((D[k].toNat:Nat):Int)<48)=false:=decide_eq_false (by omega)
                  have hcr:decide ((57:Int)<((D[k].toNat:Nat):Int))=false:=decide_eq_false (by omega)
                  obtain ⟨q1,q2,q3,q4⟩:=y52 n0 n1 hdg.1 hdg.2
                  have HT:Hid ((d.take (k+1)).all digT=true/\numT (d.take (k+1))=min (10 * n+(((D[k].toNat:Nat):Int)-48)) 1000000001):=by
                    refine ⟨?_,HSk⟩
                    rw [List.take_succ_eq_append_getElem hlt,List.all_append,hA.out,hc]
                    simp only [List.all_cons,List.all_nil,Bool.and_true,Bool.true_and,digT,decide_eq_true_eq]
                    rw [HCi.out]
                    omega
                  have HQ:Hid (numT (d.take (k+1))=min (wrap64 (wrap64 (10 * n)+(((D[k].toNat:Nat):Int)-48) % 256)) 1000000001):=by
                    have:=HT.out.2
                    show _=_
                    rw [this]
                    unfold wrap64
                    omega
                  clear hc HSk hdg q1 q2 q3 q4 n0 n1 hc48 hq
                  go_wp2_with fail
                  go_roundw
                  case rel=>exact ⟨k+1,by rw [HQ.out],rfl,by omega,HT.out.1,by first | rfl | trivial⟩
                  case measure=>simp [RowKit.intOf];omega
                · have HR:Hid (yH x=(0,false)):=by
                    refine y50 HN0.out HNb.out ?_
                    rw [HDd.out,List.all_eq_false]
                    refine ⟨c,hc▸List.getElem_mem hlt,?_⟩
                    simp only [digT,decide_eq_true_eq]
                    rw [HCi.out]
                    omega
                  clear hc HSk n0 n1 hc48 hq
                  by_cases hb:((D[k].toNat:Nat):Int)<48
                  · have hcl:decide (((D[k].toNat:Nat):Int)<48)=true:=decide_eq_true hb
                    clear hb hdg
                    go_wp2_with fail
                    go_ret2
                    exact ⟨by rw [HR.out];rfl,rfl⟩
                  · have hcl:decide (((D[k].toNat:Nat):Int)<48)=false:=decide_eq_false hb
                    have hcr:decide ((57:Int)<((D[k].toNat:Nat):Int))=true:=decide_eq_true (by omega)
                    clear hb hdg
                    go_wp2_with fail
                    go_ret2
                    exact ⟨by rw [HR.out];rfl,rfl⟩
              · have hkI:¬ (k:Int)<(D.size:Int):=by have:=HDs.out;omega
                have HA:Hid (d.all digT=true):=by
                  have:=hA.out
                  rwa [List.take_of_length_le (by omega)] at this
                have he:d.take k=d:=List.take_of_length_le (by omega)
                have HR:Hid (yH x=(if bw=true then -(numT d) else numT d,true)):=by
                  have:=y51 HN0.out HNb.out (by rw [HDd.out];exact HA.out)
                  show _=_
                  rw [this,HDd.out,<-HBw.out]
                  simp only [decide_eq_true_eq]
                have hbd:=Ke d HA.out
                obtain ⟨n,hn⟩:∃ n,numT d=n:=⟨_,rfl⟩
                rw [hn] at HR hbd
                rw [he,hn]
                have HQ:Hid (wrap64 (-n)=-n):=by show wrap64 (-n)=-n;unfold wrap64;omega
                clear he hn hc48 hq hbd
                cases bw with
                | true =>
                  go_wp2_with fail
                  go_ret2
                  exact ⟨by rw [HR.out,HQ.out];rfl,rfl⟩
                | false =>
                  go_wp2_with fail
                  go_ret2
                  exact ⟨by rw [HR.out];rfl,rfl⟩
        exact main hgd
      exact key _ _ rfl rfl
end Go.Proofs.YthohnmplbjhjaaaGreatDoor
