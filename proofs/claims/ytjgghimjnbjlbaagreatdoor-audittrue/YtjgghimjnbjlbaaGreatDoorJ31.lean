/-
  Put together: Back, SmallSize.
-/
import Derived.Test.YtjgghimjnbjlbaaGreatDoorJ04
import Derived.RangeFuncNested
import Derived.RangeFuncBound
import Derived.RangeFuncCalls
import Derived.RangeFuncLeaves
import Derived.RangeFuncFrom
import Derived.Shelf.Abstract
import Derived.Shelf.RegionOpen
import Derived.OwnWalkIn
import Derived.TacticsInMore
import Derived.LoopNIn
import Derived.LoopIn
import Derived.Test.YtjgghimjnbjlbaaGreatDoorJ28
namespace Go.Proofs.YtjgghimjnbjlbaaGreatDoor
open Go.RowKit Go.Shelf
set_option maxRecDepth 10000
set_option maxHeartbeats 8000000
open Bn (yj)
attribute [local go_sem] Oper.semAt_some
def zb (n:Nat):List (Fin n):=(List.ofFn fun i:Fin n=>i).reverse
theorem YB (n:Nat):(zb n).length=n:=by simp [zb]
theorem y20 (n k:Nat) (h:k<n):(zb n)[k]?=some ⟨n-1-k,by omega⟩:=by
  rw [List.getElem?_eq_getElem (by rw [YB];exact h)]
  congr 1
  simp only [zb,List.getElem_reverse,List.getElem_ofFn,List.length_ofFn]
theorem Q3 (n k:Nat) (h:k<n):(zb n).take (k+1)=(zb n).take k++[⟨n-1-k,by omega⟩]:=by
  have hl:k<(zb n).length:=by rw [YB];exact h
  rw [List.take_succ_eq_append_getElem hl]
  congr 2
  have:=y20 n k h;rw [List.getElem?_eq_getElem hl] at this;exact Option.some.inj this
theorem Q4 (n:Nat):(zb n).take n=zb n:=List.take_of_length_le (by rw [YB];exact Nat.le_refl _)
def Yh (zs:List Nat) (x:Fin zs.length):Array Value:=#[.int .i64 (x.val:Int),.int .u32 ((zs[x]:Nat):Int)]
def KpB (n₀ Bs:Nat) (W W':World):Prop:=Below n₀ W W'/\W'.cell? ⟨Bs,0,none⟩=W.cell? ⟨Bs,0,none⟩
theorem KpB.trans {n₀ Bs:Nat} {A B C:World} (h:KpB n₀ Bs A B) (k:KpB n₀ Bs B C):KpB n₀ Bs A C:=⟨h.1.trans k.1,k.2.trans h.2⟩
theorem KpB.refl (n₀ Bs:Nat) (W:World):KpB n₀ Bs W W:=⟨Below.refl _ _,rfl⟩
theorem KpB.putObj {n₀ Bs:Nat} {w:World} (hn:n₀<=w.heap.size) (hB:Bs<w.heap.size) (W:World) (l:Nat) (o o':Obj) (hl:w.heap.size<=l) (h:W.heap[l]?=some o) (h1:o.isCells=false) (h2:o.isWalk=false):KpB n₀ Bs W (W.putObj l o'):=
  ⟨belowK_b hn W l o o' hl h h1 h2,World.cell?_of_block (a:=⟨Bs,0,none⟩) ((grownBy_putObj' W l o').block Bs (by have:=(hLt h);omega) (fun e=>by injection e with e;omega))⟩
theorem y21 (F:Fence) (n:Nat) (h70:F.fn 265) (hro:F.round=none) (hn:1<=n) (l Bs n₀ b off cap:Nat) (zs:List Nat) (hreach:zs.length<=1000000000) (hb:b<n₀) (J Jx:List (Fin zs.length)->World->Prop)
    (hY:∀ pre (x:Fin zs.length) W,J pre W->pre.length<zs.length->YieldAt F (n-1) Tryz.prog l (Yh zs x) W fun e W'=>
      (e=.returned (.bool true)/\J (pre++[x]) W'/\KpB n₀ Bs W W')∨(e=.returned (.bool false)/\Jx (pre++[x]) W'))
    (W:World) (hBs:W.cell? ⟨Bs,0,none⟩=some (.slice (some ⟨b,off,none⟩) zs.length cap)) (hc:∀ j (h:j<zs.length),W.cell? ⟨b,off+j,none⟩=some (.int .u32 ((zs[j]:Nat):Int))) (h0:J [] W) :
    CallsIn F n Tryz.prog 265 #[.func (.yield l) #[] #[],.pointer (some ⟨Bs,0,none⟩)] W fun e W'=>(∃ v,e=.returned v) /\
      ((∃ ys,ys=zb zs.length/\J ys W')∨(∃ pre,(∃ k,k<zs.length/\pre=(zb zs.length).take (k+1))/\Jx pre W')):=by
  refine callsIn_of_wp Tryz.func265 rfl h70 ?_ hro;simp only [Tryz.ntmps265,List.size_toArray,List.length_cons,List.length_nil,Nat.reduceAdd,Nat.reduceSub,Array.replicate_succ,Array.replicate_zero,List.push_toArray,List.append_toArray,List.nil_append,List.cons_append]
  gi_wp2
  gi_loopw [3] (fun i wr=>∃ (k:Nat) (i':Int),k<=zs.length/\i=.int .i64 i'/\i'=(zs.length:Int)-1-(k:Int)/\J ((zb zs.length).take k) wr/\KpB n₀ Bs W wr)
    (fun i _=>(intOf i+1).toNat)
  case atStart=>exact ⟨0,_,Nat.zero_le _,rfl,by simp,h0,KpB.refl _ _ _⟩
  case round=>
    obtain ⟨k,i',hk,rfl,hi',hJs,hnx⟩:=hrel;have hBs':wr.cell? ⟨Bs,0,none⟩=some (.slice (some ⟨b,off,none⟩) zs.length cap):=hnx.2.trans hBs
    by_cases hlt:k<zs.length
    · obtain ⟨m,hm⟩:∃ m:Nat,m=zs.length-1-k:=⟨_,rfl⟩
      obtain rfl:i'=(m:Int):=by omega
      have hml:m<zs.length:=by omega
      have hcx:wr.cell? ⟨b,off+m,none⟩=some (.int .u32 ((zs[m]:Nat):Int)):=(hnx.1.cell (p:=⟨b,off+m,none⟩) hb).trans (hc m hml);have hmI:(m:Int)<(zs.length:Int):=by omega
      obtain ⟨fn,tmps,assign,body,hy,hR⟩:=hY _ ⟨m,hml⟩ wr hJs (by rw [List.length_take,YB];omega);simp only [Yh,Fin.getElem_fin] at hy;have HR:Hid ((zb zs.length).take (k+1)=(zb zs.length).take k++[⟨m,hml⟩]):=by
        show _=_;subst hm;exact Q3 _ _ hlt
      have HM:Hid (m=zs.length-1-k):=hm;clear hi' hm hc
      gi_wp2
      refine hR.mono ?_;rintro e W3 (⟨rfl,hJ3,hk3⟩ | ⟨rfl,hJx3⟩)
      · gi_wp2
        go_roundw
        case rel=>exact ⟨k+1,_,by omega,rfl,by have:=HM.out;omega,by rw [HR.out];exact hJ3,hnx.trans hk3⟩
        case measure=>simp [intOf]
      · gi_wp2
        refine bodyPost_ret (results_none rfl _ _ _) rfl ?_;exact ⟨⟨_,rfl⟩,.inr ⟨_,⟨k,hlt,HR.out.symm⟩,hJx3⟩⟩
    · obtain rfl:k=zs.length:=by omega
      obtain rfl:i'=-1:=by omega
      clear hi'
      gi_wp2
      go_end0;exact ⟨⟨_,rfl⟩,.inl ⟨_,(Q4 _),hJs⟩⟩
theorem y22 (F:Fence) (n:Nat) (h70:F.fn 265) (hro:F.round=none) (l Bs:Nat) (J:World->Prop) (W:World) (hBs:W.cell? ⟨Bs,0,none⟩=some (.slice none 0 0)) (h0:J W) :
    CallsIn F n Tryz.prog 265 #[.func (.yield l) #[] #[],.pointer (some ⟨Bs,0,none⟩)] W fun e W'=>(∃ v,e=.returned v)/\J W':=by
  refine callsIn_of_wp Tryz.func265 rfl h70 ?_ hro;simp only [Tryz.ntmps265,List.size_toArray,List.length_cons,List.length_nil,Nat.reduceAdd,Nat.reduceSub,Array.replicate_succ,Array.replicate_zero,List.push_toArray,List.append_toArray,List.nil_append,List.cons_append]
  gi_wp2
  gi_loopw [3] (fun i wr=>i=.int .i64 (-1)/\J wr) (fun _ _=>0)
  case atStart=>exact ⟨rfl,h0⟩
  case round=>
    obtain ⟨rfl,hJs⟩:=hrel
    gi_wp2
    go_end0;exact ⟨⟨_,rfl⟩,hJs⟩
theorem Q5 (F:Fence) (n:Nat) (h44:F.fn 257) (hro:F.round=none) (a:Option Addr) (len cap:Nat) (w:World) :
    CallsIn F n Tryz.prog 257 #[.slice a len cap] w fun e w'=>e=.returned (.func (.func 265) #[] #[.pointer (some ⟨w.heap.size,0,none⟩)])/\w'=w.alloc (.cells #[.slice a len cap] 285):=by
  refine callsIn_of_wp Tryz.func257 rfl h44 ?_ hro;simp only [Tryz.ntmps257,List.size_toArray,List.length_cons,List.length_nil,Nat.reduceAdd,Nat.reduceSub,Array.replicate_succ,Array.replicate_zero,List.push_toArray,List.append_toArray,List.nil_append,List.cons_append]
  gi_wp2
  go_ret;exact ⟨rfl,rfl⟩
theorem Q6 (F:Fence) (n:Nat) (h70:F.fn 265) (hro:F.round=none) (hn:1<=n) (Bs:Nat) (sv:Value) (zs:List Nat) (hreach:zs.length<=1000000000) (w w₁:World) (hBs:Bs<w₁.heap.size) (hw:Below w.heap.size w w₁)
    (hc:w₁.cell? ⟨Bs,0,none⟩=some sv) (hI:U32At w sv zs) :
    SeqStopsK F n Tryz.prog 265 #[.pointer (some ⟨Bs,0,none⟩)] (Yh zs) (KpB w.heap.size Bs) (fun ys=>ys=zb zs.length) (fun pre=>∃ k,k<zs.length/\pre=(zb zs.length).take (k+1)) zs.length w₁:=fun l J Jx W hW _ _ hY h0=>by
  have hc':=(hW.cell (p:=⟨Bs,0,none⟩) hBs).trans hc;have hBw:Below w.heap.size w W:=hw.trans (hW.mono hw.size);rcases hI.below hBw with ⟨rfl,rfl⟩ | ⟨b,off,cap,rfl,hb,_,_,hcs⟩
  · exact (y22 F n h70 hro l Bs (J []) W hc' h0).mono fun e W' ⟨he,hj⟩=>⟨he,.inl ⟨_,rfl,hj⟩⟩
  · rcases hI with ⟨e1,_⟩ | ⟨b',off',cap',e1,hb',_⟩
    · cases e1
    · have hbb:b<w.heap.size:=by
        injection e1 with e1 _ _;injection e1 with e1;injection e1 with e1 _ _;omega
      exact y21 F n h70 hro hn l Bs w.heap.size b off cap zs hreach hbb J Jx hY W hc' hcs h0
end Go.Proofs.YtjgghimjnbjlbaaGreatDoor

namespace Go.Proofs.YtjgghimjnbjlbaaGreatDoor
open Go.RowKit Go.Shelf
set_option maxRecDepth 10000
set_option maxHeartbeats 8000000
open Bn (yj)
attribute [local go_sem] Oper.semAt_some
def accF (zs:List Nat) (pre:List (Fin zs.length)):Nat:=pre.foldl (fun n i=>(n * 1000000000+zs[i]) % 18446744073709551616) 0
theorem Z8 (zs:List Nat) (pre:List (Fin zs.length)) (x:Fin zs.length):accF zs (pre++[x])=(accF zs pre * 1000000000+zs[x]) % 18446744073709551616:=by
  unfold accF;rw [List.foldl_append,List.foldl_cons,List.foldl_nil]
theorem y6U (zs:List Nat) (k:Nat):Bn.val (zs.drop k)<=Bn.val zs:=by
  induction k generalizing zs with
  | zero=>simp
  | succ k ih =>
    cases zs with
    | nil=>simp [Bn.val]
    | cons d l=>simp only [List.drop_succ_cons,Bn.val];have:=ih l;omega
theorem y0l (zs:List Nat) (h:Bn.val zs<18446744073709551616):∀ k,k<=zs.length->accF zs ((zb zs.length).take k)=Bn.val (zs.drop (zs.length-k))
  | 0,_=>by simp [accF,Bn.val]
  | k + 1, hk => by
    rw [Q3 _ _ (by omega),Z8,y0l zs h k (by omega)];have hl:zs.length-1-k<zs.length:=by omega
    have e:zs.drop (zs.length-(k+1))=zs[zs.length-1-k] :: zs.drop (zs.length-k):=by
      rw [show zs.length-(k+1)=zs.length-1-k from by omega,List.drop_eq_getElem_cons hl,show zs.length-1-k+1=zs.length-k from by omega]
    have h2:=y6U zs (zs.length-(k+1));rw [e] at h2 ⊢;simp only [Bn.val,Fin.getElem_fin] at h2 ⊢;omega
theorem y6V (zs:List Nat) (h:Bn.val zs<18446744073709551616):accF zs (zb zs.length)=Bn.val zs:=by
  have:=y0l zs h zs.length (Nat.le_refl _);rw [Q4] at this;simpa using this
theorem y0m (zs:List Nat) (pre:List (Fin zs.length)):accF zs pre<18446744073709551616:=by
  rcases List.eq_nil_or_concat pre with h | ⟨q,y,h⟩
  · subst h;unfold accF;rw [List.foldl_nil];omega
  · rw [h]
    rw [show q.concat y=q++[y] from by simp,Z8];omega
theorem y0n (acc p:Nat):IntKind.u64.wrap (IntKind.u64.wrap ((acc:Int) * 1000000000)+(p:Int))=(((acc * 1000000000+p) % 18446744073709551616:Nat):Int):=by
  rw [IntKind.wrap_u64,IntKind.wrap_u64];omega
theorem y0o (x:Nat):x<10000000000000000000↔((yj x).length<3∨∃ h:(yj x).length=3,(yj x)[2]<=9):=by
  have h2:=Bn.limbs_length_le x 2;have h3:=Bn.limbs_length_le x 3;have e2:(1000000000:Nat) ^ 2=1000000000000000000:=by decide
  have e3:(1000000000:Nat) ^ 3=1000000000000000000000000000:=by decide
  rw [e2] at h2;rw [e3] at h3
  constructor
  · intro h
    by_cases hl:(yj x).length<=2
    · exact .inl (by omega)
    · have h4:(yj x).length=3:=by have:=h3.2 (by omega);omega
      refine .inr ⟨h4,?_⟩;rw [Bn.get_limbs (by omega),e2];omega
  · rintro (h | ⟨h,h9⟩)
    · have:=h2.1 (by omega);omega
    · rw [Bn.get_limbs (by omega),e2] at h9
      have:=h3.1 (by omega);omega
theorem y6T (x:Nat) (v:Value) (w:World) (h:U32At w v (yj x)) (hx:10000000000000000000<=x) :
    Calls Tryz.prog 249 #[v] w fun e w'=>e=.returned (.tuple #[.int .u64 0,.bool false])/\w'=w:=by
  have hs:¬ ((yj x).length<3∨∃ h:(yj x).length=3,(yj x)[2]<=9):=fun h=>by have:=(y0o x).2 h;omega
  have hl3:3<=(yj x).length:=by
    rcases Nat.lt_or_ge (yj x).length 3 with h | h
    · exact absurd (.inl h) hs
    · exact h
  obtain ⟨b,off,cap,rfl,_,_,hm,hc⟩:=h.pos (by omega);unfold maxLen at hm
  by_cases h3:(yj x).length=3
  · have h9:¬ (yj x)[2]<=9:=fun h=>hs (.inr ⟨h3,h⟩)
    have hc2:=hc 2 (by omega);generalize (yj x)[2]=p at *
    have h9I:(9:Int)<(p:Int):=by omega
    have hle:(((yj x).length:Int)==3)=true:=by simp;omega
    have hlg:¬ (3:Int)<((yj x).length:Int):=by omega
    have hlt:(2:Int)<((yj x).length:Int):=by omega
    clear hs hc h3 hl3;go_enter Tryz.func249,Tryz.ntmps249;go_wp2;go_ret2;exact ⟨rfl,rfl⟩
  · have hlg:(3:Int)<((yj x).length:Int):=by omega
    clear hs hc h3 hl3;go_enter Tryz.func249,Tryz.ntmps249;go_wp2;go_ret2;exact ⟨rfl,rfl⟩
theorem y0p (W:World) (v:Value) (t:TypeId):(W.alloc (.cells #[v] t)).cell? ⟨W.heap.size,0,none⟩=some v/\(W.alloc (.cells #[v] t)).frozen? ⟨W.heap.size,0,none⟩=false:=by simp
theorem y6S (x:Nat) (v:Value) (w:World) (h:U32At w v (yj x)) (hx:x<10000000000000000000) :
    Calls Tryz.prog 249 #[v] w fun e w'=>e=.returned (.tuple #[.int .u64 (x:Int),.bool true])/\Below w.heap.size w w':=by
  have hs:=(y0o x).1 hx;obtain ⟨a,cap,rfl,hm⟩:=h.form
  have hlen:(yj x).length<=3:=by rcases hs with h | ⟨h,_⟩ <;> omega
  have hlg:¬ (3:Int)<((yj x).length:Int):=by omega
  have hro:Fence.wide.round=none:=rfl;have h1:1<=5:=by omega
  have HX:Hid (accF (yj x) (zb (yj x).length)=x):=by
    show _=_;rw [y6V _ (by rw [Bn.val_limbs'];omega),Bn.val_limbs']
  have HLT:Hid (∀ i:Fin (yj x).length,(yj x)[i]<1000000000):=fun i=>Bn.limbs_get_lt i.isLt
  rcases hs with h3 | ⟨h3,h9⟩
  · have hle:(((yj x).length:Int)==3)=false:=by rw [beq_eq_false_iff_ne];omega
    have HU:Hid (U32At w (.slice a (yj x).length cap) (yj x)):=h;clear h hx h3;refine (callsIn_wide (n:=5)).1 ?_;refine callsIn_of_wp_marks Tryz.func249 rfl trivial ?_ hro;simp only [Tryz.ntmps249,List.size_toArray,List.length_cons,List.length_nil,Nat.reduceAdd,Nat.reduceSub,Array.replicate_succ,Array.replicate_zero,List.push_toArray,List.append_toArray,List.nil_append,List.cons_append]
    gi_wp2_with fail
    refine ⟨trivial,?_⟩;refine (Q5 Fence.wide 4 trivial hro _ _ _ _).mono ?_;rintro e w' ⟨rfl,rfl⟩
    gi_wp2
    have hs:=y0p w (.int .u64 0) 289;have hB0:Below w.heap.size w ((w.alloc (.cells #[.int .u64 0] 289)).alloc (.cells #[.slice a (yj x).length cap] 285)):=((Below.refl _ w).alloc (Nat.le_refl _) _).alloc (by simp) _;refine wpIn_rangeFunc_ownF hro h1 (gf:=265) (lb:=#[.pointer (some ⟨w.heap.size+1,0,none⟩)]) rfl trivial (enters_of Tryz.func265 (by kernel_rfl) rfl)
      (Q6 Fence.wide 4 trivial hro (by omega) (w.heap.size+1) (.slice a (yj x).length cap) (yj x) (by omega) w _ (by simp) hB0 (by simp) HU.out) KpB.trans (KpB.putObj (by simp;omega) (by simp)) (Below.refl _ _) (fun _=>rfl)
      (fun pre W=>(W.cell? ⟨w.heap.size,0,none⟩=some (.int .u64 ((accF (yj x) pre:Nat):Int))/\W.frozen? ⟨w.heap.size,0,none⟩=false)/\Below w.heap.size w W)
      (fun _ _ _=>False)
      (OwnFrom.and (Own.from (fun s A B row hs hg hr=>⟨cell_kept hs.1 hg hr,(frozen_kept hs.1 hg hr).trans hs.2⟩) _) (ownFrom_below (Nat.le_refl _) (by simp;omega)))
      (fun _ _ _ _ _ hs _ _=>hs)
      ⟨⟨by simp [accF],by simp⟩,hB0⟩
      (fun y=>{ tmps:=#[.slice a (yj x).length cap,undef,.int .u64 0,.bool false,.pointer (some ⟨w.heap.size,0,none⟩),undef,.int .u32 (((yj x)[y]:Nat):Int),.slice a (yj x).length cap,.int .i64 ((yj x).length:Int),.bool false,.bool false,.slice a (yj x).length cap,.int .i64 ((yj x).length:Int),.bool false,.bool false,undef,undef,undef,undef,.bool false,.bool false,.slice a (yj x).length cap,.func (.func 265) #[] #[.pointer (some ⟨w.heap.size+1,0,none⟩)],.int .i64 (y.val:Int),.int .u32 (((yj x)[y]:Nat):Int),undef,undef,undef,undef,undef,undef],defers:=[] }) ?assign ?body ?done ?stop
    case assign=>
      intro l y W K hK;simp only [Yh]
      gi_wp2
      exact hK
    case body=>
      rintro l pre y W ⟨⟨hc,hf⟩,hB⟩ _;have hy:=HLT.out y;have hA:accF (yj x) pre<18446744073709551616:=y0m _ _;have HS:Hid (accF (yj x) (pre++[y])=(accF (yj x) pre * 1000000000+(yj x)[y]) % 18446744073709551616):=Z8 _ _ _;generalize accF (yj x) pre=acc at *
      generalize (yj x)[y]=p at *
      gi_wp2
      refine ⟨KeepsOthers.setCell _ _ _,⟨(Below.refl w.heap.size W).setCell (p:=⟨w.heap.size,0,none⟩) (Nat.le_refl _) _,?_⟩,⟨?_,?_⟩,hB.setCell (p:=⟨w.heap.size,0,none⟩) (Nat.le_refl _) _⟩
      · exact World.cell?_setCell_other (h:=show (⟨w.heap.size,0,none⟩:Addr)≠⟨w.heap.size+1,0,none⟩ by simp) ..
      · rw [HS.out]
        refine (World.cell?_setCell_same' _ _ _ (by rw [hc];rfl)).trans (congrArg (fun z=>some (Value.int .u64 z)) (y0n acc p))
      · rw [World.frozen?_setCell];exact hf
    case done=>
      rintro D ys W hD rfl ⟨⟨hc,_⟩,hB⟩ hK;rw [HX.out] at hc
      gi_wp2
      refine ⟨by simp,.inl ⟨_,_,rfl,run_takeDeferred hK,?_⟩⟩;refine ⟨.tuple #[.int .u64 (x:Int),.bool true],?_,rfl,hB.trans (belowK_b (w:=w) (Nat.le_refl _) W D _ _ (by simp at hD;omega) hK rfl rfl)⟩;simp [results,Tryz.results249,go_sem]
    case stop=>
      rintro D c pre W _ _ h _;exact h.elim
  · obtain ⟨b,off,cap',hv,hb,_,_,hc⟩:=h.pos (by omega)
    injection hv with e1 e2 e3;subst e1 e3;have hc2:=hc 2 (by omega);obtain ⟨q,hq⟩:∃ q,q=(yj x)[2]:=⟨_,rfl⟩;rw [<-hq] at hc2 h9;have h9I:¬ (9:Int)<(q:Int):=by omega
    have hle:(((yj x).length:Int)==3)=true:=by simp;omega
    have hlt2:(2:Int)<((yj x).length:Int):=by omega
    have HU:Hid (U32At w (.slice (some ⟨b,off,none⟩) (yj x).length cap) (yj x)):=h;have hc2':(w.alloc (.cells #[.int .u64 0] 289)).cell? ⟨b,off+2,none⟩=some (.int .u32 (q:Int)):=(World.cell?_alloc_past _ _ _ hb).trans hc2;clear h hx h3 hc hq e2 h9;refine (callsIn_wide (n:=5)).1 ?_;refine callsIn_of_wp_marks Tryz.func249 rfl trivial ?_ hro;simp only [Tryz.ntmps249,List.size_toArray,List.length_cons,List.length_nil,Nat.reduceAdd,Nat.reduceSub,Array.replicate_succ,Array.replicate_zero,List.push_toArray,List.append_toArray,List.nil_append,List.cons_append]
    gi_wp2_with fail
    refine ⟨trivial,?_⟩;refine (Q5 Fence.wide 4 trivial hro _ _ _ _).mono ?_;rintro e w' ⟨rfl,rfl⟩
    gi_wp2
    have hs:=y0p w (.int .u64 0) 289;have hB0:Below w.heap.size w ((w.alloc (.cells #[.int .u64 0] 289)).alloc (.cells #[.slice (some ⟨b,off,none⟩) (yj x).length cap] 285)):=((Below.refl _ w).alloc (Nat.le_refl _) _).alloc (by simp) _;refine wpIn_rangeFunc_ownF hro h1 (gf:=265) (lb:=#[.pointer (some ⟨w.heap.size+1,0,none⟩)]) rfl trivial (enters_of Tryz.func265 (by kernel_rfl) rfl)
      (Q6 Fence.wide 4 trivial hro (by omega) (w.heap.size+1) (.slice (some ⟨b,off,none⟩) (yj x).length cap) (yj x) (by omega) w _ (by simp) hB0 (by simp) HU.out) KpB.trans (KpB.putObj (by simp;omega) (by simp)) (Below.refl _ _) (fun _=>rfl)
      (fun pre W=>(W.cell? ⟨w.heap.size,0,none⟩=some (.int .u64 ((accF (yj x) pre:Nat):Int))/\W.frozen? ⟨w.heap.size,0,none⟩=false)/\Below w.heap.size w W)
      (fun _ _ _=>False)
      (OwnFrom.and (Own.from (fun s A B row hs hg hr=>⟨cell_kept hs.1 hg hr,(frozen_kept hs.1 hg hr).trans hs.2⟩) _) (ownFrom_below (Nat.le_refl _) (by simp;omega)))
      (fun _ _ _ _ _ hs _ _=>hs)
      ⟨⟨by simp [accF],by simp⟩,hB0⟩
      (fun y=>{ tmps:=#[.slice (some ⟨b,off,none⟩) (yj x).length cap,undef,.int .u64 0,.bool false,.pointer (some ⟨w.heap.size,0,none⟩),undef,.int .u32 (((yj x)[y]:Nat):Int),.slice (some ⟨b,off,none⟩) (yj x).length cap,.int .i64 ((yj x).length:Int),.bool false,.bool false,.slice (some ⟨b,off,none⟩) (yj x).length cap,.int .i64 ((yj x).length:Int),.bool true,.bool true,.slice (some ⟨b,off,none⟩) (yj x).length cap,.pointer (some ⟨b,off+2,none⟩),.int .u32 (q:Int),.bool false,.bool false,.bool false,.slice (some ⟨b,off,none⟩) (yj x).length cap,.func (.func 265) #[] #[.pointer (some ⟨w.heap.size+1,0,none⟩)],.int .i64 (y.val:Int),.int .u32 (((yj x)[y]:Nat):Int),undef,undef,undef,undef,undef,undef],defers:=[] }) ?assign ?body ?done ?stop
    case assign=>
      intro l y W K hK;simp only [Yh]
      gi_wp2
      exact hK
    case body=>
      rintro l pre y W ⟨⟨hc,hf⟩,hB⟩ _;have hy:=HLT.out y;have hA:accF (yj x) pre<18446744073709551616:=y0m _ _;have HS:Hid (accF (yj x) (pre++[y])=(accF (yj x) pre * 1000000000+(yj x)[y]) % 18446744073709551616):=Z8 _ _ _;generalize accF (yj x) pre=acc at *
      generalize (yj x)[y]=p at *
      gi_wp2
      refine ⟨KeepsOthers.setCell _ _ _,⟨(Below.refl w.heap.size W).setCell (p:=⟨w.heap.size,0,none⟩) (Nat.le_refl _) _,?_⟩,⟨?_,?_⟩,hB.setCell (p:=⟨w.heap.size,0,none⟩) (Nat.le_refl _) _⟩
      · exact World.cell?_setCell_other (h:=show (⟨w.heap.size,0,none⟩:Addr)≠⟨w.heap.size+1,0,none⟩ by simp) ..
      · rw [HS.out]
        refine (World.cell?_setCell_same' _ _ _ (by rw [hc];rfl)).trans (congrArg (fun z=>some (Value.int .u64 z)) (y0n acc p))
      · rw [World.frozen?_setCell];exact hf
    case done=>
      rintro D ys W hD rfl ⟨⟨hc,_⟩,hB⟩ hK;rw [HX.out] at hc
      gi_wp2
      refine ⟨by simp,.inl ⟨_,_,rfl,run_takeDeferred hK,?_⟩⟩;refine ⟨.tuple #[.int .u64 (x:Int),.bool true],?_,rfl,hB.trans (belowK_b (w:=w) (Nat.le_refl _) W D _ _ (by simp at hD;omega) hK rfl rfl)⟩;simp [results,Tryz.results249,go_sem]
    case stop=>
      rintro D c pre W _ _ h _;exact h.elim
end Go.Proofs.YtjgghimjnbjlbaaGreatDoor
