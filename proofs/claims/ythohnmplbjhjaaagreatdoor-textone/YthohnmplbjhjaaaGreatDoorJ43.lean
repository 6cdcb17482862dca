/-
  Put together: TzNum, TzNames, TzSums, TzCon.
-/
import Derived.Test.YthohnmplbjhjaaaGreatDoorJ42
import Derived.Test.YthohnmplbjhjaaaGreatDoorJ39
import Derived.Laws.BytesArg
namespace Go.Proofs.YthohnmplbjhjaaaGreatDoor
open Go Go.RowKit Go.Shelf Go.Lib
attribute [local go_sem] Oper.semAt_some
structure WrM (w0:World) (B P:Nat) (m:Md.Mo) (vv vc vg:Value) (L:List (List UInt8)) (far:Int) (w:World):Prop where
 wr:∃ lv,WrAt B P vv vc m.has vg L far lv w
 mo:MoAt w0 m vv vc vg
 lo:w0.heap.size<=B
 on:Ofw (fun k=>B<=k) w0 w
def WrMO (w0:World) (B P:Nat) (m:Md.Mo) (vv vc vg:Value) (L:List (List UInt8)) (far:Int) (w:World) (e:Ending) (w':World):Prop:=
 e=.returned (.tuple #[])/\WrM w0 B P m vv vc vg L far w'/\Wk B w w'
theorem WrM.keep {w0:World} {B P:Nat} {m:Md.Mo} {vv vc vg:Value} {L:List (List UInt8)} {far:Int} {w w':World} (h:WrM w0 B P m vv vc vg L far w) (hb:Below w.heap.size w w'):WrM w0 B P m vv vc vg L far w':=by
 obtain ⟨lv,hw⟩:=h.wr
 exact ⟨⟨lv,hw.keep hb⟩,h.mo,h.lo,h.on.trans (Ofw.of_below hb)⟩
theorem WrM.at {w0:World} {B P:Nat} {m:Md.Mo} {vv vc vg:Value} {L:List (List UInt8)} {far:Int} {w:World} (h:WrM w0 B P m vv vc vg L far w):Below w0.heap.size w0 w:=h.on.below (fun _ hk=>Nat.le_trans h.lo hk) (Nat.le_refl _)
theorem zN {w0:World} {B P:Nat} {m:Md.Mo} {vv vc vg:Value} {L:List (List UInt8)} {far:Int} {w:World} (h:WrM w0 B P m vv vc vg L far w) (hL:L.length<=1000000) (x:List UInt8):Calls Tryz.prog 37 #[.pointer (some ⟨P,0,none⟩),.string (yc x)] w (WrMO w0 B P m vv vc vg (L++[x]) far w):=by
 obtain ⟨lv,hw⟩:=h.wr
 exact (y6m hw hL (by have:=hw.lt;have:=hw.low;omega) x).mono fun e w' ⟨h1,h2,h3⟩=>⟨h1,⟨h2,h.mo,h.lo,h.on.trans h3.ofw⟩,h3⟩
theorem un67:Tryz.prog.underlying 67=some (.slice 5):=by kernel_rfl
theorem y6n:Tryz.prog.underlying 5=some (.int .u8):=by kernel_rfl
theorem y6o:Tryz.prog.underlying 9=some .string:=by kernel_rfl
theorem y0j (d:Nat) (hd:d<10) (x:Int) (hx:x=48+(d:Int)) (u:UInt8) (hu:u=UInt8.ofNat (48+d)) (wr:World):(convert 67 9 (.slice (some ⟨wr.heap.size,0,none⟩) 1 1)).run Tryz.prog (wr.alloc (.cells #[.int .u8 x] 5))=.ok (.string ⟨#[u]⟩) (wr.alloc (.cells #[.int .u8 x] 5)):=by
 have h:=run_convert_bytes_arg (P:=Tryz.prog) (wr.alloc (.cells #[.int .u8 x] 5)) 67 5 un67 y6n wr.heap.size 0 1 1 [x] rfl (fun i hi=>by
  have hn:(wr.alloc (.cells #[.int .u8 x] 5)).heap[wr.heap.size]?=some (.cells #[.int .u8 x] 5):=heap_alloc_new wr _
  match i,hi with
  | 0,_=>show World.cell? _ ⟨wr.heap.size,0,none⟩=_;unfold World.cell?;rw [hn];rfl) 9 y6o
 subst hu
 rw [h]
 have e1:x.toNat=48+d:=by omega
 have e:strOfNums [x]=⟨#[UInt8.ofNat (48+d)]⟩:=by simp [strOfNums,e1]
 rw [e]
theorem y0k (q:Nat):decDigits q=(if q / 10=0 then [] else decDigits (q / 10))++[UInt8.ofNat (48+q % 10)]:=by
 by_cases h:q<10
 ·rw [decDigits_one h,if_pos (by omega),show q % 10=q by omega]
  rfl
 ·rw [if_neg (by omega),Xy h]
theorem Z4 (c:UInt8) (s:ByteArray):(⟨#[c]⟩:ByteArray)++s≠⟨#[]⟩:=fun e=>by
 have:=congrArg (fun z:ByteArray=>z.data.toList.length) e
 simp at this
theorem XE {s:ByteArray} (h:s.toList.isEmpty=true):s=⟨#[]⟩:=by
 rw [ByteArray.toList_eq] at h
 obtain ⟨⟨l⟩⟩:=s
 cases l with
 | nil=>rfl
 | cons a b=>simp at h
def em (v:Value):Nat:=match v with
 | .string s=>if s.size=0 then 1 else 0
 | _=>0
theorem ZM (c:UInt8) (s:ByteArray):em (.string ((⟨#[c]⟩:ByteArray)++s))=0:=by
 have h0:((⟨#[c]⟩:ByteArray)++s).size≠0:=fun e=>Z4 c s (ByteArray.ext (Array.eq_empty_of_size_eq_zero e))
 show (if ((⟨#[c]⟩:ByteArray)++s).size=0 then 1 else 0)=0
 rw [if_neg h0]
theorem y0l (s:ByteArray):s.data.toList.length=s.size:=by simp
set_option maxRecDepth 100000 in
set_option maxHeartbeats 4000000 in
theorem xG {w0:World} {B P:Nat} {m:Md.Mo} {vv vc vg:Value} {L:List (List UInt8)} {far:Int} {w:World} (h:WrM w0 B P m vv vc vg L far w) (hL:L.length<=1000000) (n:Int) (hn:-1000000000<=n/\n<=1000000000):Calls Tryz.prog 38 #[.pointer (some ⟨P,0,none⟩),.int .i64 n] w (WrMO w0 B P m vv vc vg (L++[itoa n]) far w):=by
 have HM:Hid (WrM w0 B P m vv vc vg L far w):=h
 have HLl:Hid (L.length<=1000000):=hL
 by_cases h0:n<0
 ·obtain ⟨u,hu⟩:∃ u:Nat,-n=(u:Int):=⟨n.natAbs,by omega⟩
  have hw:wrap64 (-n)=(u:Int):=by rw [hu];unfold wrap64;omega
  have HN:Hid (u<=1000000000):=by show _<=_;omega
  have HIt:Hid (itoa n=[45]++decDigits u):=by
   show _=_
   have e:n=-(u:Int):=by omega
   rw [e,Lib.itoa_neg u (by omega)]
   rfl
  clear h hL hu hn
  go_enter Tryz.func38,Tryz.ntmps38
  go_wp2_with fail
  go_loopw [1,4] (fun qv sv wr=>∃ (q:Nat) (s:ByteArray),qv=.int .i64 (q:Int)/\sv=.string s/\q<=1000000000/\s.size<=20/\Hid ((s=⟨#[]⟩/\q=u)∨(s≠⟨#[]⟩/\decDigits u=(if q=0 then [] else decDigits q)++s.data.toList))/\Hid (Below w.heap.size w wr)) (fun qv sv _=>2 * (RowKit.intOf qv).toNat+em sv)
  case atStart=>exact ⟨u,⟨#[]⟩,by first | rfl | rw [hw],rfl,HN.out,by decide,.inl ⟨rfl,rfl⟩,Below.refl _ _⟩
  case round=>
   obtain ⟨q,s,rfl,rfl,hq,hs,hD,hB⟩:=hrel
   have HLn:Hid ((decDigits u).length<=20):=by
    show _<=_
    rw [Lib.decDigits_length]
    exact Lib.nDigits_le20 u (by have:=HN.out;omega)
   have hc:=y0j (q % 10) (by omega) (48+(q:Int) % 10) (by omega) _ rfl wr
   obtain ⟨c,hcu⟩:∃ c,UInt8.ofNat (48+q % 10)=c:=⟨_,rfl⟩
   rw [hcu] at hc
   have HStep:Hid (decDigits q=(if q / 10=0 then [] else decDigits (q / 10))++[c]):=by rw [<-hcu];exact y0k q
   have HB1:Hid (Below w.heap.size w (wr.alloc (.cells #[.int .u8 (48+(q:Int) % 10)] 5))):=hB.out.alloc hB.out.size _
   clear hcu
   by_cases hse:s=⟨#[]⟩
   ·have hE:s.toList.isEmpty=true:=by rw [hse,ByteArray.toList_eq];rfl
    have HNx:Hid (decDigits u=(if q / 10=0 then [] else decDigits (q / 10))++((⟨#[c]⟩:ByteArray)++s).data.toList/\((⟨#[c]⟩:ByteArray)++s).size<=20):=by
     rcases hD.out with h | h
     ·have h1:decDigits u=(if q / 10=0 then [] else decDigits (q / 10))++((⟨#[c]⟩:ByteArray)++s).data.toList:=by
       rw [<-h.2,HStep.out,hse]
       rfl
      exact ⟨h1,by rw [hse];show (1:Nat)<=20;decide⟩
     ·exact absurd hse h.1
    have HMs:Hid (s=⟨#[]⟩):=hse
    have hz:¬ 9223372036854775807<1+s.size:=by omega
    clear hD HStep hse
    go_wp2_with fail
    go_roundw
    case rel=>exact ⟨q / 10,(⟨#[c]⟩:ByteArray)++s,by go_num,by rfl,by omega,HNx.out.2,.inr ⟨Z4 c s,HNx.out.1⟩,HB1⟩
    case measure=>
     have e1:=ZM c s
     have e2:em (.string s)=1:=by rw [HMs.out];rfl
     simp only [RowKit.intOf]
     rw [e1,e2]
     omega
   ·have hE:s.toList.isEmpty=false:=by
     cases hh:s.toList.isEmpty
     ·rfl
     ·exact absurd (XE hh) hse
    have hD2:decDigits u=(if q=0 then [] else decDigits q)++s.data.toList:=by
     rcases hD.out with h | h
     ·exact absurd h.1 hse
     ·exact h.2
    by_cases hq0:0<q
    ·have hq0I:(0:Int)<(q:Int):=by omega
     have HNx:Hid (decDigits u=(if q / 10=0 then [] else decDigits (q / 10))++((⟨#[c]⟩:ByteArray)++s).data.toList/\((⟨#[c]⟩:ByteArray)++s).size<=20):=by
      have h1:decDigits u=(if q / 10=0 then [] else decDigits (q / 10))++((⟨#[c]⟩:ByteArray)++s).data.toList:=by
       rw [hD2,if_neg (by omega),HStep.out]
       simp
      refine ⟨h1,?_⟩
      have h2:=HLn.out
      rw [h1,List.length_append,y0l] at h2
      omega
     have HMs:Hid (s≠⟨#[]⟩):=hse
     have hz:¬ 9223372036854775807<1+s.size:=by omega
     clear hD HStep hse hD2
     go_wp2_with fail
     go_roundw
     case rel=>exact ⟨q / 10,(⟨#[c]⟩:ByteArray)++s,by go_num,by rfl,by omega,HNx.out.2,.inr ⟨Z4 c s,HNx.out.1⟩,HB1⟩
     case measure=>
      have e1:=ZM c s
      simp only [RowKit.intOf]
      rw [e1]
      omega
    ·have hq0I:¬ (0:Int)<(q:Int):=by omega
     have HS:Hid (s=yc (decDigits u)):=by
      show _=_
      rw [hD2,if_pos (by omega)]
      exact (Ya s).symm
     clear hD HStep hse hD2 hc HB1
     have HF:Hid ((⟨#[45]⟩:ByteArray)++s=yc (itoa n)):=by
      show _=_
      rw [HS.out,HIt.out]
      exact XD _ _
     have HC:Hid (Calls Tryz.prog 37 #[.pointer (some ⟨P,0,none⟩),.string ((⟨#[45]⟩:ByteArray)++s)] wr (WrMO w0 B P m vv vc vg (L++[itoa n]) far wr)):=by
      rw [HF.out]
      exact zN (HM.out.keep hB.out) HLl.out _
     have hz:¬ 9223372036854775807<1+s.size:=by omega
     clear HF HS
     go_wp2_with (go_at_call 37;refine cZ HC.out ?_;intro e w2 h2;(have H2:Hid (WrMO w0 B P m vv vc vg (L++[itoa n]) far wr e w2):=h2);obtain ⟨rfl,_⟩:=h2)
     go_end0
     exact ⟨rfl,H2.out.2.1,(Wk.of_below hB.out).trans H2.out.2.2⟩
 ·obtain ⟨u,rfl⟩:∃ u:Nat,n=(u:Int):=⟨n.toNat,by omega⟩
  have HN:Hid (u<=1000000000):=by show _<=_;omega
  have HIt:Hid (itoa (u:Int)=[]++decDigits u):=Lib.itoa_nonneg u
  clear h hL hn
  go_enter Tryz.func38,Tryz.ntmps38
  go_wp2_with fail
  go_loopw [1,4] (fun qv sv wr=>∃ (q:Nat) (s:ByteArray),qv=.int .i64 (q:Int)/\sv=.string s/\q<=1000000000/\s.size<=20/\Hid ((s=⟨#[]⟩/\q=u)∨(s≠⟨#[]⟩/\decDigits u=(if q=0 then [] else decDigits q)++s.data.toList))/\Hid (Below w.heap.size w wr)) (fun qv sv _=>2 * (RowKit.intOf qv).toNat+em sv)
  case atStart=>exact ⟨u,⟨#[]⟩,by first | rfl | rw [hw],rfl,HN.out,by decide,.inl ⟨rfl,rfl⟩,Below.refl _ _⟩
  case round=>
   obtain ⟨q,s,rfl,rfl,hq,hs,hD,hB⟩:=hrel
   have HLn:Hid ((decDigits u).length<=20):=by
    show _<=_
    rw [Lib.decDigits_length]
    exact Lib.nDigits_le20 u (by have:=HN.out;omega)
   have hc:=y0j (q % 10) (by omega) (48+(q:Int) % 10) (by omega) _ rfl wr
   obtain ⟨c,hcu⟩:∃ c,UInt8.ofNat (48+q % 10)=c:=⟨_,rfl⟩
   rw [hcu] at hc
   have HStep:Hid (decDigits q=(if q / 10=0 then [] else decDigits (q / 10))++[c]):=by rw [<-hcu];exact y0k q
   have HB1:Hid (Below w.heap.size w (wr.alloc (.cells #[.int .u8 (48+(q:Int) % 10)] 5))):=hB.out.alloc hB.out.size _
   clear hcu
   by_cases hse:s=⟨#[]⟩
   ·have hE:s.toList.isEmpty=true:=by rw [hse,ByteArray.toList_eq];rfl
    have HNx:Hid (decDigits u=(if q / 10=0 then [] else decDigits (q / 10))++((⟨#[c]⟩:ByteArray)++s).data.toList/\((⟨#[c]⟩:ByteArray)++s).size<=20):=by
     rcases hD.out with h | h
     ·have h1:decDigits u=(if q / 10=0 then [] else decDigits (q / 10))++((⟨#[c]⟩:ByteArray)++s).data.toList:=by
       rw [<-h.2,HStep.out,hse]
       rfl
      exact ⟨h1,by rw [hse];show (1:Nat)<=20;decide⟩
     ·exact absurd hse h.1
    have HMs:Hid (s=⟨#[]⟩):=hse
    have hz:¬ 9223372036854775807<1+s.size:=by omega
    clear hD HStep hse
    go_wp2_with fail
    go_roundw
    case rel=>exact ⟨q / 10,(⟨#[c]⟩:ByteArray)++s,by go_num,by rfl,by omega,HNx.out.2,.inr ⟨Z4 c s,HNx.out.1⟩,HB1⟩
    case measure=>
     have e1:=ZM c s
     have e2:em (.string s)=1:=by rw [HMs.out];rfl
     simp only [RowKit.intOf]
     rw [e1,e2]
     omega
   ·have hE:s.toList.isEmpty=false:=by
     cases hh:s.toList.isEmpty
     ·rfl
     ·exact absurd (XE hh) hse
    have hD2:decDigits u=(if q=0 then [] else decDigits q)++s.data.toList:=by
     rcases hD.out with h | h
     ·exact absurd h.1 hse
     ·exact h.2
    by_cases hq0:0<q
    ·have hq0I:(0:Int)<(q:Int):=by omega
     have HNx:Hid (decDigits u=(if q / 10=0 then [] else decDigits (q / 10))++((⟨#[c]⟩:ByteArray)++s).data.toList/\((⟨#[c]⟩:ByteArray)++s).size<=20):=by
      have h1:decDigits u=(if q / 10=0 then [] else decDigits (q / 10))++((⟨#[c]⟩:ByteArray)++s).data.toList:=by
       rw [hD2,if_neg (by omega),HStep.out]
       simp
      refine ⟨h1,?_⟩
      have h2:=HLn.out
      rw [h1,List.length_append,y0l] at h2
      omega
     have HMs:Hid (s≠⟨#[]⟩):=hse
     have hz:¬ 9223372036854775807<1+s.size:=by omega
     clear hD HStep hse hD2
     go_wp2_with fail
     go_roundw
     case rel=>exact ⟨q / 10,(⟨#[c]⟩:ByteArray)++s,by go_num,by rfl,by omega,HNx.out.2,.inr ⟨Z4 c s,HNx.out.1⟩,HB1⟩
     case measure=>
      have e1:=ZM c s
      simp only [RowKit.intOf]
      rw [e1]
      omega
    ·have hq0I:¬ (0:Int)<(q:Int):=by omega
     have HS:Hid (s=yc (decDigits u)):=by
      show _=_
      rw [hD2,if_pos (by omega)]
      exact (Ya s).symm
     clear hD HStep hse hD2 hc HB1
     have HF:Hid ((⟨#[]⟩:ByteArray)++s=yc (itoa (u:Int))):=by
      show _=_
      rw [HS.out,HIt.out]
      exact XD _ _
     have HC:Hid (Calls Tryz.prog 37 #[.pointer (some ⟨P,0,none⟩),.string ((⟨#[]⟩:ByteArray)++s)] wr (WrMO w0 B P m vv vc vg (L++[itoa (u:Int)]) far wr)):=by
      rw [HF.out]
      exact zN (HM.out.keep hB.out) HLl.out _
     have hz:¬ 9223372036854775807<0+s.size:=by omega
     clear HF HS
     go_wp2_with (go_at_call 37;refine cZ HC.out ?_;intro e w2 h2;(have H2:Hid (WrMO w0 B P m vv vc vg (L++[itoa (u:Int)]) far wr e w2):=h2);obtain ⟨rfl,_⟩:=h2)
     go_end0
     exact ⟨rfl,H2.out.2.1,(Wk.of_below hB.out).trans H2.out.2.2⟩
end Go.Proofs.YthohnmplbjhjaaaGreatDoor

namespace Go.Proofs.YthohnmplbjhjaaaGreatDoor
open Go Go.RowKit Go.Shelf Go.Lib
attribute [local go_sem] Oper.semAt_some
theorem y6l {w:World} {vv:Value} {V:List Md.Vr} (h:VarsAt w vv V) {i:Nat} (hi:i<V.length):∃ b off cp,vv=.slice (some ⟨b,off,none⟩) V.length cp/\w.cell? ⟨b,off+i * 3,none⟩=some (.string (yc V[i].name.data.toList))/\V.length<=maxLen:=by
 obtain ⟨a,cp,hv,hl,_,hc⟩:=h
 obtain ⟨b,off,rfl,_,hc⟩:=hc (by omega)
 exact ⟨b,off,cp,hv,by rw [Ya];exact (hc i hi).1,hl⟩
theorem WrM.vars {w0:World} {B P:Nat} {m:Md.Mo} {vv vc vg:Value} {L:List (List UInt8)} {far:Int} {w:World} (h:WrM w0 B P m vv vc vg L far w):VarsAt w vv m.vars:=h.mo.v.below h.at
theorem WrM.far {w0:World} {B P:Nat} {m:Md.Mo} {vv vc vg:Value} {L:List (List UInt8)} {far:Int} {w:World} (h:WrM w0 B P m vv vc vg L far w) (x:Int):WrM w0 B P m vv vc vg L x (w.setCell ⟨P,5,none⟩ (.int .i64 x))/\Wk B w (w.setCell ⟨P,5,none⟩ (.int .i64 x)):=by
 obtain ⟨lv,hw⟩:=h.wr
 have ho:Wk B w (w.setCell ⟨P,5,none⟩ (.int .i64 x)):=Ofw.set _ ⟨hw.low,_,97,hw.box,.inl rfl⟩
 exact ⟨⟨⟨lv,yD hw.box 5 _,yC (S:=fun k=>k=P) hw.row (fun g hg e=>hw.not hg e) (Ofw.set _ rfl),hw.low⟩,h.mo,h.lo,h.on.trans ho.ofw⟩,ho⟩
set_option maxRecDepth 10000 in
set_option maxHeartbeats 1000000 in
theorem xQ {w0:World} {B P:Nat} {m:Md.Mo} {vv vc vg:Value} {L:List (List UInt8)} {far:Int} {w:World} (h:WrM w0 B P m vv vc vg L far w) (hL:L.length<=1000000) (x:Int) (hx:inV m.vars x):Calls Tryz.prog 67 #[.pointer (some ⟨P,0,none⟩),.int .i64 x] w (WrMO w0 B P m vv vc vg (L++[Md.nm m.vars x]) (max far x) w):=by
 obtain ⟨i,hi,rfl,hnm⟩:=ZC hx
 rw [hnm]
 obtain ⟨y,hy⟩:∃ y,max far (i:Int)=y:=⟨_,rfl⟩
 rw [hy]
 obtain ⟨lv,hwr⟩:=h.wr
 have c5:=yd hwr.box 5
 have f5:=yu hwr.box 5
 have hP:=hwr.lt
 obtain ⟨hf1,hf2⟩:=h.far y
 obtain ⟨b,off,cp,hvv,hcell,hml⟩:=y6l hf1.vars hi
 have c0:(w.setCell ⟨P,5,none⟩ (.int .i64 y)).cell? ⟨P,0,none⟩=some vv:=by obtain ⟨lv',hw'⟩:=hf1.wr;exact yd hw'.box 0
 have HC:Hid (Calls Tryz.prog 37 #[.pointer (some ⟨P,0,none⟩),.string (yc m.vars[i].name.data.toList)] (w.setCell ⟨P,5,none⟩ (.int .i64 y)) (WrMO w0 B P m vv vc vg (L++[m.vars[i].name.data.toList]) y (w.setCell ⟨P,5,none⟩ (.int .i64 y)))):=zN hf1 hL _
 have HF:Hid (Wk B w (w.setCell ⟨P,5,none⟩ (.int .i64 y))):=hf2
 have hiI:(i:Int)<(m.vars.length:Int):=by omega
 obtain ⟨X,hX⟩:∃ X,yc m.vars[i].name.data.toList=X:=⟨_,rfl⟩
 rw [hX] at HC hcell
 obtain ⟨Z,hZ⟩:∃ Z,m.vars[i].name.data.toList=Z:=⟨_,rfl⟩
 rw [hZ] at HC
 rw [hZ]
 obtain ⟨W2,hW2⟩:∃ W2,w.setCell ⟨P,5,none⟩ (.int .i64 y)=W2:=⟨_,rfl⟩
 rw [hW2] at HC HF hcell c0
 unfold maxLen at hml
 rw [hvv] at c0
 clear h hf1 hf2 hwr hnm hx hX hZ
 go_enter Tryz.func67,Tryz.ntmps67
 go_wp2_with (go_at_call 37;refine cZ HC.out ?_;intro e w2 h2;(have H2:Hid (WrMO w0 B P m vv vc vg (L++[Z]) y W2 e w2):=h2);obtain ⟨rfl,_⟩:=h2)
 go_end0
 exact ⟨rfl,H2.out.2.1,HF.out.trans H2.out.2.2⟩
end Go.Proofs.YthohnmplbjhjaaaGreatDoor

namespace Go.Proofs.YthohnmplbjhjaaaGreatDoor
open Go Go.RowKit Go.Shelf Go.Lib
set_option maxRecDepth 10000
set_option maxHeartbeats 1000000
attribute [local go_sem] Oper.semAt_some
theorem y0f (V:List Md.Vr) (l:List Int):(nmsW V l).length=l.length:=by
 induction l with
 | nil=>rfl
 | cons a l ih=>unfold nmsW at *;rw [List.flatMap_cons,List.length_append,ih];simp;omega
theorem y0m (V:List Md.Vr) (t:List (Int × Int)):(sumW V t).length=2 * t.length:=by
 induction t with
 | nil=>rfl
 | cons a l ih=>unfold sumW at *;rw [List.flatMap_cons,List.length_append,ih];simp;omega
theorem y6q {V:List Md.Vr} {l:List Int} {k:Nat} (hk:k<l.length):nmsW V (l.take (k+1))=nmsW V (l.take k)++[Md.nm V l[k]]:=by
 unfold nmsW
 rw [List.take_succ_eq_append_getElem hk,List.flatMap_append]
 rfl
theorem y6r {V:List Md.Vr} {l:List (Int × Int)} {k:Nat} (hk:k<l.length):sumW V (l.take (k+1))=sumW V (l.take k)++[itoa l[k].1]++[Md.nm V l[k].2]:=by
 unfold sumW
 rw [List.take_succ_eq_append_getElem hk,List.flatMap_append,List.append_assoc]
 rfl
theorem y6s {l:List Int} {k:Nat} (hk:k<l.length) (far:Int):(l.take (k+1)).foldl max far=max ((l.take k).foldl max far) l[k]:=by
 rw [List.take_succ_eq_append_getElem hk,List.foldl_append]
 rfl
theorem y6t {l:List (Int × Int)} {k:Nat} (hk:k<l.length) (far:Int):((l.take (k+1)).map (·.2)).foldl max far=max (((l.take k).map (·.2)).foldl max far) l[k].2:=by
 rw [List.take_succ_eq_append_getElem hk,List.map_append,List.foldl_append]
 rfl
theorem Z3 {w0:World} {B P:Nat} {m:Md.Mo} {vv vc vg:Value} {L:List (List UInt8)} {far:Int} {w:World} (h:WrM w0 B P m vv vc vg L far w) (l:List Int) (v:Value) (hv:IntsAt w0 v l) (hx:∀ x∈l,inV m.vars x) (hL:L.length+1 * l.length<=1000000):Calls Tryz.prog 69 #[.pointer (some ⟨P,0,none⟩),v] w (WrMO w0 B P m vv vc vg (L++nmsW m.vars l) (l.foldl max far) w):=by
 have HM:Hid (WrM w0 B P m vv vc vg L far w):=h
 have HX:Hid (∀ x∈l,inV m.vars x):=hx
 have HL:Hid (L.length+1 * l.length<=1000000):=hL
 obtain ⟨a,cp,rfl,hm,hc⟩:=hv
 have HC:Hid (0<l.length->∃ b off,a=some ⟨b,off,none⟩/\b<w0.heap.size/\∀ j (h:j<l.length),w0.cell? ⟨b,off+j,none⟩=some (.int .i64 l[j])):=hc
 unfold maxLen at hm
 clear h hx hL hc
 go_enter Tryz.func69,Tryz.ntmps69
 go_wp2_with fail
 go_loopw [4] (fun v4 wr=>∃ k:Nat,v4=.int .i64 (k:Int)/\k<=l.length/\Hid (WrM w0 B P m vv vc vg (L++nmsW m.vars (l.take k)) ((l.take k).foldl max far) wr/\Wk B w wr)) (fun v4 _=>(l.length-RowKit.intOf v4).toNat)
 case atStart=>exact ⟨0,rfl,Nat.zero_le _,by simpa [nmsW,sumW] using HM.out,Wk.refl _ _⟩
 case round=>
  obtain ⟨k,rfl,hk,HR⟩:=hrel
  by_cases hkl:k<l.length
  ·have hkI:(k:Int)<(l.length:Int):=by omega
   obtain ⟨b,off,rfl,hb,hcell⟩:=HC.out (by omega)
   have hcl:wr.cell? ⟨b,off+k,none⟩=some (.int .i64 l[k]):=(HR.out.1.at.cell (p:=⟨b,off+k,none⟩) hb).trans (hcell k hkl)
   have HN0:Hid (Calls Tryz.prog 67 #[.pointer (some ⟨P,0,none⟩),.int .i64 l[k]] wr (WrMO w0 B P m vv vc vg (L++nmsW m.vars (l.take (k+1))) ((l.take (k+1)).foldl max far) wr)):=by
    have:=xQ HR.out.1 (by rw [List.length_append,y0f,List.length_take];have:=HL.out;omega) l[k] (HX.out _ (List.getElem_mem hkl))
    rw [List.append_assoc,<-y6q hkl,<-y6s hkl] at this
    exact this
   obtain ⟨x,hx⟩:∃ x,l[k]=x:=⟨_,rfl⟩
   rw [hx] at hcl HN0
   clear hx hcell
   go_wp2_with (first
    | (go_at_call 67;refine cZ HN0.out ?_;rintro e w2 ⟨rfl,h2⟩;(have HN:Hid (WrM w0 B P m vv vc vg (L++nmsW m.vars (l.take (k+1))) ((l.take (k+1)).foldl max far) w2/\Wk B wr w2):=h2);clear h2))
   go_roundw
   case measure=>simp only [RowKit.intOf];omega
   case rel=>exact ⟨k+1,by go_num,by omega,HN.out.1,HR.out.2.trans HN.out.2⟩
  ·have hkI:¬ (k:Int)<(l.length:Int):=by omega
   have HE:Hid (WrM w0 B P m vv vc vg (L++nmsW m.vars l) (l.foldl max far) wr/\Wk B w wr):=by
    have:=HR.out
    rw [List.take_of_length_le (by omega)] at this
    exact this
   clear HR
   go_wp2_with fail
   go_end0
   exact ⟨rfl,HE.out.1,HE.out.2⟩
theorem XB {w0:World} {B P:Nat} {m:Md.Mo} {vv vc vg:Value} {L:List (List UInt8)} {far:Int} {w:World} (h:WrM w0 B P m vv vc vg L far w) (l:List (Int × Int)) (v:Value) (hv:TermsAt w0 v l) (hx:∀ x∈l,Md.cfB x.1=true/\inV m.vars x.2) (hL:L.length+2 * l.length<=1000000):Calls Tryz.prog 39 #[.pointer (some ⟨P,0,none⟩),v] w (WrMO w0 B P m vv vc vg (L++sumW m.vars l) ((l.map (·.2)).foldl max far) w):=by
 have HM:Hid (WrM w0 B P m vv vc vg L far w):=h
 have HX:Hid (∀ x∈l,Md.cfB x.1=true/\inV m.vars x.2):=hx
 have HL:Hid (L.length+2 * l.length<=1000000):=hL
 obtain ⟨a,cp,rfl,hm,hc⟩:=hv
 have HC:Hid (0<l.length->∃ b off,a=some ⟨b,off,none⟩/\b<w0.heap.size/\∀ j (h:j<l.length),w0.cell? ⟨b,off+j * 2,none⟩=some (.int .i64 l[j].1)/\w0.cell? ⟨b,off+j * 2+1,none⟩=some (.int .i64 l[j].2)):=hc
 unfold maxLen at hm
 clear h hx hL hc
 go_enter Tryz.func39,Tryz.ntmps39
 go_wp2_with fail
 go_loopw [4] (fun v4 wr=>∃ k:Nat,v4=.int .i64 (k:Int)/\k<=l.length/\Hid (WrM w0 B P m vv vc vg (L++sumW m.vars (l.take k)) (((l.take k).map (·.2)).foldl max far) wr/\Wk B w wr)) (fun v4 _=>(l.length-RowKit.intOf v4).toNat)
 case atStart=>exact ⟨0,rfl,Nat.zero_le _,by simpa [nmsW,sumW] using HM.out,Wk.refl _ _⟩
 case round=>
  obtain ⟨k,rfl,hk,HR⟩:=hrel
  by_cases hkl:k<l.length
  ·have hkI:(k:Int)<(l.length:Int):=by omega
   obtain ⟨b,off,rfl,hb,hcell⟩:=HC.out (by omega)
   have hcl1:wr.cell? ⟨b,off+k * 2,none⟩=some (.int .i64 l[k].1):=(HR.out.1.at.cell (p:=⟨b,off+k * 2,none⟩) hb).trans (hcell k hkl).1
   have HN1:Hid (Calls Tryz.prog 38 #[.pointer (some ⟨P,0,none⟩),.int .i64 l[k].1] wr (WrMO w0 B P m vv vc vg (L++sumW m.vars (l.take k)++[itoa l[k].1]) (((l.take k).map (·.2)).foldl max far) wr)):=
    xG HR.out.1 (by rw [List.length_append,y0m,List.length_take];have:=HL.out;omega) l[k].1 (by have:=cf_in.1 (HX.out _ (List.getElem_mem hkl)).1;omega)
   have HN2:Hid (∀ w',WrM w0 B P m vv vc vg (L++sumW m.vars (l.take k)++[itoa l[k].1]) (((l.take k).map (·.2)).foldl max far) w'->w'.cell? ⟨b,off+k * 2+1,none⟩=some (.int .i64 l[k].2)/\Calls Tryz.prog 67 #[.pointer (some ⟨P,0,none⟩),.int .i64 l[k].2] w' (WrMO w0 B P m vv vc vg (L++sumW m.vars (l.take (k+1))) (((l.take (k+1)).map (·.2)).foldl max far) w')):=fun w' h'=>by
    refine ⟨(h'.at.cell (p:=⟨b,off+k * 2+1,none⟩) hb).trans (hcell k hkl).2,?_⟩
    have:=xQ h' (by rw [List.length_append,List.length_append,y0m,List.length_take];have:=HL.out;simp;omega) l[k].2 (HX.out _ (List.getElem_mem hkl)).2
    rw [y6r hkl,y6t hkl,<-List.append_assoc,<-List.append_assoc]
    exact this
   obtain ⟨x,hx⟩:∃ x,l[k].1=x:=⟨_,rfl⟩
   obtain ⟨y,hy⟩:∃ y,l[k].2=y:=⟨_,rfl⟩
   rw [hx] at hcl1 HN1 HN2
   rw [hy] at HN2
   clear hx hy hcell
   go_wp2_with (first
    | (go_at_call 38;refine cZ HN1.out ?_;rintro e w2 ⟨rfl,h2⟩;(have H2:Hid (WrM w0 B P m vv vc vg (L++sumW m.vars (l.take k)++[itoa x]) (((l.take k).map (·.2)).foldl max far) w2/\Wk B wr w2):=h2);have hcl2:=(HN2.out w2 h2.1).1;clear h2 hcl1)
    | (go_at_call 67;refine cZ (HN2.out w2 H2.out.1).2 ?_;rintro e w3 ⟨rfl,h3⟩;(have HN:Hid (WrM w0 B P m vv vc vg (L++sumW m.vars (l.take (k+1))) (((l.take (k+1)).map (·.2)).foldl max far) w3/\Wk B wr w3):=⟨h3.1,H2.out.2.trans h3.2⟩);clear h3 hcl2))
   go_roundw
   case measure=>simp only [RowKit.intOf];omega
   case rel=>exact ⟨k+1,by go_num,by omega,HN.out.1,HR.out.2.trans HN.out.2⟩
  ·have hkI:¬ (k:Int)<(l.length:Int):=by omega
   have HE:Hid (WrM w0 B P m vv vc vg (L++sumW m.vars l) ((l.map (·.2)).foldl max far) wr/\Wk B w wr):=by
    have:=HR.out
    rw [List.take_of_length_le (by omega)] at this
    exact this
   clear HR
   go_wp2_with fail
   go_end0
   exact ⟨rfl,HE.out.1,HE.out.2⟩
theorem y0e {w0:World} {B P:Nat} {m:Md.Mo} {vv vc vg:Value} {L:List (List UInt8)} {far:Int} {w:World} (h:WrM w0 B P m vv vc vg L far w) (hL:L.length<=1000000) (o:Int) (ho:1<=o/\o<=3):Calls Tryz.prog 68 #[.pointer (some ⟨P,0,none⟩),.int .i64 o] w (WrMO w0 B P m vv vc vg (L++[Md.opT o]) far w):=by
 have HC:Hid (Calls Tryz.prog 37 #[.pointer (some ⟨P,0,none⟩),.string (yc (Md.opT o))] w (WrMO w0 B P m vv vc vg (L++[Md.opT o]) far w)):=zN h hL _
 clear h hL
 rcases (by omega:o=1∨o=2∨o=3) with rfl | rfl | rfl
 ·have hw:yc (Md.opT 1)=⟨#[60,61]⟩:=rfl
  rw [hw] at HC
  clear hw ho
  go_enter Tryz.func68,Tryz.ntmps68
  go_wp2_with (go_at_call 37;refine cZ HC.out ?_;intro e w2 h2;(have H2:Hid (WrMO w0 B P m vv vc vg (L++[Md.opT 1]) far w e w2):=h2);obtain ⟨rfl,_⟩:=h2)
  go_end0
  exact H2.out
 ·have hw:yc (Md.opT 2)=⟨#[61]⟩:=rfl
  rw [hw] at HC
  clear hw ho
  go_enter Tryz.func68,Tryz.ntmps68
  go_wp2_with (go_at_call 37;refine cZ HC.out ?_;intro e w2 h2;(have H2:Hid (WrMO w0 B P m vv vc vg (L++[Md.opT 2]) far w e w2):=h2);obtain ⟨rfl,_⟩:=h2)
  go_end0
  exact H2.out
 ·have hw:yc (Md.opT 3)=⟨#[62,61]⟩:=rfl
  rw [hw] at HC
  clear hw ho
  go_enter Tryz.func68,Tryz.ntmps68
  go_wp2_with (go_at_call 37;refine cZ HC.out ?_;intro e w2 h2;(have H2:Hid (WrMO w0 B P m vv vc vg (L++[Md.opT 3]) far w e w2):=h2);obtain ⟨rfl,_⟩:=h2)
  go_end0
  exact H2.out
end Go.Proofs.YthohnmplbjhjaaaGreatDoor

namespace Go.Proofs.YthohnmplbjhjaaaGreatDoor
open Go Go.RowKit Go.Shelf Go.Lib
set_option maxRecDepth 10000
set_option maxHeartbeats 2000000
attribute [local go_sem] Oper.semAt_some
theorem yH {B N:Nat} {w w':World} {a0 a1 a2 a3 a4 a5 a6 a7 a8 a9:Value} (hb:w.heap[N]?=some (.cells #[a0,a1,a2,a3,a4,a5,a6,a7,a8,a9] 61 (0,0))) (h:Wk B w w'):w'.cell? ⟨N,0,none⟩=some a0/\w'.cell? ⟨N,1,none⟩=some a1/\w'.cell? ⟨N,2,none⟩=some a2/\w'.cell? ⟨N,3,none⟩=some a3/\w'.cell? ⟨N,4,none⟩=some a4/\w'.cell? ⟨N,5,none⟩=some a5/\w'.cell? ⟨N,6,none⟩=some a6/\w'.cell? ⟨N,7,none⟩=some a7/\w'.cell? ⟨N,8,none⟩=some a8/\w'.cell? ⟨N,9,none⟩=some a9:=by
 have h':=h.box hb (by decide) (by decide)
 exact ⟨yd h' 0,yd h' 1,yd h' 2,yd h' 3,yd h' 4,yd h' 5,yd h' 6,yd h' 7,yd h' 8,yd h' 9⟩
theorem y5U {w0:World} {B P:Nat} {m:Md.Mo} {vv vc vg:Value} {L:List (List UInt8)} {far:Int} {w:World} (h:WrM w0 B P m vv vc vg L far w) (hL:L.length<=1000) (op k:Int) (t:List (Int × Int)) (ta xa ba ra:Option Addr) (tn tc xn xc bn bc rn rc:Nat) (ho:1<=op/\op<=3) (hk:Md.numB k=true) (hta:TermsAt w0 (.slice ta tn tc) t) (ht:1<=t.length/\t.length<=64/\∀ a∈t,Md.cfB a.1=true/\inV m.vars a.2):Calls Tryz.prog 40 #[.pointer (some ⟨P,0,none⟩),.agg #[.int .i64 1,.int .i64 op,.slice ta tn tc,.int .i64 k,.int .i64 0,.int .i64 0,.int .i64 0,.slice xa xn xc,.slice ba bn bc,.slice ra rn rc]] w (WrMO w0 B P m vv vc vg (L++[[108,105,110]]++[Md.opT op]++[itoa k]++sumW m.vars t) ((t.map (·.2)).foldl max (far)) w):=by
 have HS1:Hid (∀ w',WrM w0 B P m vv vc vg (L) (far) w'->Calls Tryz.prog 37 #[.pointer (some ⟨P,0,none⟩),.string ⟨#[108,105,110]⟩] w' (WrMO w0 B P m vv vc vg (L++[[108,105,110]]) (far) w')):=fun w' h'=>(show _ from zN h' (by first | omega | (simp only [List.length_append,List.length_cons,List.length_nil];omega)) [108,105,110])
 have HS2:Hid (∀ w',WrM w0 B P m vv vc vg (L++[[108,105,110]]) (far) w'->Calls Tryz.prog 68 #[.pointer (some ⟨P,0,none⟩),.int .i64 op] w' (WrMO w0 B P m vv vc vg (L++[[108,105,110]]++[Md.opT op]) (far) w')):=fun w' h'=>y0e h' (by first | omega | (simp only [List.length_append,List.length_cons,List.length_nil];omega)) op ho
 have HS3:Hid (∀ w',WrM w0 B P m vv vc vg (L++[[108,105,110]]++[Md.opT op]) (far) w'->Calls Tryz.prog 38 #[.pointer (some ⟨P,0,none⟩),.int .i64 k] w' (WrMO w0 B P m vv vc vg (L++[[108,105,110]]++[Md.opT op]++[itoa k]) (far) w')):=fun w' h'=>xG h' (by first | omega | (simp only [List.length_append,List.length_cons,List.length_nil];omega)) k (num_in.1 hk)
 have HS4:Hid (∀ w',WrM w0 B P m vv vc vg (L++[[108,105,110]]++[Md.opT op]++[itoa k]) (far) w'->Calls Tryz.prog 39 #[.pointer (some ⟨P,0,none⟩),.slice ta tn tc] w' (WrMO w0 B P m vv vc vg (L++[[108,105,110]]++[Md.opT op]++[itoa k]++sumW m.vars t) ((t.map (·.2)).foldl max (far)) w')):=fun w' h'=>XB h' t (.slice ta tn tc) hta ht.2.2 (by have:=ht.2.1;first | omega | (simp only [List.length_append,List.length_cons,List.length_nil];omega))
 obtain ⟨W1,hW1⟩:∃ W1,w.alloc (.cells #[.int .i64 1,.int .i64 op,.slice ta tn tc,.int .i64 k,.int .i64 0,.int .i64 0,.int .i64 0,.slice xa xn xc,.slice ba bn bc,.slice ra rn rc] 61)=W1:=⟨_,rfl⟩
 obtain ⟨NB,hNB⟩:∃ NB,w.heap.size=NB:=⟨_,rfl⟩
 have hb1:Below w.heap.size w W1:=by rw [<-hW1];exact zk _ _
 have hbx:W1.heap[NB]?=some (.cells #[.int .i64 1,.int .i64 op,.slice ta tn tc,.int .i64 k,.int .i64 0,.int .i64 0,.int .i64 0,.slice xa xn xc,.slice ba bn bc,.slice ra rn rc] 61 (0,0)):=by rw [<-hW1,<-hNB];exact heap_alloc_new w _
 have HBx:Hid (W1.heap[NB]?=some (.cells #[.int .i64 1,.int .i64 op,.slice ta tn tc,.int .i64 k,.int .i64 0,.int .i64 0,.int .i64 0,.slice xa xn xc,.slice ba bn bc,.slice ra rn rc] 61 (0,0))):=hbx
 have H1:Hid (WrM w0 B P m vv vc vg L far W1/\Wk B W1 W1):=⟨h.keep hb1,Wk.refl _ _⟩
 have HW1:Hid (Wk B w W1):=Wk.of_below hb1
 obtain ⟨k0,k1,k2,k3,k4,k5,k6,k7,k8,k9⟩:=yH hbx (Wk.refl B W1)
 clear h hL hb1 hbx ho hk hta ht
 go_enter Tryz.func40,Tryz.ntmps40
 go_wp2_with (first
  | (go_at_call 37;refine cZ (HS1.out W1 H1.out.1) ?_;rintro e w2 ⟨rfl,hj⟩;(have H2:Hid (WrM w0 B P m vv vc vg (L++[[108,105,110]]) (far) w2/\Wk B W1 w2):=⟨hj.1,H1.out.2.trans hj.2⟩);clear hj k0 k1 k2 k3 k4 k5 k6 k7 k8 k9;obtain ⟨k0,k1,k2,k3,k4,k5,k6,k7,k8,k9⟩:=yH HBx.out H2.out.2)
  | (go_at_call 68;refine cZ (HS2.out w2 H2.out.1) ?_;rintro e w3 ⟨rfl,hj⟩;(have H3:Hid (WrM w0 B P m vv vc vg (L++[[108,105,110]]++[Md.opT op]) (far) w3/\Wk B W1 w3):=⟨hj.1,H2.out.2.trans hj.2⟩);clear hj k0 k1 k2 k3 k4 k5 k6 k7 k8 k9;obtain ⟨k0,k1,k2,k3,k4,k5,k6,k7,k8,k9⟩:=yH HBx.out H3.out.2)
  | (go_at_call 38;refine cZ (HS3.out w3 H3.out.1) ?_;rintro e w4 ⟨rfl,hj⟩;(have H4:Hid (WrM w0 B P m vv vc vg (L++[[108,105,110]]++[Md.opT op]++[itoa k]) (far) w4/\Wk B W1 w4):=⟨hj.1,H3.out.2.trans hj.2⟩);clear hj k0 k1 k2 k3 k4 k5 k6 k7 k8 k9;obtain ⟨k0,k1,k2,k3,k4,k5,k6,k7,k8,k9⟩:=yH HBx.out H4.out.2)
  | (go_at_call 39;refine cZ (HS4.out w4 H4.out.1) ?_;rintro e w5 ⟨rfl,hj⟩;(have H5:Hid (WrM w0 B P m vv vc vg (L++[[108,105,110]]++[Md.opT op]++[itoa k]++sumW m.vars t) ((t.map (·.2)).foldl max (far)) w5/\Wk B W1 w5):=⟨hj.1,H4.out.2.trans hj.2⟩);clear hj k0 k1 k2 k3 k4 k5 k6 k7 k8 k9;obtain ⟨k0,k1,k2,k3,k4,k5,k6,k7,k8,k9⟩:=yH HBx.out H5.out.2))
 go_end0
 exact ⟨rfl,H5.out.1,HW1.out.trans H5.out.2⟩
theorem y5V {w0:World} {B P:Nat} {m:Md.Mo} {vv vc vg:Value} {L:List (List UInt8)} {far:Int} {w:World} (h:WrM w0 B P m vv vc vg L far w) (hL:L.length<=1000) (k x y:Int) (ta xa ba ra:Option Addr) (tn tc xn xc bn bc rn rc:Nat) (hx:inV m.vars x) (hy:inV m.vars y) (hk:Md.numB k=true):Calls Tryz.prog 40 #[.pointer (some ⟨P,0,none⟩),.agg #[.int .i64 2,.int .i64 0,.slice ta tn tc,.int .i64 k,.int .i64 0,.int .i64 x,.int .i64 y,.slice xa xn xc,.slice ba bn bc,.slice ra rn rc]] w (WrMO w0 B P m vv vc vg (L++[[110,101]]++[Md.nm m.vars x]++[Md.nm m.vars y]++[itoa k]) (max (max (far) x) y) w):=by
 have HS1:Hid (∀ w',WrM w0 B P m vv vc vg (L) (far) w'->Calls Tryz.prog 37 #[.pointer (some ⟨P,0,none⟩),.string ⟨#[110,101]⟩] w' (WrMO w0 B P m vv vc vg (L++[[110,101]]) (far) w')):=fun w' h'=>(show _ from zN h' (by first | omega | (simp only [List.length_append,List.length_cons,List.length_nil];omega)) [110,101])
 have HS2:Hid (∀ w',WrM w0 B P m vv vc vg (L++[[110,101]]) (far) w'->Calls Tryz.prog 67 #[.pointer (some ⟨P,0,none⟩),.int .i64 x] w' (WrMO w0 B P m vv vc vg (L++[[110,101]]++[Md.nm m.vars x]) (max (far) x) w')):=fun w' h'=>xQ h' (by first | omega | (simp only [List.length_append,List.length_cons,List.length_nil];omega)) x hx
 have HS3:Hid (∀ w',WrM w0 B P m vv vc vg (L++[[110,101]]++[Md.nm m.vars x]) (max (far) x) w'->Calls Tryz.prog 67 #[.pointer (some ⟨P,0,none⟩),.int .i64 y] w' (WrMO w0 B P m vv vc vg (L++[[110,101]]++[Md.nm m.vars x]++[Md.nm m.vars y]) (max (max (far) x) y) w')):=fun w' h'=>xQ h' (by first | omega | (simp only [List.length_append,List.length_cons,List.length_nil];omega)) y hy
 have HS4:Hid (∀ w',WrM w0 B P m vv vc vg (L++[[110,101]]++[Md.nm m.vars x]++[Md.nm m.vars y]) (max (max (far) x) y) w'->Calls Tryz.prog 38 #[.pointer (some ⟨P,0,none⟩),.int .i64 k] w' (WrMO w0 B P m vv vc vg (L++[[110,101]]++[Md.nm m.vars x]++[Md.nm m.vars y]++[itoa k]) (max (max (far) x) y) w')):=fun w' h'=>xG h' (by first | omega | (simp only [List.length_append,List.length_cons,List.length_nil];omega)) k (num_in.1 hk)
 obtain ⟨W1,hW1⟩:∃ W1,w.alloc (.cells #[.int .i64 2,.int .i64 0,.slice ta tn tc,.int .i64 k,.int .i64 0,.int .i64 x,.int .i64 y,.slice xa xn xc,.slice ba bn bc,.slice ra rn rc] 61)=W1:=⟨_,rfl⟩
 obtain ⟨NB,hNB⟩:∃ NB,w.heap.size=NB:=⟨_,rfl⟩
 have hb1:Below w.heap.size w W1:=by rw [<-hW1];exact zk _ _
 have hbx:W1.heap[NB]?=some (.cells #[.int .i64 2,.int .i64 0,.slice ta tn tc,.int .i64 k,.int .i64 0,.int .i64 x,.int .i64 y,.slice xa xn xc,.slice ba bn bc,.slice ra rn rc] 61 (0,0)):=by rw [<-hW1,<-hNB];exact heap_alloc_new w _
 have HBx:Hid (W1.heap[NB]?=some (.cells #[.int .i64 2,.int .i64 0,.slice ta tn tc,.int .i64 k,.int .i64 0,.int .i64 x,.int .i64 y,.slice xa xn xc,.slice ba bn bc,.slice ra rn rc] 61 (0,0))):=hbx
 have H1:Hid (WrM w0 B P m vv vc vg L far W1/\Wk B W1 W1):=⟨h.keep hb1,Wk.refl _ _⟩
 have HW1:Hid (Wk B w W1):=Wk.of_below hb1
 obtain ⟨k0,k1,k2,k3,k4,k5,k6,k7,k8,k9⟩:=yH hbx (Wk.refl B W1)
 clear h hL hb1 hbx hx hy hk
 go_enter Tryz.func40,Tryz.ntmps40
 go_wp2_with (first
  | (go_at_call 37;refine cZ (HS1.out W1 H1.out.1) ?_;rintro e w2 ⟨rfl,hj⟩;(have H2:Hid (WrM w0 B P m vv vc vg (L++[[110,101]]) (far) w2/\Wk B W1 w2):=⟨hj.1,H1.out.2.trans hj.2⟩);clear hj k0 k1 k2 k3 k4 k5 k6 k7 k8 k9;obtain ⟨k0,k1,k2,k3,k4,k5,k6,k7,k8,k9⟩:=yH HBx.out H2.out.2)
  | (go_at_call 67;refine cZ (HS2.out w2 H2.out.1) ?_;rintro e w3 ⟨rfl,hj⟩;(have H3:Hid (WrM w0 B P m vv vc vg (L++[[110,101]]++[Md.nm m.vars x]) (max (far) x) w3/\Wk B W1 w3):=⟨hj.1,H2.out.2.trans hj.2⟩);clear hj k0 k1 k2 k3 k4 k5 k6 k7 k8 k9;obtain ⟨k0,k1,k2,k3,k4,k5,k6,k7,k8,k9⟩:=yH HBx.out H3.out.2)
  | (go_at_call 67;refine cZ (HS3.out w3 H3.out.1) ?_;rintro e w4 ⟨rfl,hj⟩;(have H4:Hid (WrM w0 B P m vv vc vg (L++[[110,101]]++[Md.nm m.vars x]++[Md.nm m.vars y]) (max (max (far) x) y) w4/\Wk B W1 w4):=⟨hj.1,H3.out.2.trans hj.2⟩);clear hj k0 k1 k2 k3 k4 k5 k6 k7 k8 k9;obtain ⟨k0,k1,k2,k3,k4,k5,k6,k7,k8,k9⟩:=yH HBx.out H4.out.2)
  | (go_at_call 38;refine cZ (HS4.out w4 H4.out.1) ?_;rintro e w5 ⟨rfl,hj⟩;(have H5:Hid (WrM w0 B P m vv vc vg (L++[[110,101]]++[Md.nm m.vars x]++[Md.nm m.vars y]++[itoa k]) (max (max (far) x) y) w5/\Wk B W1 w5):=⟨hj.1,H4.out.2.trans hj.2⟩);clear hj k0 k1 k2 k3 k4 k5 k6 k7 k8 k9;obtain ⟨k0,k1,k2,k3,k4,k5,k6,k7,k8,k9⟩:=yH HBx.out H5.out.2))
 go_end0
 exact ⟨rfl,H5.out.1,HW1.out.trans H5.out.2⟩
theorem y5W {w0:World} {B P:Nat} {m:Md.Mo} {vv vc vg:Value} {L:List (List UInt8)} {far:Int} {w:World} (h:WrM w0 B P m vv vc vg L far w) (hL:L.length<=1000) (xs:List Int) (ta xa ba ra:Option Addr) (tn tc xn xc bn bc rn rc:Nat) (hxa:IntsAt w0 (.slice xa xn xc) xs) (hxs:1<=xs.length/\xs.length<=64/\∀ a∈xs,inV m.vars a):Calls Tryz.prog 40 #[.pointer (some ⟨P,0,none⟩),.agg #[.int .i64 3,.int .i64 0,.slice ta tn tc,.int .i64 0,.int .i64 0,.int .i64 0,.int .i64 0,.slice xa xn xc,.slice ba bn bc,.slice ra rn rc]] w (WrMO w0 B P m vv vc vg (L++[[97,108,108,100,105,102,102]]++nmsW m.vars xs) (xs.foldl max (far)) w):=by
 have HS1:Hid (∀ w',WrM w0 B P m vv vc vg (L) (far) w'->Calls Tryz.prog 37 #[.pointer (some ⟨P,0,none⟩),.string ⟨#[97,108,108,100,105,102,102]⟩] w' (WrMO w0 B P m vv vc vg (L++[[97,108,108,100,105,102,102]]) (far) w')):=fun w' h'=>(show _ from zN h' (by first | omega | (simp only [List.length_append,List.length_cons,List.length_nil];omega)) [97,108,108,100,105,102,102])
 have HS2:Hid (∀ w',WrM w0 B P m vv vc vg (L++[[97,108,108,100,105,102,102]]) (far) w'->Calls Tryz.prog 69 #[.pointer (some ⟨P,0,none⟩),.slice xa xn xc] w' (WrMO w0 B P m vv vc vg (L++[[97,108,108,100,105,102,102]]++nmsW m.vars xs) (xs.foldl max (far)) w')):=fun w' h'=>Z3 h' xs (.slice xa xn xc) hxa hxs.2.2 (by have:=hxs.2.1;first | omega | (simp only [List.length_append,List.length_cons,List.length_nil];omega))
 obtain ⟨W1,hW1⟩:∃ W1,w.alloc (.cells #[.int .i64 3,.int .i64 0,.slice ta tn tc,.int .i64 0,.int .i64 0,.int .i64 0,.int .i64 0,.slice xa xn xc,.slice ba bn bc,.slice ra rn rc] 61)=W1:=⟨_,rfl⟩
 obtain ⟨NB,hNB⟩:∃ NB,w.heap.size=NB:=⟨_,rfl⟩
 have hb1:Below w.heap.size w W1:=by rw [<-hW1];exact zk _ _
 have hbx:W1.heap[NB]?=some (.cells #[.int .i64 3,.int .i64 0,.slice ta tn tc,.int .i64 0,.int .i64 0,.int .i64 0,.int .i64 0,.slice xa xn xc,.slice ba bn bc,.slice ra rn rc] 61 (0,0)):=by rw [<-hW1,<-hNB];exact heap_alloc_new w _
 have HBx:Hid (W1.heap[NB]?=some (.cells #[.int .i64 3,.int .i64 0,.slice ta tn tc,.int .i64 0,.int .i64 0,.int .i64 0,.int .i64 0,.slice xa xn xc,.slice ba bn bc,.slice ra rn rc] 61 (0,0))):=hbx
 have H1:Hid (WrM w0 B P m vv vc vg L far W1/\Wk B W1 W1):=⟨h.keep hb1,Wk.refl _ _⟩
 have HW1:Hid (Wk B w W1):=Wk.of_below hb1
 obtain ⟨k0,k1,k2,k3,k4,k5,k6,k7,k8,k9⟩:=yH hbx (Wk.refl B W1)
 clear h hL hb1 hbx hxa hxs
 go_enter Tryz.func40,Tryz.ntmps40
 go_wp2_with (first
  | (go_at_call 37;refine cZ (HS1.out W1 H1.out.1) ?_;rintro e w2 ⟨rfl,hj⟩;(have H2:Hid (WrM w0 B P m vv vc vg (L++[[97,108,108,100,105,102,102]]) (far) w2/\Wk B W1 w2):=⟨hj.1,H1.out.2.trans hj.2⟩);clear hj k0 k1 k2 k3 k4 k5 k6 k7 k8 k9;obtain ⟨k0,k1,k2,k3,k4,k5,k6,k7,k8,k9⟩:=yH HBx.out H2.out.2)
  | (go_at_call 69;refine cZ (HS2.out w2 H2.out.1) ?_;rintro e w3 ⟨rfl,hj⟩;(have H3:Hid (WrM w0 B P m vv vc vg (L++[[97,108,108,100,105,102,102]]++nmsW m.vars xs) (xs.foldl max (far)) w3/\Wk B W1 w3):=⟨hj.1,H2.out.2.trans hj.2⟩);clear hj k0 k1 k2 k3 k4 k5 k6 k7 k8 k9;obtain ⟨k0,k1,k2,k3,k4,k5,k6,k7,k8,k9⟩:=yH HBx.out H3.out.2))
 go_end0
 exact ⟨rfl,H3.out.1,HW1.out.trans H3.out.2⟩
theorem y5X {w0:World} {B P:Nat} {m:Md.Mo} {vv vc vg:Value} {L:List (List UInt8)} {far:Int} {w:World} (h:WrM w0 B P m vv vc vg L far w) (hL:L.length<=1000) (y:Int) (xs:List Int) (ta xa ba ra:Option Addr) (tn tc xn xc bn bc rn rc:Nat) (hy:inV m.vars y) (hxa:IntsAt w0 (.slice xa xn xc) xs) (hxs:1<=xs.length/\xs.length<=64/\∀ a∈xs,inV m.vars a):Calls Tryz.prog 40 #[.pointer (some ⟨P,0,none⟩),.agg #[.int .i64 5,.int .i64 0,.slice ta tn tc,.int .i64 0,.int .i64 0,.int .i64 0,.int .i64 y,.slice xa xn xc,.slice ba bn bc,.slice ra rn rc]] w (WrMO w0 B P m vv vc vg (L++[[109,97,120]]++[Md.nm m.vars y]++nmsW m.vars xs) (xs.foldl max (max (far) y)) w):=by
 have HS1:Hid (∀ w',WrM w0 B P m vv vc vg (L) (far) w'->Calls Tryz.prog 37 #[.pointer (some ⟨P,0,none⟩),.string ⟨#[109,97,120]⟩] w' (WrMO w0 B P m vv vc vg (L++[[109,97,120]]) (far) w')):=fun w' h'=>(show _ from zN h' (by first | omega | (simp only [List.length_append,List.length_cons,List.length_nil];omega)) [109,97,120])
 have HS2:Hid (∀ w',WrM w0 B P m vv vc vg (L++[[109,97,120]]) (far) w'->Calls Tryz.prog 67 #[.pointer (some ⟨P,0,none⟩),.int .i64 y] w' (WrMO w0 B P m vv vc vg (L++[[109,97,120]]++[Md.nm m.vars y]) (max (far) y) w')):=fun w' h'=>xQ h' (by first | omega | (simp only [List.length_append,List.length_cons,List.length_nil];omega)) y hy
 have HS3:Hid (∀ w',WrM w0 B P m vv vc vg (L++[[109,97,120]]++[Md.nm m.vars y]) (max (far) y) w'->Calls Tryz.prog 69 #[.pointer (some ⟨P,0,none⟩),.slice xa xn xc] w' (WrMO w0 B P m vv vc vg (L++[[109,97,120]]++[Md.nm m.vars y]++nmsW m.vars xs) (xs.foldl max (max (far) y)) w')):=fun w' h'=>Z3 h' xs (.slice xa xn xc) hxa hxs.2.2 (by have:=hxs.2.1;first | omega | (simp only [List.length_append,List.length_cons,List.length_nil];omega))
 obtain ⟨W1,hW1⟩:∃ W1,w.alloc (.cells #[.int .i64 5,.int .i64 0,.slice ta tn tc,.int .i64 0,.int .i64 0,.int .i64 0,.int .i64 y,.slice xa xn xc,.slice ba bn bc,.slice ra rn rc] 61)=W1:=⟨_,rfl⟩
 obtain ⟨NB,hNB⟩:∃ NB,w.heap.size=NB:=⟨_,rfl⟩
 have hb1:Below w.heap.size w W1:=by rw [<-hW1];exact zk _ _
 have hbx:W1.heap[NB]?=some (.cells #[.int .i64 5,.int .i64 0,.slice ta tn tc,.int .i64 0,.int .i64 0,.int .i64 0,.int .i64 y,.slice xa xn xc,.slice ba bn bc,.slice ra rn rc] 61 (0,0)):=by rw [<-hW1,<-hNB];exact heap_alloc_new w _
 have HBx:Hid (W1.heap[NB]?=some (.cells #[.int .i64 5,.int .i64 0,.slice ta tn tc,.int .i64 0,.int .i64 0,.int .i64 0,.int .i64 y,.slice xa xn xc,.slice ba bn bc,.slice ra rn rc] 61 (0,0))):=hbx
 have H1:Hid (WrM w0 B P m vv vc vg L far W1/\Wk B W1 W1):=⟨h.keep hb1,Wk.refl _ _⟩
 have HW1:Hid (Wk B w W1):=Wk.of_below hb1
 obtain ⟨k0,k1,k2,k3,k4,k5,k6,k7,k8,k9⟩:=yH hbx (Wk.refl B W1)
 have hNl:=(Array.getElem?_eq_some_iff.1 hbx).1
 clear h hL hb1 hbx hy hxa hxs
 go_enter Tryz.func40,Tryz.ntmps40
 go_wp2_with (first
  | (go_at_call 37;refine cZ (HS1.out _ (H1.out.1.keep (zk _ _))) ?_;rintro e w2 ⟨rfl,hj⟩;(have H2:Hid (WrM w0 B P m vv vc vg (L++[[109,97,120]]) (far) w2/\Wk B W1 w2):=⟨hj.1,Wk.trans (Wk.of_below (zk _ _)) hj.2⟩);clear hj k0 k1 k2 k3 k4 k5 k6 k7 k8 k9;obtain ⟨k0,k1,k2,k3,k4,k5,k6,k7,k8,k9⟩:=yH HBx.out H2.out.2)
  | (go_at_call 67;refine cZ (HS2.out w2 H2.out.1) ?_;rintro e w3 ⟨rfl,hj⟩;(have H3:Hid (WrM w0 B P m vv vc vg (L++[[109,97,120]]++[Md.nm m.vars y]) (max (far) y) w3/\Wk B W1 w3):=⟨hj.1,H2.out.2.trans hj.2⟩);clear hj k0 k1 k2 k3 k4 k5 k6 k7 k8 k9;obtain ⟨k0,k1,k2,k3,k4,k5,k6,k7,k8,k9⟩:=yH HBx.out H3.out.2)
  | (go_at_call 69;refine cZ (HS3.out w3 H3.out.1) ?_;rintro e w4 ⟨rfl,hj⟩;(have H4:Hid (WrM w0 B P m vv vc vg (L++[[109,97,120]]++[Md.nm m.vars y]++nmsW m.vars xs) (xs.foldl max (max (far) y)) w4/\Wk B W1 w4):=⟨hj.1,H3.out.2.trans hj.2⟩);clear hj k0 k1 k2 k3 k4 k5 k6 k7 k8 k9;obtain ⟨k0,k1,k2,k3,k4,k5,k6,k7,k8,k9⟩:=yH HBx.out H4.out.2))
 go_end0
 exact ⟨rfl,H4.out.1,HW1.out.trans H4.out.2⟩
theorem y5Y {w0:World} {B P:Nat} {m:Md.Mo} {vv vc vg:Value} {L:List (List UInt8)} {far:Int} {w:World} (h:WrM w0 B P m vv vc vg L far w) (hL:L.length<=1000) (y:Int) (xs:List Int) (ta xa ba ra:Option Addr) (tn tc xn xc bn bc rn rc:Nat) (hy:inV m.vars y) (hxa:IntsAt w0 (.slice xa xn xc) xs) (hxs:1<=xs.length/\xs.length<=64/\∀ a∈xs,inV m.vars a):Calls Tryz.prog 40 #[.pointer (some ⟨P,0,none⟩),.agg #[.int .i64 6,.int .i64 0,.slice ta tn tc,.int .i64 0,.int .i64 0,.int .i64 0,.int .i64 y,.slice xa xn xc,.slice ba bn bc,.slice ra rn rc]] w (WrMO w0 B P m vv vc vg (L++[[109,105,110]]++[Md.nm m.vars y]++nmsW m.vars xs) (xs.foldl max (max (far) y)) w):=by
 have HS1:Hid (∀ w',WrM w0 B P m vv vc vg (L) (far) w'->Calls Tryz.prog 37 #[.pointer (some ⟨P,0,none⟩),.string ⟨#[109,105,110]⟩] w' (WrMO w0 B P m vv vc vg (L++[[109,105,110]]) (far) w')):=fun w' h'=>(show _ from zN h' (by first | omega | (simp only [List.length_append,List.length_cons,List.length_nil];omega)) [109,105,110])
 have HS2:Hid (∀ w',WrM w0 B P m vv vc vg (L++[[109,105,110]]) (far) w'->Calls Tryz.prog 67 #[.pointer (some ⟨P,0,none⟩),.int .i64 y] w' (WrMO w0 B P m vv vc vg (L++[[109,105,110]]++[Md.nm m.vars y]) (max (far) y) w')):=fun w' h'=>xQ h' (by first | omega | (simp only [List.length_append,List.length_cons,List.length_nil];omega)) y hy
 have HS3:Hid (∀ w',WrM w0 B P m vv vc vg (L++[[109,105,110]]++[Md.nm m.vars y]) (max (far) y) w'->Calls Tryz.prog 69 #[.pointer (some ⟨P,0,none⟩),.slice xa xn xc] w' (WrMO w0 B P m vv vc vg (L++[[109,105,110]]++[Md.nm m.vars y]++nmsW m.vars xs) (xs.foldl max (max (far) y)) w')):=fun w' h'=>Z3 h' xs (.slice xa xn xc) hxa hxs.2.2 (by have:=hxs.2.1;first | omega | (simp only [List.length_append,List.length_cons,List.length_nil];omega))
 obtain ⟨W1,hW1⟩:∃ W1,w.alloc (.cells #[.int .i64 6,.int .i64 0,.slice ta tn tc,.int .i64 0,.int .i64 0,.int .i64 0,.int .i64 y,.slice xa xn xc,.slice ba bn bc,.slice ra rn rc] 61)=W1:=⟨_,rfl⟩
 obtain ⟨NB,hNB⟩:∃ NB,w.heap.size=NB:=⟨_,rfl⟩
 have hb1:Below w.heap.size w W1:=by rw [<-hW1];exact zk _ _
 have hbx:W1.heap[NB]?=some (.cells #[.int .i64 6,.int .i64 0,.slice ta tn tc,.int .i64 0,.int .i64 0,.int .i64 0,.int .i64 y,.slice xa xn xc,.slice ba bn bc,.slice ra rn rc] 61 (0,0)):=by rw [<-hW1,<-hNB];exact heap_alloc_new w _
 have HBx:Hid (W1.heap[NB]?=some (.cells #[.int .i64 6,.int .i64 0,.slice ta tn tc,.int .i64 0,.int .i64 0,.int .i64 0,.int .i64 y,.slice xa xn xc,.slice ba bn bc,.slice ra rn rc] 61 (0,0))):=hbx
 have H1:Hid (WrM w0 B P m vv vc vg L far W1/\Wk B W1 W1):=⟨h.keep hb1,Wk.refl _ _⟩
 have HW1:Hid (Wk B w W1):=Wk.of_below hb1
 obtain ⟨k0,k1,k2,k3,k4,k5,k6,k7,k8,k9⟩:=yH hbx (Wk.refl B W1)
 have hNl:=(Array.getElem?_eq_some_iff.1 hbx).1
 clear h hL hb1 hbx hy hxa hxs
 go_enter Tryz.func40,Tryz.ntmps40
 go_wp2_with (first
  | (go_at_call 37;refine cZ (HS1.out _ (H1.out.1.keep (zk _ _))) ?_;rintro e w2 ⟨rfl,hj⟩;(have H2:Hid (WrM w0 B P m vv vc vg (L++[[109,105,110]]) (far) w2/\Wk B W1 w2):=⟨hj.1,Wk.trans (Wk.of_below (zk _ _)) hj.2⟩);clear hj k0 k1 k2 k3 k4 k5 k6 k7 k8 k9;obtain ⟨k0,k1,k2,k3,k4,k5,k6,k7,k8,k9⟩:=yH HBx.out H2.out.2)
  | (go_at_call 67;refine cZ (HS2.out w2 H2.out.1) ?_;rintro e w3 ⟨rfl,hj⟩;(have H3:Hid (WrM w0 B P m vv vc vg (L++[[109,105,110]]++[Md.nm m.vars y]) (max (far) y) w3/\Wk B W1 w3):=⟨hj.1,H2.out.2.trans hj.2⟩);clear hj k0 k1 k2 k3 k4 k5 k6 k7 k8 k9;obtain ⟨k0,k1,k2,k3,k4,k5,k6,k7,k8,k9⟩:=yH HBx.out H3.out.2)
  | (go_at_call 69;refine cZ (HS3.out w3 H3.out.1) ?_;rintro e w4 ⟨rfl,hj⟩;(have H4:Hid (WrM w0 B P m vv vc vg (L++[[109,105,110]]++[Md.nm m.vars y]++nmsW m.vars xs) (xs.foldl max (max (far) y)) w4/\Wk B W1 w4):=⟨hj.1,H3.out.2.trans hj.2⟩);clear hj k0 k1 k2 k3 k4 k5 k6 k7 k8 k9;obtain ⟨k0,k1,k2,k3,k4,k5,k6,k7,k8,k9⟩:=yH HBx.out H4.out.2))
 go_end0
 exact ⟨rfl,H4.out.1,HW1.out.trans H4.out.2⟩
theorem y5Z {w0:World} {B P:Nat} {m:Md.Mo} {vv vc vg:Value} {L:List (List UInt8)} {far:Int} {w:World} (h:WrM w0 B P m vv vc vg L far w) (hL:L.length<=1000) (k x:Int) (t:List (Int × Int)) (ta xa ba ra:Option Addr) (tn tc xn xc bn bc rn rc:Nat) (hx:inV m.vars x) (hk:Md.numB k=true) (hta:TermsAt w0 (.slice ta tn tc) t) (ht:1<=t.length/\t.length<=64/\∀ a∈t,Md.cfB a.1=true/\inV m.vars a.2):Calls Tryz.prog 40 #[.pointer (some ⟨P,0,none⟩),.agg #[.int .i64 7,.int .i64 0,.slice ta tn tc,.int .i64 k,.int .i64 0,.int .i64 x,.int .i64 0,.slice xa xn xc,.slice ba bn bc,.slice ra rn rc]] w (WrMO w0 B P m vv vc vg (L++[[114,101,105,102]]++[Md.nm m.vars x]++[[60,61]]++[itoa k]++sumW m.vars t) ((t.map (·.2)).foldl max (max (far) x)) w):=by
 have HS1:Hid (∀ w',WrM w0 B P m vv vc vg (L) (far) w'->Calls Tryz.prog 37 #[.pointer (some ⟨P,0,none⟩),.string ⟨#[114,101,105,102]⟩] w' (WrMO w0 B P m vv vc vg (L++[[114,101,105,102]]) (far) w')):=fun w' h'=>(show _ from zN h' (by first | omega | (simp only [List.length_append,List.length_cons,List.length_nil];omega)) [114,101,105,102])
 have HS2:Hid (∀ w',WrM w0 B P m vv vc vg (L++[[114,101,105,102]]) (far) w'->Calls Tryz.prog 67 #[.pointer (some ⟨P,0,none⟩),.int .i64 x] w' (WrMO w0 B P m vv vc vg (L++[[114,101,105,102]]++[Md.nm m.vars x]) (max (far) x) w')):=fun w' h'=>xQ h' (by first | omega | (simp only [List.length_append,List.length_cons,List.length_nil];omega)) x hx
 have HS3:Hid (∀ w',WrM w0 B P m vv vc vg (L++[[114,101,105,102]]++[Md.nm m.vars x]) (max (far) x) w'->Calls Tryz.prog 37 #[.pointer (some ⟨P,0,none⟩),.string ⟨#[60,61]⟩] w' (WrMO w0 B P m vv vc vg (L++[[114,101,105,102]]++[Md.nm m.vars x]++[[60,61]]) (max (far) x) w')):=fun w' h'=>(show _ from zN h' (by first | omega | (simp only [List.length_append,List.length_cons,List.length_nil];omega)) [60,61])
 have HS4:Hid (∀ w',WrM w0 B P m vv vc vg (L++[[114,101,105,102]]++[Md.nm m.vars x]++[[60,61]]) (max (far) x) w'->Calls Tryz.prog 38 #[.pointer (some ⟨P,0,none⟩),.int .i64 k] w' (WrMO w0 B P m vv vc vg (L++[[114,101,105,102]]++[Md.nm m.vars x]++[[60,61]]++[itoa k]) (max (far) x) w')):=fun w' h'=>xG h' (by first | omega | (simp only [List.length_append,List.length_cons,List.length_nil];omega)) k (num_in.1 hk)
 have HS5:Hid (∀ w',WrM w0 B P m vv vc vg (L++[[114,101,105,102]]++[Md.nm m.vars x]++[[60,61]]++[itoa k]) (max (far) x) w'->Calls Tryz.prog 39 #[.pointer (some ⟨P,0,none⟩),.slice ta tn tc] w' (WrMO w0 B P m vv vc vg (L++[[114,101,105,102]]++[Md.nm m.vars x]++[[60,61]]++[itoa k]++sumW m.vars t) ((t.map (·.2)).foldl max (max (far) x)) w')):=fun w' h'=>XB h' t (.slice ta tn tc) hta ht.2.2 (by have:=ht.2.1;first | omega | (simp only [List.length_append,List.length_cons,List.length_nil];omega))
 obtain ⟨W1,hW1⟩:∃ W1,w.alloc (.cells #[.int .i64 7,.int .i64 0,.slice ta tn tc,.int .i64 k,.int .i64 0,.int .i64 x,.int .i64 0,.slice xa xn xc,.slice ba bn bc,.slice ra rn rc] 61)=W1:=⟨_,rfl⟩
 obtain ⟨NB,hNB⟩:∃ NB,w.heap.size=NB:=⟨_,rfl⟩
 have hb1:Below w.heap.size w W1:=by rw [<-hW1];exact zk _ _
 have hbx:W1.heap[NB]?=some (.cells #[.int .i64 7,.int .i64 0,.slice ta tn tc,.int .i64 k,.int .i64 0,.int .i64 x,.int .i64 0,.slice xa xn xc,.slice ba bn bc,.slice ra rn rc] 61 (0,0)):=by rw [<-hW1,<-hNB];exact heap_alloc_new w _
 have HBx:Hid (W1.heap[NB]?=some (.cells #[.int .i64 7,.int .i64 0,.slice ta tn tc,.int .i64 k,.int .i64 0,.int .i64 x,.int .i64 0,.slice xa xn xc,.slice ba bn bc,.slice ra rn rc] 61 (0,0))):=hbx
 have H1:Hid (WrM w0 B P m vv vc vg L far W1/\Wk B W1 W1):=⟨h.keep hb1,Wk.refl _ _⟩
 have HW1:Hid (Wk B w W1):=Wk.of_below hb1
 obtain ⟨k0,k1,k2,k3,k4,k5,k6,k7,k8,k9⟩:=yH hbx (Wk.refl B W1)
 clear h hL hb1 hbx hx hk hta ht
 go_enter Tryz.func40,Tryz.ntmps40
 go_wp2_with (first
  | (go_at_call 37;refine cZ (HS1.out W1 H1.out.1) ?_;rintro e w2 ⟨rfl,hj⟩;(have H2:Hid (WrM w0 B P m vv vc vg (L++[[114,101,105,102]]) (far) w2/\Wk B W1 w2):=⟨hj.1,H1.out.2.trans hj.2⟩);clear hj k0 k1 k2 k3 k4 k5 k6 k7 k8 k9;obtain ⟨k0,k1,k2,k3,k4,k5,k6,k7,k8,k9⟩:=yH HBx.out H2.out.2)
  | (go_at_call 67;refine cZ (HS2.out w2 H2.out.1) ?_;rintro e w3 ⟨rfl,hj⟩;(have H3:Hid (WrM w0 B P m vv vc vg (L++[[114,101,105,102]]++[Md.nm m.vars x]) (max (far) x) w3/\Wk B W1 w3):=⟨hj.1,H2.out.2.trans hj.2⟩);clear hj k0 k1 k2 k3 k4 k5 k6 k7 k8 k9;obtain ⟨k0,k1,k2,k3,k4,k5,k6,k7,k8,k9⟩:=yH HBx.out H3.out.2)
  | (go_at_call 37;refine cZ (HS3.out w3 H3.out.1) ?_;rintro e w4 ⟨rfl,hj⟩;(have H4:Hid (WrM w0 B P m vv vc vg (L++[[114,101,105,102]]++[Md.nm m.vars x]++[[60,61]]) (max (far) x) w4/\Wk B W1 w4):=⟨hj.1,H3.out.2.trans hj.2⟩);clear hj k0 k1 k2 k3 k4 k5 k6 k7 k8 k9;obtain ⟨k0,k1,k2,k3,k4,k5,k6,k7,k8,k9⟩:=yH HBx.out H4.out.2)
  | (go_at_call 38;refine cZ (HS4.out w4 H4.out.1) ?_;rintro e w5 ⟨rfl,hj⟩;(have H5:Hid (WrM w0 B P m vv vc vg (L++[[114,101,105,102]]++[Md.nm m.vars x]++[[60,61]]++[itoa k]) (max (far) x) w5/\Wk B W1 w5):=⟨hj.1,H4.out.2.trans hj.2⟩);clear hj k0 k1 k2 k3 k4 k5 k6 k7 k8 k9;obtain ⟨k0,k1,k2,k3,k4,k5,k6,k7,k8,k9⟩:=yH HBx.out H5.out.2)
  | (go_at_call 39;refine cZ (HS5.out w5 H5.out.1) ?_;rintro e w6 ⟨rfl,hj⟩;(have H6:Hid (WrM w0 B P m vv vc vg (L++[[114,101,105,102]]++[Md.nm m.vars x]++[[60,61]]++[itoa k]++sumW m.vars t) ((t.map (·.2)).foldl max (max (far) x)) w6/\Wk B W1 w6):=⟨hj.1,H5.out.2.trans hj.2⟩);clear hj k0 k1 k2 k3 k4 k5 k6 k7 k8 k9;obtain ⟨k0,k1,k2,k3,k4,k5,k6,k7,k8,k9⟩:=yH HBx.out H6.out.2))
 go_end0
 exact ⟨rfl,H6.out.1,HW1.out.trans H6.out.2⟩
theorem y60 {w0:World} {B P:Nat} {m:Md.Mo} {vv vc vg:Value} {L:List (List UInt8)} {far:Int} {w:World} (h:WrM w0 B P m vv vc vg L far w) (hL:L.length<=1000) (op k v:Int) (xs:List Int) (ta xa ba ra:Option Addr) (tn tc xn xc bn bc rn rc:Nat) (ho:1<=op/\op<=3) (hk:Md.numB k=true) (hv:Md.numB v=true) (hxa:IntsAt w0 (.slice xa xn xc) xs) (hxs:1<=xs.length/\xs.length<=64/\∀ a∈xs,inV m.vars a):Calls Tryz.prog 40 #[.pointer (some ⟨P,0,none⟩),.agg #[.int .i64 9,.int .i64 op,.slice ta tn tc,.int .i64 k,.int .i64 v,.int .i64 0,.int .i64 0,.slice xa xn xc,.slice ba bn bc,.slice ra rn rc]] w (WrMO w0 B P m vv vc vg (L++[[99,111,117,110,116]]++[Md.opT op]++[itoa k]++[itoa v]++nmsW m.vars xs) (xs.foldl max (far)) w):=by
 have HS1:Hid (∀ w',WrM w0 B P m vv vc vg (L) (far) w'->Calls Tryz.prog 37 #[.pointer (some ⟨P,0,none⟩),.string ⟨#[99,111,117,110,116]⟩] w' (WrMO w0 B P m vv vc vg (L++[[99,111,117,110,116]]) (far) w')):=fun w' h'=>(show _ from zN h' (by first | omega | (simp only [List.length_append,List.length_cons,List.length_nil];omega)) [99,111,117,110,116])
 have HS2:Hid (∀ w',WrM w0 B P m vv vc vg (L++[[99,111,117,110,116]]) (far) w'->Calls Tryz.prog 68 #[.pointer (some ⟨P,0,none⟩),.int .i64 op] w' (WrMO w0 B P m vv vc vg (L++[[99,111,117,110,116]]++[Md.opT op]) (far) w')):=fun w' h'=>y0e h' (by first | omega | (simp only [List.length_append,List.length_cons,List.length_nil];omega)) op ho
 have HS3:Hid (∀ w',WrM w0 B P m vv vc vg (L++[[99,111,117,110,116]]++[Md.opT op]) (far) w'->Calls Tryz.prog 38 #[.pointer (some ⟨P,0,none⟩),.int .i64 k] w' (WrMO w0 B P m vv vc vg (L++[[99,111,117,110,116]]++[Md.opT op]++[itoa k]) (far) w')):=fun w' h'=>xG h' (by first | omega | (simp only [List.length_append,List.length_cons,List.length_nil];omega)) k (num_in.1 hk)
 have HS4:Hid (∀ w',WrM w0 B P m vv vc vg (L++[[99,111,117,110,116]]++[Md.opT op]++[itoa k]) (far) w'->Calls Tryz.prog 38 #[.pointer (some ⟨P,0,none⟩),.int .i64 v] w' (WrMO w0 B P m vv vc vg (L++[[99,111,117,110,116]]++[Md.opT op]++[itoa k]++[itoa v]) (far) w')):=fun w' h'=>xG h' (by first | omega | (simp only [List.length_append,List.length_cons,List.length_nil];omega)) v (num_in.1 hv)
 have HS5:Hid (∀ w',WrM w0 B P m vv vc vg (L++[[99,111,117,110,116]]++[Md.opT op]++[itoa k]++[itoa v]) (far) w'->Calls Tryz.prog 69 #[.pointer (some ⟨P,0,none⟩),.slice xa xn xc] w' (WrMO w0 B P m vv vc vg (L++[[99,111,117,110,116]]++[Md.opT op]++[itoa k]++[itoa v]++nmsW m.vars xs) (xs.foldl max (far)) w')):=fun w' h'=>Z3 h' xs (.slice xa xn xc) hxa hxs.2.2 (by have:=hxs.2.1;first | omega | (simp only [List.length_append,List.length_cons,List.length_nil];omega))
 obtain ⟨W1,hW1⟩:∃ W1,w.alloc (.cells #[.int .i64 9,.int .i64 op,.slice ta tn tc,.int .i64 k,.int .i64 v,.int .i64 0,.int .i64 0,.slice xa xn xc,.slice ba bn bc,.slice ra rn rc] 61)=W1:=⟨_,rfl⟩
 obtain ⟨NB,hNB⟩:∃ NB,w.heap.size=NB:=⟨_,rfl⟩
 have hb1:Below w.heap.size w W1:=by rw [<-hW1];exact zk _ _
 have hbx:W1.heap[NB]?=some (.cells #[.int .i64 9,.int .i64 op,.slice ta tn tc,.int .i64 k,.int .i64 v,.int .i64 0,.int .i64 0,.slice xa xn xc,.slice ba bn bc,.slice ra rn rc] 61 (0,0)):=by rw [<-hW1,<-hNB];exact heap_alloc_new w _
 have HBx:Hid (W1.heap[NB]?=some (.cells #[.int .i64 9,.int .i64 op,.slice ta tn tc,.int .i64 k,.int .i64 v,.int .i64 0,.int .i64 0,.slice xa xn xc,.slice ba bn bc,.slice ra rn rc] 61 (0,0))):=hbx
 have H1:Hid (WrM w0 B P m vv vc vg L far W1/\Wk B W1 W1):=⟨h.keep hb1,Wk.refl _ _⟩
 have HW1:Hid (Wk B w W1):=Wk.of_below hb1
 obtain ⟨k0,k1,k2,k3,k4,k5,k6,k7,k8,k9⟩:=yH hbx (Wk.refl B W1)
 clear h hL hb1 hbx ho hk hv hxa hxs
 go_enter Tryz.func40,Tryz.ntmps40
 go_wp2_with (first
  | (go_at_call 37;refine cZ (HS1.out W1 H1.out.1) ?_;rintro e w2 ⟨rfl,hj⟩;(have H2:Hid (WrM w0 B P m vv vc vg (L++[[99,111,117,110,116]]) (far) w2/\Wk B W1 w2):=⟨hj.1,H1.out.2.trans hj.2⟩);clear hj k0 k1 k2 k3 k4 k5 k6 k7 k8 k9;obtain ⟨k0,k1,k2,k3,k4,k5,k6,k7,k8,k9⟩:=yH HBx.out H2.out.2)
  | (go_at_call 68;refine cZ (HS2.out w2 H2.out.1) ?_;rintro e w3 ⟨rfl,hj⟩;(have H3:Hid (WrM w0 B P m vv vc vg (L++[[99,111,117,110,116]]++[Md.opT op]) (far) w3/\Wk B W1 w3):=⟨hj.1,H2.out.2.trans hj.2⟩);clear hj k0 k1 k2 k3 k4 k5 k6 k7 k8 k9;obtain ⟨k0,k1,k2,k3,k4,k5,k6,k7,k8,k9⟩:=yH HBx.out H3.out.2)
  | (go_at_call 38;refine cZ (HS3.out w3 H3.out.1) ?_;rintro e w4 ⟨rfl,hj⟩;(have H4:Hid (WrM w0 B P m vv vc vg (L++[[99,111,117,110,116]]++[Md.opT op]++[itoa k]) (far) w4/\Wk B W1 w4):=⟨hj.1,H3.out.2.trans hj.2⟩);clear hj k0 k1 k2 k3 k4 k5 k6 k7 k8 k9;obtain ⟨k0,k1,k2,k3,k4,k5,k6,k7,k8,k9⟩:=yH HBx.out H4.out.2)
  | (go_at_call 38;refine cZ (HS4.out w4 H4.out.1) ?_;rintro e w5 ⟨rfl,hj⟩;(have H5:Hid (WrM w0 B P m vv vc vg (L++[[99,111,117,110,116]]++[Md.opT op]++[itoa k]++[itoa v]) (far) w5/\Wk B W1 w5):=⟨hj.1,H4.out.2.trans hj.2⟩);clear hj k0 k1 k2 k3 k4 k5 k6 k7 k8 k9;obtain ⟨k0,k1,k2,k3,k4,k5,k6,k7,k8,k9⟩:=yH HBx.out H5.out.2)
  | (go_at_call 69;refine cZ (HS5.out w5 H5.out.1) ?_;rintro e w6 ⟨rfl,hj⟩;(have H6:Hid (WrM w0 B P m vv vc vg (L++[[99,111,117,110,116]]++[Md.opT op]++[itoa k]++[itoa v]++nmsW m.vars xs) (xs.foldl max (far)) w6/\Wk B W1 w6):=⟨hj.1,H5.out.2.trans hj.2⟩);clear hj k0 k1 k2 k3 k4 k5 k6 k7 k8 k9;obtain ⟨k0,k1,k2,k3,k4,k5,k6,k7,k8,k9⟩:=yH HBx.out H6.out.2))
 go_end0
 exact ⟨rfl,H6.out.1,HW1.out.trans H6.out.2⟩
end Go.Proofs.YthohnmplbjhjaaaGreatDoor
