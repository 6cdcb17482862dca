/-
  Put together: TrVal, TrName, TrOp.
-/
import Derived.Test.YthohnmplbjhjaaaGreatDoorJ19
import Derived.Test.YthohnmplbjhjaaaGreatDoorJ26
namespace Go.Proofs.YthohnmplbjhjaaaGreatDoor
open Go Go.RowKit
set_option maxHeartbeats 1000000
theorem zV {s:St} {n:Nat} (h:s.1.length<=n):(ye s).1.length<=n/\(ye s).2.1.length<=s.1.length:=by
 unfold ye
 cases ht:yl s with
 | none=>exact ⟨Nat.zero_le _,by rw [yS];exact Nat.le_refl _⟩
 | some p=>exact ⟨Nat.le_trans (zf ht).2.1 h,Nat.le_of_lt (zf ht).1⟩
theorem Xb {w0:World} {V:List Md.Vr} {va:Value} {b:Nat} {s:St} (x:List UInt8) (w:World) (h:Ln w0 V va b s w) (hx:x.length<=70000):Calls Tryz.prog 167 #[.pointer (some ⟨b,0,none⟩),.string (yc x)] w (RO w0 V va b (.int .i64 (ym x s).1) (ym x s).2 w):=by
  have HW:Hid (Calls Tryz.prog 185 #[.string (yc x)] w fun e w'=>e=.returned (.tuple #[.int .i64 (yH x).1,.bool (yH x).2])/\w'=w):=y4U x w hx
  have HF:Hid (Calls Tryz.prog 109 #[.pointer (some ⟨b,0,none⟩),.int .i64 53] w (RO w0 V va b (.tuple #[]) (yh 53 s) w)):=zC 53 w h
  have HL:Hid (Ln w0 V va b s w):=h
  unfold ym
  clear h
  cases hk:(yH x).2 with
  | true =>
    rw [hk] at HW
    go_enter Tryz.func167,Tryz.ntmps167
    go_wp2_with fail
    refine cZ HW.out ?_
    rintro e w' ⟨rfl,hww⟩
    rw [hww]
    clear hww
    go_wp2_with fail
    go_ret
    exact ⟨rfl,HL.out,Ofw.refl _ _⟩
  | false =>
    rw [hk] at HW
    go_enter Tryz.func167,Tryz.ntmps167
    go_wp2_with fail
    refine cZ HW.out ?_
    rintro e w' ⟨rfl,hww⟩
    rw [hww]
    clear hww
    go_wp2_with fail
    refine cZ HF.out ?_
    rintro e w1 ⟨rfl,h1,h2⟩
    go_wp2_with fail
    go_ret
    exact ⟨rfl,h1,h2⟩
theorem X9 {w0:World} {V:List Md.Vr} {va:Value} {b:Nat} {s:St} (x:List UInt8) (w:World) (h:Ln w0 V va b s w) (hx:x.length<=70000):Calls Tryz.prog 130 #[.pointer (some ⟨b,0,none⟩),.string (yc x)] w (RO w0 V va b (.int .i64 (yN x s).1) (yN x s).2 w):=by
 have HW:Hid (Calls Tryz.prog 167 #[.pointer (some ⟨b,0,none⟩),.string (yc x)] w (RO w0 V va b (.int .i64 (ym x s).1) (ym x s).2 w)):=Xb x w h hx
 have HF:Hid (∀ w',Ln w0 V va b (ym x s).2 w'->Calls Tryz.prog 109 #[.pointer (some ⟨b,0,none⟩),.int .i64 46] w' (RO w0 V va b (.tuple #[]) (yh 46 (ym x s).2) w')):=fun w' h'=>zC 46 w' h'
 unfold yN
 obtain ⟨n,hn⟩:∃ n,(ym x s).1=n:=⟨_,rfl⟩
 obtain ⟨t,ht⟩:∃ t,(ym x s).2=t:=⟨_,rfl⟩
 rw [hn,ht] at HW ⊢
 rw [ht] at HF
 clear h hn ht
 by_cases h1:n < -1000000000
 ·have e1:decide (n < -1000000000)=true:=decide_eq_true h1
  rw [if_pos (.inl h1)]
  clear h1
  go_enter Tryz.func130,Tryz.ntmps130
  go_wp2_with fail
  refine cZ HW.out ?_
  rintro e w1 ⟨rfl,h1,o1⟩
  go_wp2_with fail
  refine cZ (HF.out w1 h1) ?_
  rintro e w2 ⟨rfl,h2,o2⟩
  go_wp2_with fail
  go_ret
  exact ⟨rfl,h2,o1.trans o2⟩
 ·have e1:decide (n < -1000000000)=false:=decide_eq_false h1
  by_cases h2:1000000000<n
  ·have e2:decide (1000000000<n)=true:=decide_eq_true h2
   rw [if_pos (.inr h2)]
   clear h1 h2
   go_enter Tryz.func130,Tryz.ntmps130
   go_wp2_with fail
   refine cZ HW.out ?_
   rintro e w1 ⟨rfl,h1,o1⟩
   go_wp2_with fail
   refine cZ (HF.out w1 h1) ?_
   rintro e w2 ⟨rfl,h2,o2⟩
   go_wp2_with fail
   go_ret
   exact ⟨rfl,h2,o1.trans o2⟩
  ·have e2:decide (1000000000<n)=false:=decide_eq_false h2
   rw [if_neg (fun e=>e.elim h1 h2)]
   clear h1 h2
   go_enter Tryz.func130,Tryz.ntmps130
   go_wp2_with fail
   refine cZ HW.out ?_
   rintro e w1 ⟨rfl,h1,o1⟩
   go_wp2_with fail
   go_ret
   exact ⟨rfl,h1,o1⟩
theorem YC {w0:World} {V:List Md.Vr} {va:Value} {b:Nat} {s:St} (w:World) (h:Ln w0 V va b s w):Calls Tryz.prog 81 #[.pointer (some ⟨b,0,none⟩)] w (RO w0 V va b (.int .i64 (yI s).1) (yI s).2 w):=by
 have HN:Hid (Calls Tryz.prog 124 #[.pointer (some ⟨b,0,none⟩)] w (RO w0 V va b (.string (yc (ye s).1)) (ye s).2 w)):=xq w h
 have HV:Hid (∀ w',Ln w0 V va b (ye s).2 w'->Calls Tryz.prog 130 #[.pointer (some ⟨b,0,none⟩),.string (yc (ye s).1)] w' (RO w0 V va b (.int .i64 (yI s).1) (yI s).2 w')):=fun w' h'=>X9 _ w' h' (zV h.n).1
 clear h
 go_enter Tryz.func81,Tryz.ntmps81
 go_wp2_with fail
 refine cZ HN.out ?_
 rintro e w1 ⟨rfl,h1,o1⟩
 go_wp2_with fail
 refine cZ (HV.out w1 h1) ?_
 rintro e w2 ⟨rfl,h2,o2⟩
 go_wp2_with fail
 go_ret
 exact ⟨rfl,h2,o1.trans o2⟩
def Yh (v:Md.Vr):Bool:=Md.nameB v.name.data.toList&&Md.boundsB v.lo v.hi
theorem y4V (v:Md.Vr):((Md.check ⟨[v],[],false,[]⟩).2==0)=Yh v:=by
  have hf:Md.vFault [v] 0=Md.varFault v []:=rfl
  have hq:Md.varFault v []=if !Md.nameB v.name.data.toList then 41 else if !Md.boundsB v.lo v.hi then 42 else 0:=by
    unfold Md.varFault Md.seenB
    simp
  unfold Yh
  cases h1:Md.nameB v.name.data.toList with
  | false =>
    have e:Md.varFault v []=41:=by rw [hq,h1];rfl
    have:Md.check ⟨[v],[],false,[]⟩=(0,41):=by
      rw [ZO (m:=⟨[v],[],false,[]⟩) (i:=0) rfl (by simp) (by rw [hf,e];decide) (fun j hj=>by omega)]
      show (((0:Nat):Int),Md.vFault [v] 0)=_
      rw [hf,e];rfl
    rw [this];rfl
  | true =>
    cases h2:Md.boundsB v.lo v.hi with
    | false =>
      have e:Md.varFault v []=42:=by rw [hq,h1,h2];rfl
      have:Md.check ⟨[v],[],false,[]⟩=(0,42):=by
        rw [ZO (m:=⟨[v],[],false,[]⟩) (i:=0) rfl (by simp) (by rw [hf,e];decide) (fun j hj=>by omega)]
        show (((0:Nat):Int),Md.vFault [v] 0)=_
        rw [hf,e];rfl
      rw [this];rfl
    | true =>
      have e:Md.varFault v []=0:=by rw [hq,h1,h2];rfl
      have:Md.check ⟨[v],[],false,[]⟩=(0,0):=by
        refine Q4 (m:=⟨[v],[],false,[]⟩) rfl (fun j hj=>?_) (by simp) (fun j hj=>by simp at hj) rfl
        have hj0:j=0:=by simp at hj;omega
        subst hj0
        exact hf.trans e
      rw [this];rfl
theorem QQ (v:Md.Vr) (w:World) (hs:v.name.size<=maxLen):Calls Tryz.prog 168 #[.agg #[.string v.name,.int .i64 v.lo,.int .i64 v.hi]] w fun e w'=>e=.returned (.bool (Yh v))/\Below w.heap.size w w':=by
 obtain ⟨W1,hW1⟩:∃ W1,w.alloc (.cells #[.string v.name,.int .i64 v.lo,.int .i64 v.hi] 56)=W1:=⟨_,rfl⟩
 obtain ⟨W2,hW2⟩:∃ W2,W1.alloc (.cells #[.string v.name,.int .i64 v.lo,.int .i64 v.hi] 56)=W2:=⟨_,rfl⟩
 have hb1:Below w.heap.size w W1:=by rw [<-hW1];exact (Below.refl _ _).alloc (Nat.le_refl _) _
 have hb2:Below W1.heap.size W1 W2:=by rw [<-hW2];exact (Below.refl _ _).alloc (Nat.le_refl _) _
 have HB:Hid (Below w.heap.size w W2):=yj hb1 hb2
 have hl1:W1.heap[w.heap.size]?=some (.cells #[.string v.name,.int .i64 v.lo,.int .i64 v.hi] 56):=by rw [<-hW1];exact heap_alloc_new w _
 have hl2:W2.heap[W1.heap.size]?=some (.cells #[.string v.name,.int .i64 v.lo,.int .i64 v.hi] 56):=by rw [<-hW2];exact heap_alloc_new W1 _
 have c0:W1.cell? ⟨w.heap.size,0,none⟩=some (.string v.name):=by rw [yd hl1 0];rfl
 have c1:W1.cell? ⟨w.heap.size,1,none⟩=some (.int .i64 v.lo):=by rw [yd hl1 1];rfl
 have c2:W1.cell? ⟨w.heap.size,2,none⟩=some (.int .i64 v.hi):=by rw [yd hl1 2];rfl
 have hv:VarsAt W2 (.slice (some ⟨W1.heap.size,0,none⟩) 1 1) [v]:=by
  refine ⟨_,1,rfl,by unfold maxLen;simp,fun x hx=>by rw [List.mem_singleton.1 hx];exact hs,fun _=>⟨_,0,rfl,(Array.getElem?_eq_some_iff.1 hl2).1,fun j hj=>?_⟩⟩
  have hj0:j=0:=by simp at hj;omega
  subst hj0
  refine ⟨?_,?_,?_⟩ <;> simp [yd hl2]
 have HC:Hid (Calls Tryz.prog 15 #[.agg #[.slice (some ⟨W1.heap.size,0,none⟩) 1 1,.slice none 0 0,.bool false,.slice none 0 0]] W2 fun e w'=>e=.returned (.tuple #[.int .i64 (Md.check ⟨[v],[],false,[]⟩).1,.int .i64 (Md.check ⟨[v],[],false,[]⟩).2])/\Below W2.heap.size W2 w'):=
  ZP ⟨[v],[],false,[]⟩ _ _ _ W2 ⟨hv,fun a n cp e=>by injection e with _ e1 e2;omega,⟨none,0,rfl,Nat.zero_le _,fun h=>by simp at h⟩,⟨none,0,rfl,Nat.zero_le _,fun h=>by simp at h⟩⟩
 have HK:Hid (((Md.check ⟨[v],[],false,[]⟩).2==0)=Yh v):=y4V v
 obtain ⟨p,hp⟩:∃ p,Md.check ⟨[v],[],false,[]⟩=p:=⟨_,rfl⟩
 rw [hp] at HC HK
 clear hb1 hb2 hl1 hl2 hv hs hp
 go_enter Tryz.func168,Tryz.ntmps168
 go_wp2_with fail
 refine cZ HC.out ?_
 rintro e w' ⟨rfl,hb⟩
 go_wp2_with fail
 go_ret
 exact ⟨yM HK.out,yj HB.out hb⟩
end Go.Proofs.YthohnmplbjhjaaaGreatDoor

namespace Go.Proofs.YthohnmplbjhjaaaGreatDoor
open Go Go.RowKit
set_option maxHeartbeats 2000000
set_option maxRecDepth 10000
theorem y4h {V:List Md.Vr} {x:List UInt8} {k:Nat} (h:k<V.length) (ha:(V.take k).findIdx? (fun v=>v.name.data.toList==x)=none) (hp:(V[k].name.data.toList==x)=false):(V.take (k+1)).findIdx? (fun v=>v.name.data.toList==x)=none:=by
 rw [List.take_succ_eq_append_getElem h,List.findIdx?_append,ha]
 simp [hp]
theorem y4i {V:List Md.Vr} {x:List UInt8} {k:Nat} (h:k<V.length) (ha:(V.take k).findIdx? (fun v=>v.name.data.toList==x)=none) (hp:(V[k].name.data.toList==x)=true):yR V x=(k:Int):=by
 have e:V=V.take k++V[k] :: V.drop (k+1):=by rw [List.getElem_cons_drop,List.take_append_drop]
 have hl:(V.take k).length=k:=by rw [List.length_take];omega
 have hf:(V.take k++V[k] :: V.drop (k+1)).findIdx? (fun v=>v.name.data.toList==x)=some k:=by
  rw [List.findIdx?_append,ha,List.findIdx?_cons,hp,hl]
  simp
 rw [<-e] at hf
 unfold yR
 rw [hf]
theorem y4j {V:List Md.Vr} {x:List UInt8} (h:V.findIdx? (fun v=>v.name.data.toList==x)=none):yR V x=-1:=by unfold yR;rw [h]
theorem VarsAt.mono_low {w w':World} {v:Value} {l:List Md.Vr} (h:VarsAt w v l) (hb:Below w.heap.size w w'):VarsAt w' v l:=h.below hb
theorem y4k (v:Md.Vr) (s:ByteArray) (p:Nat) (w:World) (hp:w.cell? ⟨p,0,none⟩=some (.string s)) (hpl:p<w.heap.size) :
  Calls Tryz.prog 183 #[Yq v,.pointer (some ⟨p,0,none⟩)] w fun e w'=>e=.returned (.bool (v.name.toList==s.toList))/\Below w.heap.size w w':=by
 obtain ⟨W,hW⟩:∃ W,w.alloc (.cells #[.string v.name,.int .i64 v.lo,.int .i64 v.hi] 56)=W:=⟨_,rfl⟩
 have hbW:Below w.heap.size w W:=by rw [<-hW];exact (Below.refl _ _).alloc (Nat.le_refl _) _
 have c0:W.cell? ⟨w.heap.size,0,none⟩=some (.string v.name):=by rw [<-hW];simp
 have c1:=(hbW.cell (p:=⟨p,0,none⟩) hpl).trans hp
 have HB:Hid (Below w.heap.size w W):=hbW
 unfold Yq
 clear hbW
 go_enter Tryz.func183,Tryz.ntmps183
 go_wp2
 go_ret
 exact ⟨rfl,HB.out⟩
theorem y4l (va:Value) (l:List Md.Vr) (x:List UInt8) (p:Nat) (w:World) (hv:VarsAt w va l) (hp:w.cell? ⟨p,0,none⟩=some (.string (yc x))) (hpl:p<w.heap.size) :
  Calls Tryz.prog 113 #[va,.func (.func 183) #[] #[.pointer (some ⟨p,0,none⟩)]] w fun e w'=>e=.returned (.int .i64 (yR l x))/\Below w.heap.size w w':=by
 obtain ⟨s,hs⟩:∃ s,yc x=s:=⟨_,rfl⟩
 have hsx:∀ t:ByteArray,(t.toList==s.toList)=(t.data.toList==x):=fun t=>by rw [<-hs,Lib.toList_data,Lib.toList_data,zz]
 rw [hs] at hp
 have HH:Hid (∀ (w':World) (v:Md.Vr),Below w.heap.size w w'->Calls Tryz.prog 183 #[.agg #[.string v.name,.int .i64 v.lo,.int .i64 v.hi],.pointer (some ⟨p,0,none⟩)] w' fun e w''=>e=.returned (.bool (v.name.data.toList==x))/\Below w'.heap.size w' w''):=fun w' v hb=>by
  have:=y4k v s p w' ((hb.cell (p:=⟨p,0,none⟩) hpl).trans hp) (Nat.lt_of_lt_of_le hpl hb.size)
  rw [hsx] at this
  exact this
 obtain ⟨a,cap,rfl,hm,_,hc⟩:=hv
 unfold maxLen at hm
 have HC:Hid (0<l.length->∃ b off,a=some ⟨b,off,none⟩/\b<w.heap.size/\∀ j (h:j<l.length),w.cell? ⟨b,off+j * 3,none⟩=some (.string l[j].name)/\w.cell? ⟨b,off+j * 3+1,none⟩=some (.int .i64 l[j].lo)/\w.cell? ⟨b,off+j * 3+2,none⟩=some (.int .i64 l[j].hi)):=hc
 clear hc hp hpl hs hsx
 go_enter Tryz.func113,Tryz.ntmps113
 go_wp2
 go_loopw [8] (fun iv wr=>∃ k:Nat,iv=.int .i64 (k:Int)/\k<=l.length/\Hid ((l.take k).findIdx? (fun v=>v.name.data.toList==x)=none)/\Hid (Below w.heap.size w wr)) (fun iv _=>l.length-(intOf iv).toNat)
 case atStart=>exact ⟨0,rfl,Nat.zero_le _,(show _=_ by simp),Below.refl _ _⟩
 case round=>
  obtain ⟨k,rfl,hk,hA,hB⟩:=hrel
  by_cases hlt:k<l.length
  ·have hkI:(k:Int)<(l.length:Int):=by omega
   obtain ⟨b,off,rfl,hb,hc⟩:=HC.out (by omega)
   obtain ⟨d0,d1,d2⟩:=hc k hlt
   have e0:=(hB.out.cell (p:=⟨b,off+k * 3,none⟩) hb).trans d0
   have e1:=(hB.out.cell (p:=⟨b,off+k * 3+1,none⟩) hb).trans d1
   have e2:=(hB.out.cell (p:=⟨b,off+k * 3+2,none⟩) hb).trans d2
   have HU:Hid (Calls Tryz.prog 183 #[.agg #[.string l[k].name,.int .i64 l[k].lo,.int .i64 l[k].hi],.pointer (some ⟨p,0,none⟩)] wr fun e w''=>e=.returned (.bool (l[k].name.data.toList==x))/\Below wr.heap.size wr w''):=HH.out wr l[k] hB.out
   clear hc d0 d1 d2
   cases hp:(l[k].name.data.toList==x)
   ·have hnx:Hid ((l.take (k+1)).findIdx? (fun v=>v.name.data.toList==x)=none):=y4h hlt hA.out hp
    rw [hp] at HU
    clear hp
    generalize l[k]=y at *
    go_wp2_with (go_at_call 183;refine cZ HU.out ?_;rintro e w2 ⟨rfl,hb2⟩)
    go_roundw
    case rel=>exact ⟨k+1,by go_num,by omega,hnx,hB.out.trans (hb2.mono hB.out.size)⟩
    case measure=>simp [intOf];omega
   ·have hres:Hid (yR l x=(k:Int)):=y4i hlt hA.out hp
    rw [hp] at HU
    clear hp
    generalize l[k]=y at *
    go_wp2_with (go_at_call 183;refine cZ HU.out ?_;rintro e w2 ⟨rfl,hb2⟩)
    go_ret
    exact ⟨yA hres.out.symm,hB.out.trans (hb2.mono hB.out.size)⟩
  ·have hkI:¬ (k:Int)<(l.length:Int):=by omega
   have hres:Hid (yR l x=-1):=y4j (by have:=hA.out;rwa [List.take_of_length_le (by omega)] at this)
   go_wp2
   go_ret
   exact ⟨yA hres.out.symm,hB.out⟩
theorem QO {w0:World} {V:List Md.Vr} {va:Value} {b:Nat} {s:St} (x:List UInt8) (w:World) (h:Ln w0 V va b s w):Calls Tryz.prog 164 #[.pointer (some ⟨b,0,none⟩),.string (yc x)] w fun e w'=>e=.returned (.int .i64 (yR V x))/\Below w.heap.size w w':=by
 obtain ⟨W1,hW1⟩:∃ W1,w.alloc (.cells #[.string (yc x)] 9)=W1:=⟨_,rfl⟩
 have hb1:Below w.heap.size w W1:=by rw [<-hW1];exact (Below.refl _ _).alloc (Nat.le_refl _) _
 have hs1:W1.heap.size=w.heap.size+1:=by rw [<-hW1];simp
 have hln:=h.below hb1
 have c0:=hln.c0
 have cx:W1.cell? ⟨w.heap.size,0,none⟩=some (.string (yc x)):=by rw [<-hW1,yd (heap_alloc_new w _) 0];rfl
 have HC:Hid (Calls Tryz.prog 113 #[va,.func (.func 183) #[] #[.pointer (some ⟨w.heap.size,0,none⟩)]] W1 fun e w'=>e=.returned (.int .i64 (yR V x))/\Below W1.heap.size W1 w'):=y4l va V x w.heap.size W1 (hln.V.mono_low hln.way.low) cx (by omega)
 have HB:Hid (Below w.heap.size w W1):=hb1
 clear hb1 hs1 hln h
 go_enter Tryz.func164,Tryz.ntmps164
 go_wp2_with fail
 refine cZ HC.out ?_
 rintro e w' ⟨rfl,hb⟩
 go_wp2_with fail
 go_ret
 exact ⟨rfl,yj HB.out hb⟩
theorem QP (x:List UInt8) (w:World) (hx:x.length<=70000):Calls Tryz.prog 165 #[.string (yc x)] w fun e w'=>e=.returned (.bool (Md.nameB x))/\Below w.heap.size w w':=by
 have HR:Hid (Calls Tryz.prog 168 #[.agg #[.string (yc x),.int .i64 0,.int .i64 0]] w fun e w'=>e=.returned (.bool (Md.nameB x))/\Below w.heap.size w w'):=by
  have:=QQ ⟨yc x,0,0⟩ w (by show (yc x).size<=_;rw [zI];unfold maxLen;omega)
  have e:Yh ⟨yc x,0,0⟩=Md.nameB x:=by
   show (Md.nameB (yc x).data.toList&&Md.boundsB 0 0)=_
   rw [zz]
   simp [Md.boundsB,Md.numB]
  rw [e] at this
  exact this
 go_enter Tryz.func165,Tryz.ntmps165
 go_wp2_with fail
 refine cZ HR.out ?_
 rintro e w' ⟨rfl,hb⟩
 go_wp2_with fail
 go_ret
 exact ⟨rfl,hb⟩
theorem X5 {w0:World} {V:List Md.Vr} {va:Value} {b:Nat} {s:St} (x:List UInt8) (w:World) (h:Ln w0 V va b s w) (hx:x.length<=70000):Calls Tryz.prog 123 #[.pointer (some ⟨b,0,none⟩),.string (yc x)] w (RO w0 V va b (.int .i64 (yE V x s).1) (yE V x s).2 w):=by
 have HP:Hid (Calls Tryz.prog 164 #[.pointer (some ⟨b,0,none⟩),.string (yc x)] w fun e w'=>e=.returned (.int .i64 (yR V x))/\Below w.heap.size w w'):=QO x w h
 have HI:Hid (∀ w',Calls Tryz.prog 165 #[.string (yc x)] w' fun e w2=>e=.returned (.bool (Md.nameB x))/\Below w'.heap.size w' w2):=fun w'=>QP x w' hx
 have HF:Hid (∀ (e:Int) (t:St) w',Ln w0 V va b t w'->Calls Tryz.prog 109 #[.pointer (some ⟨b,0,none⟩),.int .i64 e] w' (RO w0 V va b (.tuple #[]) (yh e t) w')):=fun e t w' h'=>zC e w' h'
 have HL:Hid (Ln w0 V va b s w):=h
 unfold yE
 obtain ⟨p,hp⟩:∃ p,yR V x=p:=⟨_,rfl⟩
 rw [hp] at HP ⊢
 clear h hp
 cases hn:Md.nameB x <;> by_cases h0:p<0
 all_goals
  rw [hn] at HI
  first | rw [if_pos h0] | rw [if_neg h0]
  simp only [if_true,if_false,Bool.false_eq_true]
  go_enter Tryz.func123,Tryz.ntmps123
  go_wp2_with fail
  refine cZ HP.out ?_
  rintro e w1 ⟨rfl,hb1⟩
  have HL1:Hid (Ln w0 V va b s w1):=HL.out.below hb1
  have HO1:Hid (Ofw (fun k=>k=b) w w1):=Ofw.of_below hb1
  clear hb1
  go_wp2_with fail
  refine cZ (HI.out w1) ?_
  rintro e w2 ⟨rfl,hb2⟩
  have HL2:Hid (Ln w0 V va b s w2):=HL1.out.below hb2
  have HO2:Hid (Ofw (fun k=>k=b) w w2):=HO1.out.trans (Ofw.of_below hb2)
  clear hb2
  go_wp2_with fail
 ·refine cZ (HF.out 54 s w2 HL2.out) ?_
  rintro e w3 ⟨rfl,h3,o3⟩
  go_wp2_with fail
  refine cZ (HF.out 56 _ w3 h3) ?_
  rintro e w4 ⟨rfl,h4,o4⟩
  go_wp2_with fail
  go_ret
  exact ⟨rfl,h4,(HO2.out.trans o3).trans o4⟩
 ·refine cZ (HF.out 54 s w2 HL2.out) ?_
  rintro e w3 ⟨rfl,h3,o3⟩
  go_wp2_with fail
  go_ret
  exact ⟨rfl,h3,HO2.out.trans o3⟩
 ·refine cZ (HF.out 56 s w2 HL2.out) ?_
  rintro e w3 ⟨rfl,h3,o3⟩
  go_wp2_with fail
  go_ret
  exact ⟨rfl,h3,HO2.out.trans o3⟩
 ·go_ret
  exact ⟨rfl,HL2.out,HO2.out⟩
theorem xS {w0:World} {V:List Md.Vr} {va:Value} {b:Nat} {s:St} (w:World) (h:Ln w0 V va b s w):Calls Tryz.prog 71 #[.pointer (some ⟨b,0,none⟩)] w (RO w0 V va b (.int .i64 (yz V s).1) (yz V s).2 w):=by
 have HN:Hid (Calls Tryz.prog 124 #[.pointer (some ⟨b,0,none⟩)] w (RO w0 V va b (.string (yc (ye s).1)) (ye s).2 w)):=xq w h
 have HV:Hid (∀ w',Ln w0 V va b (ye s).2 w'->Calls Tryz.prog 123 #[.pointer (some ⟨b,0,none⟩),.string (yc (ye s).1)] w' (RO w0 V va b (.int .i64 (yz V s).1) (yz V s).2 w')):=fun w' h'=>X5 _ w' h' (zV h.n).1
 clear h
 go_enter Tryz.func71,Tryz.ntmps71
 go_wp2_with fail
 refine cZ HN.out ?_
 rintro e w1 ⟨rfl,h1,o1⟩
 go_wp2_with fail
 refine cZ (HV.out w1 h1) ?_
 rintro e w2 ⟨rfl,h2,o2⟩
 go_wp2_with fail
 go_ret
 exact ⟨rfl,h2,o1.trans o2⟩
theorem y4m (s:ByteArray) (w:World) (hs:s.size<=9000000):Calls Tryz.prog 166 #[.string s] w fun e w'=>e=.returned (.string s)/\Below w.heap.size w w':=by
 have HC:Hid (Calls Tryz.prog 184 #[.string s] w fun e w'=>e=.returned (.string s)/\Below w.heap.size w w'):=Tryz.stringslite_Clone s w (by omega)
 go_enter Tryz.func166,Tryz.ntmps166
 go_wp2_with fail
 refine cZ HC.out ?_
 rintro e w1 ⟨rfl,h1⟩
 go_wp2_with fail
 go_ret
 exact ⟨rfl,h1⟩
theorem y4n {w0:World} {V:List Md.Vr} {va:Value} {b:Nat} {s:St} (w:World) (h:Ln w0 V va b s w):Calls Tryz.prog 126 #[.pointer (some ⟨b,0,none⟩)] w (RO w0 V va b (.string (yc (newT V s).1)) (newT V s).2 w):=by
 have HN:Hid (Calls Tryz.prog 124 #[.pointer (some ⟨b,0,none⟩)] w (RO w0 V va b (.string (yc (ye s).1)) (ye s).2 w)):=xq w h
 have hl:=(zV h.n).1
 unfold newT
 obtain ⟨x,hx⟩:∃ x,(ye s).1=x:=⟨_,rfl⟩
 obtain ⟨t,ht⟩:∃ t,(ye s).2=t:=⟨_,rfl⟩
 rw [hx,ht] at HN ⊢
 rw [hx] at hl
 have HP:Hid (∀ (t':St) w',Ln w0 V va b t' w'->Calls Tryz.prog 164 #[.pointer (some ⟨b,0,none⟩),.string (yc x)] w' fun e w2=>e=.returned (.int .i64 (yR V x))/\Below w'.heap.size w' w2):=fun t' w' h'=>QO x w' h'
 have HI:Hid (∀ w',Calls Tryz.prog 165 #[.string (yc x)] w' fun e w2=>e=.returned (.bool (Md.nameB x))/\Below w'.heap.size w' w2):=fun w'=>QP x w' hl
 have HF:Hid (∀ (e:Int) (t:St) w',Ln w0 V va b t w'->Calls Tryz.prog 109 #[.pointer (some ⟨b,0,none⟩),.int .i64 e] w' (RO w0 V va b (.tuple #[]) (yh e t) w')):=fun e t w' h'=>zC e w' h'
 have HC:Hid (∀ w',Calls Tryz.prog 166 #[.string (yc x)] w' fun e w2=>e=.returned (.string (yc x))/\Below w'.heap.size w' w2):=fun w'=>y4m _ w' (by rw [zI];omega)
 obtain ⟨p,hp⟩:∃ p,yR V x=p:=⟨_,rfl⟩
 rw [hp] at HP ⊢
 clear h hp hx ht hl
 have tail:∀ (t1:St) w2,Ln w0 V va b t1 w2->Ofw (fun k=>k=b) w w2->True:=fun _ _ _ _=>trivial
 clear tail
 cases hn:Md.nameB x <;> by_cases h0:0<=p
 all_goals
  rw [hn] at HI
  first | rw [if_pos h0] | rw [if_neg h0]
  simp only [if_true,if_false,Bool.false_eq_true]
  go_enter Tryz.func126,Tryz.ntmps126
  go_wp2_with fail
  refine cZ HN.out ?_
  rintro e w1 ⟨rfl,h1,o1⟩
  have HL1:Hid (Ln w0 V va b t w1):=h1
  have HO1:Hid (Ofw (fun k=>k=b) w w1):=o1
  clear h1 o1
  go_wp2_with fail
  refine cZ (HI.out w1) ?_
  rintro e w2 ⟨rfl,hb2⟩
  have HL2:Hid (Ln w0 V va b t w2):=HL1.out.below hb2
  have HO2:Hid (Ofw (fun k=>k=b) w w2):=HO1.out.trans (Ofw.of_below hb2)
  clear hb2
  go_wp2_with fail
 ·refine cZ (HF.out 54 t w2 HL2.out) ?_
  rintro e w3 ⟨rfl,h3,o3⟩
  have H3:Hid (Ln w0 V va b (yh 54 t) w3/\Ofw (fun k=>k=b) w w3):=⟨h3,HO2.out.trans o3⟩
  clear h3 o3
  go_wp2_with fail
  refine cZ (HP.out _ w3 H3.out.1) ?_
  rintro e w4 ⟨rfl,hb4⟩
  have H4:Hid (Ln w0 V va b (yh 54 t) w4/\Ofw (fun k=>k=b) w w4):=⟨H3.out.1.below hb4,H3.out.2.trans (Ofw.of_below hb4)⟩
  clear hb4
  go_wp2_with fail
  refine cZ (HF.out 55 _ w4 H4.out.1) ?_
  rintro e w5 ⟨rfl,h5,o5⟩
  have H5:Hid (Ln w0 V va b (yh 55 (yh 54 t)) w5/\Ofw (fun k=>k=b) w w5):=⟨h5,H4.out.2.trans o5⟩
  clear h5 o5
  go_wp2_with fail
  refine cZ (HC.out w5) ?_
  rintro e w6 ⟨rfl,hb6⟩
  go_wp2_with fail
  go_ret
  exact ⟨rfl,H5.out.1.below hb6,H5.out.2.trans (Ofw.of_below hb6)⟩
 ·refine cZ (HF.out 54 t w2 HL2.out) ?_
  rintro e w3 ⟨rfl,h3,o3⟩
  have H3:Hid (Ln w0 V va b (yh 54 t) w3/\Ofw (fun k=>k=b) w w3):=⟨h3,HO2.out.trans o3⟩
  clear h3 o3
  go_wp2_with fail
  refine cZ (HP.out _ w3 H3.out.1) ?_
  rintro e w4 ⟨rfl,hb4⟩
  have H4:Hid (Ln w0 V va b (yh 54 t) w4/\Ofw (fun k=>k=b) w w4):=⟨H3.out.1.below hb4,H3.out.2.trans (Ofw.of_below hb4)⟩
  clear hb4
  go_wp2_with fail
  refine cZ (HC.out w4) ?_
  rintro e w6 ⟨rfl,hb6⟩
  go_wp2_with fail
  go_ret
  exact ⟨rfl,H4.out.1.below hb6,H4.out.2.trans (Ofw.of_below hb6)⟩
 ·refine cZ (HP.out _ w2 HL2.out) ?_
  rintro e w4 ⟨rfl,hb4⟩
  have H4:Hid (Ln w0 V va b t w4/\Ofw (fun k=>k=b) w w4):=⟨HL2.out.below hb4,HO2.out.trans (Ofw.of_below hb4)⟩
  clear hb4
  go_wp2_with fail
  refine cZ (HF.out 55 _ w4 H4.out.1) ?_
  rintro e w5 ⟨rfl,h5,o5⟩
  have H5:Hid (Ln w0 V va b (yh 55 t) w5/\Ofw (fun k=>k=b) w w5):=⟨h5,H4.out.2.trans o5⟩
  clear h5 o5
  go_wp2_with fail
  refine cZ (HC.out w5) ?_
  rintro e w6 ⟨rfl,hb6⟩
  go_wp2_with fail
  go_ret
  exact ⟨rfl,H5.out.1.below hb6,H5.out.2.trans (Ofw.of_below hb6)⟩
 ·refine cZ (HP.out _ w2 HL2.out) ?_
  rintro e w4 ⟨rfl,hb4⟩
  have H4:Hid (Ln w0 V va b t w4/\Ofw (fun k=>k=b) w w4):=⟨HL2.out.below hb4,HO2.out.trans (Ofw.of_below hb4)⟩
  clear hb4
  go_wp2_with fail
  refine cZ (HC.out w4) ?_
  rintro e w6 ⟨rfl,hb6⟩
  go_wp2_with fail
  go_ret
  exact ⟨rfl,H4.out.1.below hb6,H4.out.2.trans (Ofw.of_below hb6)⟩
end Go.Proofs.YthohnmplbjhjaaaGreatDoor

namespace Go.Proofs.YthohnmplbjhjaaaGreatDoor
open Go Go.RowKit
set_option maxRecDepth 10000
set_option maxHeartbeats 2000000
theorem QS {w0:World} {V:List Md.Vr} {va:Value} {b:Nat} {s:St} (w:World) (h:Ln w0 V va b s w):Calls Tryz.prog 80 #[.pointer (some ⟨b,0,none⟩)] w (RO w0 V va b (.int .i64 (rdOp s).1) (rdOp s).2 w):=by
 have HN:Hid (Calls Tryz.prog 124 #[.pointer (some ⟨b,0,none⟩)] w (RO w0 V va b (.string (yc (ye s).1)) (ye s).2 w)):=xq w h
 obtain ⟨x,hx⟩:∃ x,(ye s).1=x:=⟨_,rfl⟩
 obtain ⟨t,ht⟩:∃ t,(ye s).2=t:=⟨_,rfl⟩
 rw [hx,ht] at HN
 have HD:Hid ((rdOp s).1=opS x/\(rdOp s).2=if opS x=0 then yh 51 t else t):=by show _/\_;unfold rdOp;rw [hx,ht];exact ⟨rfl,rfl⟩
 obtain ⟨R,hR⟩:∃ R,rdOp s=R:=⟨_,rfl⟩
 rw [hR] at HD ⊢
 clear hR
 have q1:=YR x [60,61]
 have q2:=YR x [61]
 have q3:=YR x [62,61]
 have HF:Hid (∀ w',Ln w0 V va b t w'->Calls Tryz.prog 109 #[.pointer (some ⟨b,0,none⟩),.int .i64 51] w' (RO w0 V va b (.tuple #[]) (yh 51 t) w')):=fun w' h'=>zC 51 w' h'
 obtain ⟨X,hX⟩:∃ X,yc x=X:=⟨_,rfl⟩
 rw [hX] at HN q1 q2 q3
 clear h hx ht hX
 have HQ:Hid ((X.toList==[60,61])=decide (x=[60,61])/\(X.toList==[61])=decide (x=[61])/\(X.toList==[62,61])=decide (x=[62,61])):=⟨q1,q2,q3⟩
 clear q1 q2 q3
 go_enter Tryz.func80,Tryz.ntmps80
 go_wp2_with fail
 refine cZ HN.out ?_
 rintro e w1 ⟨rfl,h1,o1⟩
 have HL1:Hid (Ln w0 V va b t w1):=h1
 have HO1:Hid (Ofw (fun k=>k=b) w w1):=o1
 have g1:=h1.way.opw1
 have g2:=h1.way.opw2
 have g3:=h1.way.opw3
 clear h1 o1
 go_wp2_with fail
 go_loopw [4] (fun ov wr=>∃ k:Int,ov=.int .i64 k/\1<=k/\k<=4/\Hid ((1<k->x≠[60,61])/\(2<k->x≠[61])/\(3<k->x≠[62,61]))/\w1=wr) (fun ov _=>(4-intOf ov).toNat)
 case atStart=>exact ⟨1,rfl,by omega,by omega,⟨fun h=>by omega,fun h=>by omega,fun h=>by omega⟩,rfl⟩
 case round=>
  obtain ⟨k,rfl,hk1,hk4,hA,rfl⟩:=hrel
  obtain ⟨p1,p2,p3⟩:=HQ.out
  rcases (by omega:k=1∨k=2∨k=3∨k=4) with rfl | rfl | rfl | rfl
  ·clear p2 p3 hk1 hk4
   by_cases hx:x=[60,61]
   ·rw [decide_eq_true hx] at p1
    have HR:Hid (opS x=1):=by show _=_;unfold opS;rw [if_pos hx]
    clear hx
    go_wp2_with fail
    go_ret
    refine ⟨yA (HR.out.symm.trans HD.out.1.symm),?_,HO1.out⟩
    rw [HD.out.2,HR.out,if_neg (by decide)]
    exact HL1.out
   ·rw [decide_eq_false hx] at p1
    have HX:Hid (x≠[60,61]):=hx
    clear hx
    go_wp2_with fail
    go_roundw
    case rel=>exact ⟨2,rfl,by omega,by omega,⟨fun _=>HX.out,fun h=>by omega,fun h=>by omega⟩,by first | rfl | trivial⟩
    case measure=>simp [intOf]
  ·clear p1 p3 hk1 hk4
   by_cases hx:x=[61]
   ·rw [decide_eq_true hx] at p2
    have HR:Hid (opS x=2):=by show _=_;unfold opS;rw [if_neg (hA.out.1 (by omega)),if_pos hx]
    clear hx
    go_wp2_with fail
    go_ret
    refine ⟨yA (HR.out.symm.trans HD.out.1.symm),?_,HO1.out⟩
    rw [HD.out.2,HR.out,if_neg (by decide)]
    exact HL1.out
   ·rw [decide_eq_false hx] at p2
    have HX:Hid (x≠[61]):=hx
    clear hx
    go_wp2_with fail
    go_roundw
    case rel=>exact ⟨3,rfl,by omega,by omega,⟨fun _=>hA.out.1 (by omega),fun _=>HX.out,fun h=>by omega⟩,by first | rfl | trivial⟩
    case measure=>simp [intOf]
  ·clear p1 p2 hk1 hk4
   by_cases hx:x=[62,61]
   ·rw [decide_eq_true hx] at p3
    have HR:Hid (opS x=3):=by show _=_;unfold opS;rw [if_neg (hA.out.1 (by omega)),if_neg (hA.out.2.1 (by omega)),if_pos hx]
    clear hx
    go_wp2_with fail
    go_ret
    refine ⟨yA (HR.out.symm.trans HD.out.1.symm),?_,HO1.out⟩
    rw [HD.out.2,HR.out,if_neg (by decide)]
    exact HL1.out
   ·rw [decide_eq_false hx] at p3
    have HX:Hid (x≠[62,61]):=hx
    clear hx
    go_wp2_with fail
    go_roundw
    case rel=>exact ⟨4,rfl,by omega,by omega,⟨fun _=>hA.out.1 (by omega),fun _=>hA.out.2.1 (by omega),fun _=>HX.out⟩,by first | rfl | trivial⟩
    case measure=>simp [intOf]
  ·have HR:Hid (opS x=0):=by show _=_;unfold opS;rw [if_neg (hA.out.1 (by omega)),if_neg (hA.out.2.1 (by omega)),if_neg (hA.out.2.2 (by omega))]
   clear p1 p2 p3 hk1 hk4
   go_wp2_with fail
   refine cZ (HF.out _ HL1.out) ?_
   rintro e w2 ⟨rfl,h2,o2⟩
   go_wp2_with fail
   go_ret
   refine ⟨yA (HR.out.symm.trans HD.out.1.symm),?_,HO1.out.trans o2⟩
   rw [HD.out.2,HR.out,if_pos rfl]
   exact h2
theorem y4o (lo hi:Int):Yh ⟨⟨#[120]⟩,lo,hi⟩=Md.boundsB lo hi:=by
 unfold Yh
 have:Md.nameB (⟨#[120]⟩:ByteArray).data.toList=true:=by decide
 show (Md.nameB (⟨#[120]⟩:ByteArray).data.toList&&Md.boundsB lo hi)=_
 rw [this];rfl
theorem y4p {w0:World} {V:List Md.Vr} {va:Value} {b:Nat} {s:St} (w:World) (h:Ln w0 V va b s w):Calls Tryz.prog 127 #[.pointer (some ⟨b,0,none⟩)] w (RO w0 V va b (.tuple #[.int .i64 (zS s).1.1,.int .i64 (zS s).1.2]) (zS s).2 w):=by
 have HN:Hid (∀ t w',Ln w0 V va b t w'->Calls Tryz.prog 124 #[.pointer (some ⟨b,0,none⟩)] w' (RO w0 V va b (.string (yc (ye t).1)) (ye t).2 w')):=fun t w' h'=>xq w' h'
 have HV:Hid (∀ t w',t.1.length<=70000->Ln w0 V va b (ye t).2 w'->Calls Tryz.prog 167 #[.pointer (some ⟨b,0,none⟩),.string (yc (ye t).1)] w' (RO w0 V va b (.int .i64 (ym (ye t).1 (ye t).2).1) (ym (ye t).1 (ye t).2).2 w')):=fun t w' hl h'=>Xb _ w' h' (zV hl).1
 have HR:Hid (∀ lo hi w',Calls Tryz.prog 168 #[.agg #[.string ⟨#[120]⟩,.int .i64 lo,.int .i64 hi]] w' fun e w2=>e=.returned (.bool (Md.boundsB lo hi))/\Below w'.heap.size w' w2):=fun lo hi w'=>by
  have:=QQ ⟨⟨#[120]⟩,lo,hi⟩ w' (by show (1:Nat)<=maxLen;unfold maxLen;omega)
  rw [y4o] at this
  exact this
 have HF:Hid (∀ (t:St) w',Ln w0 V va b t w'->Calls Tryz.prog 109 #[.pointer (some ⟨b,0,none⟩),.int .i64 42] w' (RO w0 V va b (.tuple #[]) (yh 42 t) w')):=fun t w' h'=>zC 42 w' h'
 have HL:Hid (Ln w0 V va b s w):=h
 obtain ⟨n1,e1⟩:∃ n,(ym (ye s).1 (ye s).2).1=n:=⟨_,rfl⟩
 have HA:Hid ((rdLo s).1=n1/\(rdLo s).2=if Md.boundsB n1 n1=true then (ym (ye s).1 (ye s).2).2 else yh 42 (ym (ye s).1 (ye s).2).2):=by
  refine ⟨e1,?_⟩
  unfold rdLo
  simp only [e1]
 obtain ⟨u,eu⟩:∃ u,(rdLo s).2=u:=⟨_,rfl⟩
 obtain ⟨n2,e2⟩:∃ n,(ym (ye u).1 (ye u).2).1=n:=⟨_,rfl⟩
 have HB:Hid (zS s=((n1,n2),if Md.boundsB n1 n2=true then (ym (ye u).1 (ye u).2).2 else yh 42 (ym (ye u).1 (ye u).2).2)):=by
  show _=_
  unfold zS rdHi
  rw [HA.out.1,eu]
  simp only [e2]
 have HU:Hid (u=if Md.boundsB n1 n1=true then (ym (ye s).1 (ye s).2).2 else yh 42 (ym (ye s).1 (ye s).2).2):=eu.symm.trans HA.out.2
 have HE1:Hid ((ym (ye s).1 (ye s).2).1=n1):=e1
 have HE2:Hid ((ym (ye u).1 (ye u).2).1=n2):=e2
 clear h e1 e2 eu HA
 cases hb1:Md.boundsB n1 n1 <;> cases hb2:Md.boundsB n1 n2
 ·rw [hb1] at HU
  rw [hb2] at HB
  rw [if_neg (by decide)] at HU
  rw [if_neg (by decide)] at HB
  have HR1:Hid (∀ w',Calls Tryz.prog 168 #[.agg #[.string ⟨#[120]⟩,.int .i64 n1,.int .i64 n1]] w' fun e w2=>e=.returned (.bool false)/\Below w'.heap.size w' w2):=fun w'=>by
   have:=HR.out n1 n1 w'
   rw [hb1] at this
   exact this
  have HR2:Hid (∀ w',Calls Tryz.prog 168 #[.agg #[.string ⟨#[120]⟩,.int .i64 n1,.int .i64 n2]] w' fun e w2=>e=.returned (.bool false)/\Below w'.heap.size w' w2):=fun w'=>by
   have:=HR.out n1 n2 w'
   rw [hb2] at this
   exact this
  clear hb1 hb2 HR
  rw [HB.out]
  go_enter Tryz.func127,Tryz.ntmps127
  go_wp2_with fail
  refine cZ (HN.out s w HL.out) ?_
  rintro e w1 ⟨rfl,h1,o1⟩
  have H1:Hid (Ln w0 V va b (ye s).2 w1/\Ofw (fun k=>k=b) w w1):=⟨h1,o1⟩
  clear h1 o1
  go_wp2_with fail
  refine cZ (HV.out s w1 HL.out.n H1.out.1) ?_
  rintro e w2 ⟨he,h2,o2⟩
  rw [HE1.out] at he
  subst he
  have H2:Hid (Ln w0 V va b (ym (ye s).1 (ye s).2).2 w2/\Ofw (fun k=>k=b) w w2):=⟨h2,H1.out.2.trans o2⟩
  clear h2 o2
  go_wp2_with fail
  refine cZ (HR1.out w2) ?_
  rintro e w3 ⟨rfl,hb3⟩
  have H3:Hid (Ln w0 V va b (ym (ye s).1 (ye s).2).2 w3/\Ofw (fun k=>k=b) w w3):=⟨H2.out.1.below hb3,H2.out.2.trans (Ofw.of_below hb3)⟩
  clear hb3
  go_wp2_with fail
  refine cZ (HF.out _ w3 H3.out.1) ?_
  rintro e w4 ⟨rfl,h4,o4⟩
  have H4:Hid (Ln w0 V va b u w4/\Ofw (fun k=>k=b) w w4):=⟨by rw [HU.out];exact h4,H3.out.2.trans o4⟩
  clear h4 o4
  go_wp2_with fail
  refine cZ (HN.out u w4 H4.out.1) ?_
  rintro e w5 ⟨rfl,h5,o5⟩
  have H5:Hid (Ln w0 V va b (ye u).2 w5/\Ofw (fun k=>k=b) w w5):=⟨h5,H4.out.2.trans o5⟩
  clear h5 o5
  go_wp2_with fail
  refine cZ (HV.out u w5 H4.out.1.n H5.out.1) ?_
  rintro e w6 ⟨he,h6,o6⟩
  rw [HE2.out] at he
  subst he
  have H6:Hid (Ln w0 V va b (ym (ye u).1 (ye u).2).2 w6/\Ofw (fun k=>k=b) w w6):=⟨h6,H5.out.2.trans o6⟩
  clear h6 o6
  go_wp2_with fail
  refine cZ (HR2.out w6) ?_
  rintro e w7 ⟨rfl,hb7⟩
  have H7:Hid (Ln w0 V va b (ym (ye u).1 (ye u).2).2 w7/\Ofw (fun k=>k=b) w w7):=⟨H6.out.1.below hb7,H6.out.2.trans (Ofw.of_below hb7)⟩
  clear hb7
  go_wp2_with fail
  refine cZ (HF.out _ w7 H7.out.1) ?_
  rintro e w8 ⟨rfl,h8,o8⟩
  go_wp2_with fail
  go_ret2
  exact ⟨rfl,h8,H7.out.2.trans o8⟩
 ·rw [hb1] at HU
  rw [hb2] at HB
  rw [if_neg (by decide)] at HU
  rw [if_pos rfl] at HB
  have HR1:Hid (∀ w',Calls Tryz.prog 168 #[.agg #[.string ⟨#[120]⟩,.int .i64 n1,.int .i64 n1]] w' fun e w2=>e=.returned (.bool false)/\Below w'.heap.size w' w2):=fun w'=>by
   have:=HR.out n1 n1 w'
   rw [hb1] at this
   exact this
  have HR2:Hid (∀ w',Calls Tryz.prog 168 #[.agg #[.string ⟨#[120]⟩,.int .i64 n1,.int .i64 n2]] w' fun e w2=>e=.returned (.bool true)/\Below w'.heap.size w' w2):=fun w'=>by
   have:=HR.out n1 n2 w'
   rw [hb2] at this
   exact this
  clear hb1 hb2 HR
  rw [HB.out]
  go_enter Tryz.func127,Tryz.ntmps127
  go_wp2_with fail
  refine cZ (HN.out s w HL.out) ?_
  rintro e w1 ⟨rfl,h1,o1⟩
  have H1:Hid (Ln w0 V va b (ye s).2 w1/\Ofw (fun k=>k=b) w w1):=⟨h1,o1⟩
  clear h1 o1
  go_wp2_with fail
  refine cZ (HV.out s w1 HL.out.n H1.out.1) ?_
  rintro e w2 ⟨he,h2,o2⟩
  rw [HE1.out] at he
  subst he
  have H2:Hid (Ln w0 V va b (ym (ye s).1 (ye s).2).2 w2/\Ofw (fun k=>k=b) w w2):=⟨h2,H1.out.2.trans o2⟩
  clear h2 o2
  go_wp2_with fail
  refine cZ (HR1.out w2) ?_
  rintro e w3 ⟨rfl,hb3⟩
  have H3:Hid (Ln w0 V va b (ym (ye s).1 (ye s).2).2 w3/\Ofw (fun k=>k=b) w w3):=⟨H2.out.1.below hb3,H2.out.2.trans (Ofw.of_below hb3)⟩
  clear hb3
  go_wp2_with fail
  refine cZ (HF.out _ w3 H3.out.1) ?_
  rintro e w4 ⟨rfl,h4,o4⟩
  have H4:Hid (Ln w0 V va b u w4/\Ofw (fun k=>k=b) w w4):=⟨by rw [HU.out];exact h4,H3.out.2.trans o4⟩
  clear h4 o4
  go_wp2_with fail
  refine cZ (HN.out u w4 H4.out.1) ?_
  rintro e w5 ⟨rfl,h5,o5⟩
  have H5:Hid (Ln w0 V va b (ye u).2 w5/\Ofw (fun k=>k=b) w w5):=⟨h5,H4.out.2.trans o5⟩
  clear h5 o5
  go_wp2_with fail
  refine cZ (HV.out u w5 H4.out.1.n H5.out.1) ?_
  rintro e w6 ⟨he,h6,o6⟩
  rw [HE2.out] at he
  subst he
  have H6:Hid (Ln w0 V va b (ym (ye u).1 (ye u).2).2 w6/\Ofw (fun k=>k=b) w w6):=⟨h6,H5.out.2.trans o6⟩
  clear h6 o6
  go_wp2_with fail
  refine cZ (HR2.out w6) ?_
  rintro e w7 ⟨rfl,hb7⟩
  have H7:Hid (Ln w0 V va b (ym (ye u).1 (ye u).2).2 w7/\Ofw (fun k=>k=b) w w7):=⟨H6.out.1.below hb7,H6.out.2.trans (Ofw.of_below hb7)⟩
  clear hb7
  go_wp2_with fail
  go_ret2
  exact ⟨rfl,H7.out.1,H7.out.2⟩
 ·rw [hb1] at HU
  rw [hb2] at HB
  rw [if_pos rfl] at HU
  rw [if_neg (by decide)] at HB
  have HR1:Hid (∀ w',Calls Tryz.prog 168 #[.agg #[.string ⟨#[120]⟩,.int .i64 n1,.int .i64 n1]] w' fun e w2=>e=.returned (.bool true)/\Below w'.heap.size w' w2):=fun w'=>by
   have:=HR.out n1 n1 w'
   rw [hb1] at this
   exact this
  have HR2:Hid (∀ w',Calls Tryz.prog 168 #[.agg #[.string ⟨#[120]⟩,.int .i64 n1,.int .i64 n2]] w' fun e w2=>e=.returned (.bool false)/\Below w'.heap.size w' w2):=fun w'=>by
   have:=HR.out n1 n2 w'
   rw [hb2] at this
   exact this
  clear hb1 hb2 HR
  rw [HB.out]
  go_enter Tryz.func127,Tryz.ntmps127
  go_wp2_with fail
  refine cZ (HN.out s w HL.out) ?_
  rintro e w1 ⟨rfl,h1,o1⟩
  have H1:Hid (Ln w0 V va b (ye s).2 w1/\Ofw (fun k=>k=b) w w1):=⟨h1,o1⟩
  clear h1 o1
  go_wp2_with fail
  refine cZ (HV.out s w1 HL.out.n H1.out.1) ?_
  rintro e w2 ⟨he,h2,o2⟩
  rw [HE1.out] at he
  subst he
  have H2:Hid (Ln w0 V va b (ym (ye s).1 (ye s).2).2 w2/\Ofw (fun k=>k=b) w w2):=⟨h2,H1.out.2.trans o2⟩
  clear h2 o2
  go_wp2_with fail
  refine cZ (HR1.out w2) ?_
  rintro e w3 ⟨rfl,hb3⟩
  have H3:Hid (Ln w0 V va b (ym (ye s).1 (ye s).2).2 w3/\Ofw (fun k=>k=b) w w3):=⟨H2.out.1.below hb3,H2.out.2.trans (Ofw.of_below hb3)⟩
  clear hb3
  go_wp2_with fail
  have H4:Hid (Ln w0 V va b u w3/\Ofw (fun k=>k=b) w w3):=⟨by rw [HU.out];exact H3.out.1,H3.out.2⟩
  refine cZ (HN.out u w3 H4.out.1) ?_
  rintro e w5 ⟨rfl,h5,o5⟩
  have H5:Hid (Ln w0 V va b (ye u).2 w5/\Ofw (fun k=>k=b) w w5):=⟨h5,H4.out.2.trans o5⟩
  clear h5 o5
  go_wp2_with fail
  refine cZ (HV.out u w5 H4.out.1.n H5.out.1) ?_
  rintro e w6 ⟨he,h6,o6⟩
  rw [HE2.out] at he
  subst he
  have H6:Hid (Ln w0 V va b (ym (ye u).1 (ye u).2).2 w6/\Ofw (fun k=>k=b) w w6):=⟨h6,H5.out.2.trans o6⟩
  clear h6 o6
  go_wp2_with fail
  refine cZ (HR2.out w6) ?_
  rintro e w7 ⟨rfl,hb7⟩
  have H7:Hid (Ln w0 V va b (ym (ye u).1 (ye u).2).2 w7/\Ofw (fun k=>k=b) w w7):=⟨H6.out.1.below hb7,H6.out.2.trans (Ofw.of_below hb7)⟩
  clear hb7
  go_wp2_with fail
  refine cZ (HF.out _ w7 H7.out.1) ?_
  rintro e w8 ⟨rfl,h8,o8⟩
  go_wp2_with fail
  go_ret2
  exact ⟨rfl,h8,H7.out.2.trans o8⟩
 ·rw [hb1] at HU
  rw [hb2] at HB
  rw [if_pos rfl] at HU
  rw [if_pos rfl] at HB
  have HR1:Hid (∀ w',Calls Tryz.prog 168 #[.agg #[.string ⟨#[120]⟩,.int .i64 n1,.int .i64 n1]] w' fun e w2=>e=.returned (.bool true)/\Below w'.heap.size w' w2):=fun w'=>by
   have:=HR.out n1 n1 w'
   rw [hb1] at this
   exact this
  have HR2:Hid (∀ w',Calls Tryz.prog 168 #[.agg #[.string ⟨#[120]⟩,.int .i64 n1,.int .i64 n2]] w' fun e w2=>e=.returned (.bool true)/\Below w'.heap.size w' w2):=fun w'=>by
   have:=HR.out n1 n2 w'
   rw [hb2] at this
   exact this
  clear hb1 hb2 HR
  rw [HB.out]
  go_enter Tryz.func127,Tryz.ntmps127
  go_wp2_with fail
  refine cZ (HN.out s w HL.out) ?_
  rintro e w1 ⟨rfl,h1,o1⟩
  have H1:Hid (Ln w0 V va b (ye s).2 w1/\Ofw (fun k=>k=b) w w1):=⟨h1,o1⟩
  clear h1 o1
  go_wp2_with fail
  refine cZ (HV.out s w1 HL.out.n H1.out.1) ?_
  rintro e w2 ⟨he,h2,o2⟩
  rw [HE1.out] at he
  subst he
  have H2:Hid (Ln w0 V va b (ym (ye s).1 (ye s).2).2 w2/\Ofw (fun k=>k=b) w w2):=⟨h2,H1.out.2.trans o2⟩
  clear h2 o2
  go_wp2_with fail
  refine cZ (HR1.out w2) ?_
  rintro e w3 ⟨rfl,hb3⟩
  have H3:Hid (Ln w0 V va b (ym (ye s).1 (ye s).2).2 w3/\Ofw (fun k=>k=b) w w3):=⟨H2.out.1.below hb3,H2.out.2.trans (Ofw.of_below hb3)⟩
  clear hb3
  go_wp2_with fail
  have H4:Hid (Ln w0 V va b u w3/\Ofw (fun k=>k=b) w w3):=⟨by rw [HU.out];exact H3.out.1,H3.out.2⟩
  refine cZ (HN.out u w3 H4.out.1) ?_
  rintro e w5 ⟨rfl,h5,o5⟩
  have H5:Hid (Ln w0 V va b (ye u).2 w5/\Ofw (fun k=>k=b) w w5):=⟨h5,H4.out.2.trans o5⟩
  clear h5 o5
  go_wp2_with fail
  refine cZ (HV.out u w5 H4.out.1.n H5.out.1) ?_
  rintro e w6 ⟨he,h6,o6⟩
  rw [HE2.out] at he
  subst he
  have H6:Hid (Ln w0 V va b (ym (ye u).1 (ye u).2).2 w6/\Ofw (fun k=>k=b) w w6):=⟨h6,H5.out.2.trans o6⟩
  clear h6 o6
  go_wp2_with fail
  refine cZ (HR2.out w6) ?_
  rintro e w7 ⟨rfl,hb7⟩
  have H7:Hid (Ln w0 V va b (ym (ye u).1 (ye u).2).2 w7/\Ofw (fun k=>k=b) w w7):=⟨H6.out.1.below hb7,H6.out.2.trans (Ofw.of_below hb7)⟩
  clear hb7
  go_wp2_with fail
  go_ret2
  exact ⟨rfl,H7.out.1,H7.out.2⟩
theorem y49 {w0:World} {V:List Md.Vr} {va:Value} {b:Nat} {s:St} (x:List UInt8) (w:World) (h:Ln w0 V va b s w) (hx:x.length<=70000):Calls Tryz.prog 132 #[.pointer (some ⟨b,0,none⟩),.string (yc x)] w (RO w0 V va b (.agg #[.int .i64 (yO V x s).1.1,.int .i64 (yO V x s).1.2]) (yO V x s).2 w):=by
  obtain ⟨W1,hW1⟩:∃ W1,w.alloc (.cells #[.int .i64 0,.int .i64 0] 87)=W1:=⟨_,rfl⟩
  have hb1:Below w.heap.size w W1:=hW1▸(Below.refl _ _).alloc (Nat.le_refl _) _
  have hl1:W1.heap[w.heap.size]?=some (.cells #[.int .i64 0,.int .i64 0] 87):=by rw [<-hW1];exact heap_alloc_new w _
  have HW:Hid (Calls Tryz.prog 167 #[.pointer (some ⟨b,0,none⟩),.string (yc x)] W1 (RO w0 V va b (.int .i64 (ym x s).1) (ym x s).2 W1)):=Xb x W1 (h.below hb1) hx
  have HF:Hid (∀ (t:St) w',Ln w0 V va b t w'->Calls Tryz.prog 109 #[.pointer (some ⟨b,0,none⟩),.int .i64 45] w' (RO w0 V va b (.tuple #[]) (yh 45 t) w')):=fun t w' h'=>zC 45 w' h'
  have HN:Hid (∀ (t:St) w',Ln w0 V va b t w'->Calls Tryz.prog 71 #[.pointer (some ⟨b,0,none⟩)] w' (RO w0 V va b (.int .i64 (yz V t).1) (yz V t).2 w')):=fun t w' h'=>xS w' h'
  have hlt:=h.lt
  have hbg:=h.big
  have fin:Hid (∀ (t:St) w2,Ln w0 V va b t w2->Ofw (fun k=>k=b) w w2->Ln w0 V va b t w2/\Ofw (fun k=>k=b) w w2):=fun t w2 a c=>⟨a,c⟩
  clear fin
  have HH:Hid (∀ w2,Ofw (fun k=>k=b) W1 w2->w2.heap[w.heap.size]?=some (.cells #[.int .i64 0,.int .i64 0] 87)):=fun w2 ho2=>(ho2.block _ (Array.getElem?_eq_some_iff.1 hl1).1 (by omega)).trans hl1
  have HO0:Hid (Ofw (fun k=>k=b) w W1):=Ofw.of_below hb1
  obtain ⟨n,hn⟩:∃ n,(ym x s).1=n:=⟨_,rfl⟩
  obtain ⟨t,ht⟩:∃ t,(ym x s).2=t:=⟨_,rfl⟩
  rw [hn,ht] at HW
  have HD:Hid (yO V x s=((n,(yz V (cfT n t)).1),(yz V (cfT n t)).2)):=by show _=_;unfold yO;rw [hn,ht]
  obtain ⟨u,hu⟩:∃ u,cfT n t=u:=⟨_,rfl⟩
  have HU:Hid (u=if n=0∨n < -1000000∨1000000<n then yh 45 t else t):=hu.symm
  rw [hu] at HD
  rw [HD.out]
  clear h hn ht hu hb1 hl1
  have key:∀ (a c d:Bool),(n==0)=a->decide (n < -1000000)=c->decide (1000000<n)=d->Calls Tryz.prog 132 #[.pointer (some ⟨b,0,none⟩),.string (yc x)] w (RO w0 V va b (.agg #[.int .i64 n,.int .i64 (yz V u).1]) (yz V u).2 w):=by
    intro a c d ha hc hd
    have HU2:Hid (u=if (a||c||d)=true then yh 45 t else t):=by
      show u=_
      rw [HU.out,<-ha,<-hc,<-hd]
      simp only [Bool.or_eq_true,beq_iff_eq,decide_eq_true_eq,or_assoc]
    clear HU
    obtain ⟨X,hX⟩:∃ X,yc x=X:=⟨_,rfl⟩
    rw [hX] at HW ⊢
    clear hX
    cases a <;> cases c <;> cases d
    all_goals
      simp only [Bool.or_false,Bool.or_true,Bool.false_eq_true,if_true,if_false] at HU2
      go_enter Tryz.func132,Tryz.ntmps132
      go_wp2_with fail
      refine cZ HW.out ?_
      rintro e w2 ⟨rfl,h2,o2⟩
      have H2:Hid (Ln w0 V va b t w2/\Ofw (fun k=>k=b) W1 w2):=⟨h2,o2⟩
      clear h2 o2
      go_wp2_with fail
      first
        | (refine cZ (HF.out t w2 H2.out.1) ?_
           rintro e w3 ⟨rfl,h3,o3⟩
           have H3:Hid (Ln w0 V va b u w3/\Ofw (fun k=>k=b) W1 w3):=⟨by rw [HU2.out];exact h3,H2.out.2.trans o3⟩
           clear h3 o3 H2
           go_wp2_with fail)
        | (have H3:Hid (Ln w0 V va b u w2/\Ofw (fun k=>k=b) W1 w2):=⟨by rw [HU2.out];exact H2.out.1,H2.out.2⟩
           clear H2
           rename World=>w3)
      refine cZ (HN.out u w3 H3.out.1) ?_
      rintro e w4 ⟨rfl,h4,o4⟩
      have H4:Hid (Ln w0 V va b (yz V u).2 w4/\Ofw (fun k=>k=b) W1 w4):=⟨h4,H3.out.2.trans o4⟩
      clear h4 o4
      have k4:=HH.out w4 H4.out.2
      have c0:=yd k4 0
      have c1:=yd k4 1
      have z0:=yt k4 0
      have z1:=yt k4 1
      have K4:Hid (w4.heap[w.heap.size]?=some (.cells #[.int .i64 0,.int .i64 0] 87)):=k4
      clear k4
      go_wp2_with fail
      have HF5:Hid (∀ (m:Int) (V5:World),V5=(w4.setCell ⟨w.heap.size,0,none⟩ (.int .i64 n)).setCell ⟨w.heap.size,1,none⟩ (.int .i64 m)->V5.heap[w.heap.size]?=some (.cells #[.int .i64 n,.int .i64 m] 87)/\Ln w0 V va b (yz V u).2 V5/\Ofw (fun k=>k=b) w V5):=fun m V5 hV=>by
        subst hV
        have o5:Ofw (fun k=>k=w.heap.size) w4 ((w4.setCell ⟨w.heap.size,0,none⟩ (.int .i64 n)).setCell ⟨w.heap.size,1,none⟩ (.int .i64 m)):=(Ofw.set (S:=fun k=>k=w.heap.size) _ rfl).trans (Ofw.set (S:=fun k=>k=w.heap.size) _ rfl)
        exact ⟨yC (yC K4.out 0 _) 1 _,H4.out.1.keep (fun k hk=>by omega) o5,(HO0.out.trans H4.out.2).new o5 (fun i hi=>by omega)⟩
      obtain ⟨k5,l5,o5⟩:=HF5.out _ _ rfl
      exact bodyPost_ret (v:=.agg #[.int .i64 n,.int .i64 (yz V u).1]) (results_cell_row (p:=4) (ty:=87) rfl _ _ w.heap.size 87 #[.int .i64 n,.int .i64 (yz V u).1] (0,0) _ rfl k5 Tryz.underlying87 rfl (by kernel_rfl)) rfl ⟨rfl,l5,o5⟩
  exact key _ _ _ rfl rfl rfl
end Go.Proofs.YthohnmplbjhjaaaGreatDoor
