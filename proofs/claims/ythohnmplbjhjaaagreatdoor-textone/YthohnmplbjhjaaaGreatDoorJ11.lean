/-
  Put together: TxLine, TxDer, TxIff.
-/
import Derived.Test.YthohnmplbjhjaaaGreatDoorJ08
namespace Go.Proofs.YthohnmplbjhjaaaGreatDoor
open Md Go.Lib
theorem rd_var {V:List Vr}:RdE (fVar V) (fun y=>y.c=zc 10/\nameB y.v.name.data.toList=true/\yT V y.v.name.data.toList<0/\boundsB y.v.lo y.v.hi=true) (fun y=>[y.v.name.data.toList,itoa y.v.lo,itoa y.v.hi]):=by
 refine ⟨fun s h0=>?_,fun s y h0 hw hy=>?_⟩
 ·obtain ⟨h1,h2⟩:=KI h0
  obtain ⟨h3,h4,h5⟩:=rd_bounds.1 _ h1
  obtain ⟨h6,h7,h8⟩:=(KS V).1 _ h3
  exact ⟨h6,⟨rfl,h7.1,h7.2,h4⟩,by rw [h8,h5,h2];rfl⟩
 ·obtain ⟨⟨⟨⟨nmd⟩⟩,lo,hi⟩,c⟩:=y
  obtain ⟨h1,h2,h3,h4⟩:=hy
  simp only at h1 h2 h3 h4
  subst h1
  obtain ⟨a1,a2,a3⟩:=(KS V).2 s nmd [itoa lo,itoa hi] h0 hw ⟨h2,h3⟩
  obtain ⟨b1,b2,b3⟩:=rd_bounds.2 _ (lo,hi) [] a2 a3 h4
  unfold fVar
  simp only [a1,b1]
  exact ⟨rfl,by rw [KJ b3];exact b2⟩
def Xw (t:List (Int × Int)):Cn:=⟨11,0,t,0,0,0,0,[],[],[]⟩
def Xr (V:List Vr) (t:List (Int × Int)):Prop:=1<=t.length/\t.length<=64/\∀ a∈t,cfB a.1=true/\inV V a.2
theorem KT {V:List Vr} (hV:PV V):RdE (Yf V) (fun y=>y.v=zv/\y.c=Xw y.c.terms/\Xr V y.c.terms) (fun y=>sumW V y.c.terms):=by
 refine ⟨fun s h0=>?_,fun s y h0 hw hy=>?_⟩
 ·obtain ⟨h1,h2,h3⟩:=(YI hV).1 _ h0
  exact ⟨h1,⟨rfl,rfl,h2⟩,h3⟩
 ·obtain ⟨v,c⟩:=y
  obtain ⟨h1,h2,h3⟩:=hy
  simp only at h1 h2 h3 hw
  subst h1
  obtain ⟨c1,c2⟩:=(YI hV).2 s c.terms h0 hw h3
  unfold Yf
  simp only [c1]
  exact ⟨by rw [h2];rfl,c2⟩
abbrev wVar:List UInt8:=[118,97,114]
abbrev wMin:List UInt8:=[109,105,110,105,109,105,122,101]
def kW (k:Nat):List UInt8:=if k=10 then wVar else if k=11 then wMin else wordT (k:Int)
theorem y5o {w:List UInt8} (h:zM w≠0):1<=zM w/\zM w<=11/\w=kW (zM w):=by
 unfold zM at h ⊢
 split
 ·rename_i e;subst e;exact ⟨by decide,by decide,rfl⟩
 split
 ·rename_i e;subst e;exact ⟨by decide,by decide,rfl⟩
 split
 ·rename_i e;subst e;exact ⟨by decide,by decide,rfl⟩
 split
 ·rename_i e;subst e;exact ⟨by decide,by decide,rfl⟩
 split
 ·rename_i e;subst e;exact ⟨by decide,by decide,rfl⟩
 split
 ·rename_i e;subst e;exact ⟨by decide,by decide,rfl⟩
 split
 ·rename_i e;subst e;exact ⟨by decide,by decide,rfl⟩
 split
 ·rename_i e;subst e;exact ⟨by decide,by decide,rfl⟩
 split
 ·rename_i e;subst e;exact ⟨by decide,by decide,rfl⟩
 split
 ·rename_i e;subst e;exact ⟨by decide,by decide,rfl⟩
 split
 ·rename_i e;subst e;exact ⟨by decide,by decide,rfl⟩
 ·rename_i e1 e2 e3 e4 e5 e6 e7 e8 e9 e10 e11
  rw [if_neg e1,if_neg e2,if_neg e3,if_neg e4,if_neg e5,if_neg e6,if_neg e7,if_neg e8,if_neg e9,if_neg e10,if_neg e11] at h
  exact absurd rfl h
theorem y5p {k:Nat} (h1:1<=k) (h2:k<=11):zM (kW k)=k/\(kW k).headD 0≠35/\kW k≠[]:=by
 rcases (by omega:k=1∨k=2∨k=3∨k=4∨k=5∨k=6∨k=7∨k=8∨k=9∨k=10∨k=11) with rfl | rfl | rfl | rfl | rfl | rfl | rfl | rfl | rfl | rfl | rfl <;> exact ⟨by decide,by decide,by decide⟩
def Adds (m m':Mo) (ws:List (List UInt8)):Prop:=
 (∃ v:Vr,ws=[wVar,v.name.data.toList,itoa v.lo,itoa v.hi]/\(nameB v.name.data.toList=true/\yT m.vars v.name.data.toList<0/\boundsB v.lo v.hi=true)/\m.vars.length≠32/\m'={ m with vars:=m.vars++[v] }) ∨
 (∃ c:Cn,ws=wordT c.kind :: conR m.vars c/\fault c (m.vars.length:Int)=0/\m.cons.length≠64/\m'={ m with cons:=m.cons++[c] }) ∨
 ∃ t,ws=wMin :: sumW m.vars t/\Xr m.vars t/\m.has=false/\m'={ m with has:=true,goal:=t }
theorem Xx {e:Int} {s:St} (h:(yh e s).2=0):e=0/\s.2=0:=by
 unfold yh at h
 split at h
 ·rename_i h1;exact ⟨h,h1⟩
 ·rename_i h1;exact absurd h h1
theorem Zy {c:Cn} {n:Int} (h:fault c n=0):1<=c.kind/\c.kind<=9:=(by
 obtain ⟨h1,_⟩:=fault_iff.1 h
 simp only [kindBad,Bool.or_eq_false_iff,decide_eq_false_iff_not] at h1
 have:=h1.1
 omega)
theorem KU {k:Nat} {m:Mo} (h9:k<=9):yY k m=0↔m.cons.length≠64:=by
 unfold yY
 rw [if_neg (by omega),if_neg (by omega)]
 constructor
 ·intro h e
  rw [if_pos ⟨h9,e⟩] at h
  cases h
 ·intro h
  rw [if_neg (fun e=>h e.2)]
theorem more_var {m:Mo}:yY 10 m=0↔m.vars.length≠32:=by
 unfold yY
 constructor
 ·intro h e
  rw [if_pos ⟨rfl,e⟩] at h
  cases h
 ·intro h
  rw [if_neg (fun e=>h e.2),if_neg (by omega),if_neg (by omega)]
theorem more_goal {m:Mo}:yY 11 m=0↔m.has=false:=by
 unfold yY
 rw [if_neg (by omega)]
 constructor
 ·intro h
  by_cases e:m.has=true
  ·rw [if_pos ⟨rfl,e⟩] at h
   cases h
  ·simpa using e
 ·intro h
  rw [if_neg (by simp [h]),if_neg (by omega)]
theorem y5q {m:Mo} (hV:PV m.vars) {l w:List UInt8} {ws:List (List UInt8)} (hw:words l=w :: ws) (hh:w.headD 0≠35) (h0:(yR m l).2=0):Adds m (yR m l).1 (w :: ws):=by
 obtain ⟨p,h1,h2,h3⟩:=Yk (s:=(l,0)) rfl hw
 unfold yR at h0 ⊢
 rw [h1] at h0 ⊢
 simp only [if_neg hh] at h0 ⊢
 by_cases hs:(sayT m w p).2.2=0
 ·rw [if_pos hs]
  unfold sayT at hs ⊢
  by_cases hk:zM w=0
  ·rw [if_pos hk] at hs
   exact absurd hs (zI (by decide) _)
  rw [if_neg hk] at hs ⊢
  obtain ⟨k1,k2,k3⟩:=y5o hk
  obtain ⟨k,hkk⟩:∃ k,zM w=k:=⟨_,rfl⟩
  rw [hkk] at hs k1 k2 k3 ⊢
  by_cases h9:k<=9
  ·obtain ⟨a1,a2,a3⟩:=(KN hV k1 h9).1 _ hs
   obtain ⟨b1,b2⟩:=Xx a1
   rw [yU] at a3
   refine .inr (.inl ⟨(zy m.vars k (yh (yY k m) p)).1.c,?_,a2.2.2,(KU h9).1 b1,?_⟩)
   ·rw [a2.2.1,k3,<-h3,a3]
    unfold kW
    rw [if_neg (by omega),if_neg (by omega)]
   ·unfold layT
    rw [a2.2.1,if_neg (by omega),if_neg (by omega)]
  ·rcases (by omega:k=10∨k=11) with rfl | rfl
   ·obtain ⟨a1,a2,a3⟩:=rd_var.1 _ hs
    obtain ⟨b1,b2⟩:=Xx a1
    rw [yU] at a3
    refine .inl ⟨(zy m.vars 10 (yh (yY 10 m) p)).1.v,?_,a2.2,more_var.1 b1,?_⟩
    ·rw [k3,<-h3,a3]
     rfl
    ·unfold layT
     have:(zy m.vars 10 (yh (yY 10 m) p)).1.c.kind=10:=congrArg Cn.kind a2.1
     rw [this]
     rfl
   ·obtain ⟨a1,a2,a3⟩:=(KT hV).1 _ hs
    obtain ⟨b1,b2⟩:=Xx a1
    rw [yU] at a3
    refine .inr (.inr ⟨(zy m.vars 11 (yh (yY 11 m) p)).1.c.terms,?_,a2.2.2,more_goal.1 b1,?_⟩)
    ·rw [k3,<-h3,a3]
     rfl
    ·unfold layT
     have:(zy m.vars 11 (yh (yY 11 m) p)).1.c.kind=11:=congrArg Cn.kind a2.2.1
     rw [this]
     rfl
 ·rw [if_neg hs] at h0
  exact absurd h0 hs
theorem y5r {m m':Mo} (hV:PV m.vars) {l w:List UInt8} {ws:List (List UInt8)} (hw:words l=w :: ws) (ha:Adds m m' (w :: ws)):yR m l=(m',0)/\w.headD 0≠35:=by
 obtain ⟨p,h1,h2,h3⟩:=Yk (s:=(l,0)) rfl hw
 have key:∀ (k:Nat) (y:Sy),1<=k->k<=11->w=kW k->yY k m=0->(zy m.vars k p).1=y->(zy m.vars k p).2.2=0->layT m y=m'->yR m l=(m',0)/\w.headD 0≠35:=by
  intro k y k1 k2 kw ho hf hz hl
  obtain ⟨e1,e2,_⟩:=y5p k1 k2
  rw [<-kw] at e1 e2
  refine ⟨?_,e2⟩
  unfold yR
  rw [h1]
  simp only [if_neg e2]
  have hsay:sayT m w p=zy m.vars k p:=by
   unfold sayT
   rw [e1,if_neg (by omega),ho,y4c]
  rw [hsay,if_pos hz,hf,hl]
 rcases ha with ⟨v,e,hv,hn,rfl⟩ | ⟨c,e,hc,hn,rfl⟩ | ⟨t,e,ht,hn,rfl⟩
 ·injection e with e1 e2
  obtain ⟨a1,a2⟩:=(rd_var (V:=m.vars)).2 p ⟨v,zc 10⟩ h2 (h3.trans e2) ⟨rfl,hv⟩
  exact key 10 ⟨v,zc 10⟩ (by decide) (by decide) e1 (more_var.2 hn) a1 a2 rfl
 ·injection e with e1 e2
  obtain ⟨k1,k2⟩:=Zy hc
  obtain ⟨k,hk⟩:∃ k:Nat,c.kind=(k:Int):=⟨c.kind.toNat,by omega⟩
  obtain ⟨a1,a2⟩:=(KN hV (k:=k) (by omega) (by omega)).2 p ⟨zv,c⟩ h2 (h3.trans e2) ⟨rfl,hk,hc⟩
  refine key k ⟨zv,c⟩ (by omega) (by omega) ?_ ((KU (by omega)).2 hn) a1 a2 ?_
  ·rw [e1,hk]
   unfold kW
   rw [if_neg (by omega),if_neg (by omega)]
  ·unfold layT
   simp only
   rw [if_neg (by omega),if_neg (by omega)]
 ·injection e with e1 e2
  obtain ⟨a1,a2⟩:=(KT hV).2 p ⟨zv,Xw t⟩ h2 (h3.trans e2) ⟨rfl,rfl,ht⟩
  exact key 11 ⟨zv,Xw t⟩ (by decide) (by decide) e1 (more_goal.2 hn) a1 a2 rfl
def mute (ws:List (List UInt8)):Bool:=match ws with
 | []=>true
 | w :: _=>w.headD 0==35
theorem y5s (m:Mo) {l:List UInt8} (h:mute (words l)=true):yR m l=(m,0):=by
  unfold yR
  cases ht:yl (l,0) with
  | none=>rfl
  | some p =>
    obtain ⟨_,_,h3⟩:=Y6 ht
    have h3':words l=p.1 :: words p.2.1:=h3
    rw [h3'] at h
    have:p.1.headD 0=35:=by simpa [mute] using h
    simp only [if_pos this]
def zq (L:List (List UInt8)):List (List (List UInt8)):=(L.map words).filter fun ws=>!mute ws
def Ders:Mo->List (List (List UInt8))->Mo->Prop
 | m,[],m'=>m=m'
 | m,ws :: t,m'=>∃ m1,Adds m m1 ws/\Ders m1 t m'
theorem Xt {m m':Mo} {ws:List (List UInt8)} (h:Adds m m' ws) (hV:PV m.vars):PV m'.vars:=by
 rcases h with ⟨v,_,hv,_,rfl⟩ | ⟨c,_,_,_,rfl⟩ | ⟨t,_,_,_,rfl⟩
 ·refine ⟨fun x hx=>?_,fun i j hi hj e=>?_⟩
  ·rcases List.mem_append.1 hx with h | h
   ·exact hV.ok x h
   ·rw [List.mem_singleton.1 h];exact hv.1
  ·have hnew:=place_new.1 hv.2.1
   simp only [List.length_append,List.length_singleton] at hi hj
   by_cases h1:i<m.vars.length
   ·by_cases h2:j<m.vars.length
    ·rw [List.getElem_append_left h1,List.getElem_append_left h2] at e
     exact hV.one i j h1 h2 e
    ·rw [List.getElem_append_left h1,List.getElem_append_right (by omega)] at e
     simp at e
     exact absurd (by simpa using congrArg Array.toList e) (hnew _ (List.getElem_mem h1))
   ·by_cases h2:j<m.vars.length
    ·rw [List.getElem_append_right (by omega),List.getElem_append_left h2] at e
     simp at e
     exact absurd (by simpa using (congrArg Array.toList e).symm) (hnew _ (List.getElem_mem h2))
    ·omega
 ·exact hV
 ·exact hV
theorem ZF:∀ (L:List (List UInt8)) (i:Nat) (m m':Mo),PV m.vars->(goT L i m=(m',none)↔Ders m (zq L) m')
  | [],i,m,m',_=>by simp [goT,zq,Ders]
  | l :: L, i, m, m', hV => by
    by_cases hm:mute (words l)=true
    · have:zq (l :: L)=zq L:=by simp [zq,hm]
      rw [this]
      show (if (yR m l).2=0 then goT L (i+1) (yR m l).1 else _)=_↔_
      rw [y5s m hm]
      exact ZF L (i+1) m m' hV
    · have hm':mute (words l)=false:=by simpa using hm
      have:zq (l :: L)=words l :: zq L:=by simp [zq,hm']
      rw [this]
      show (if (yR m l).2=0 then goT L (i+1) (yR m l).1 else _)=_↔∃ m1,Adds m m1 (words l)/\Ders m1 (zq L) m'
      obtain ⟨r,hr⟩:∃ r,words l=r:=⟨_,rfl⟩
      cases r with
      | nil=>rw [hr] at hm';cases hm'
      | cons w ws =>
        have hh:w.headD 0≠35:=by rw [hr] at hm';simpa [mute] using hm'
        rw [hr]
        constructor
        · intro h
          by_cases h0:(yR m l).2=0
          · rw [if_pos h0] at h
            have ha:=y5q hV hr hh h0
            exact ⟨_,ha,(ZF L (i+1) _ m' (Xt ha hV)).1 h⟩
          · rw [if_neg h0] at h
            cases h
        · rintro ⟨m1,ha,hd⟩
          obtain ⟨e,_⟩:=y5r hV hr ha
          rw [e]
          exact (ZF L (i+1) m1 m' (Xt ha hV)).2 hd
theorem KV:∀ (L:List (List UInt8)) (i:Nat) (m m':Mo) (j:Nat) (e:Int),goT L i m=(m',some (j,e))->e≠0
  | [],i,m,m',j,e,h=>by simp [goT] at h
  | l :: L, i, m, m', j, e, h => by
    unfold goT at h
    split at h
    · exact KV L _ _ m' j e h
    · rename_i h0
      simp only [Prod.mk.injEq,Option.some.injEq] at h
      obtain ⟨_,_,rfl⟩:=h
      exact h0
theorem KF:PV ([]:List Vr):=⟨fun v h=>(by cases h),fun i j hi=>absurd hi (by simp)⟩
theorem y5n {s:List UInt8} {m:Mo}:yJ s=(m,(0,0))↔s.length<=65536/\Ders zm (zq (yx s [])) m/\m.vars≠[]:=by
  rw [<-ZF (yx s []) 1 zm m KF]
  unfold yJ
  by_cases hl:65536<s.length
  · rw [if_pos hl]
    constructor
    · intro h
      cases h
    · intro h
      exact absurd h.1 (by omega)
  · rw [if_neg hl]
    obtain ⟨g,hg⟩:∃ g,goT (yx s []) 1 zm=g:=⟨_,rfl⟩
    rw [hg]
    obtain ⟨mm,o⟩:=g
    cases o with
    | some p =>
      obtain ⟨i,e⟩:=p
      have he:=KV _ 1 zm mm i e hg
      constructor
      · intro h
        have h2:e=0:=congrArg (fun z=>z.2.2) h
        exact absurd h2 he
      · intro h
        cases h.2.1
    | none =>
      simp only
      by_cases hv:mm.vars=[]
      · rw [if_pos hv]
        constructor
        · intro h
          have h2:(59:Int)=0:=congrArg (fun z=>z.2.2) h
          exact absurd h2 (by decide)
        · intro h
          have h2:mm=m:=congrArg Prod.fst h.2.1
          exact absurd (by rw [<-h2];exact hv) h.2.2
      · rw [if_neg hv]
        constructor
        · intro h
          have h2:mm=m:=congrArg (fun z=>z.1) h
          subst h2
          exact ⟨by omega,rfl,hv⟩
        · intro h
          have h2:mm=m:=congrArg Prod.fst h.2.1
          rw [h2]
end Go.Proofs.YthohnmplbjhjaaaGreatDoor

namespace Go.Proofs.YthohnmplbjhjaaaGreatDoor
open Md Go.Lib
def yM (c:Cn):List Int:=(if fX c.kind=true then [c.x] else [])++((if fY c.kind=true then [c.y] else [])++(c.terms.map (·.2)++c.xs))
def xh (l:List Int):Int:=l.foldl max (-1)
theorem KA:∀ (l:List Int) (a v:Int),l.foldl max a<v↔a<v/\∀ x∈l,x<v
  | [],a,v=>by simp
  | x :: l, a, v => by
    rw [List.foldl_cons,KA l (max a x) v]
    constructor
    · rintro ⟨h1,h2⟩
      refine ⟨by omega,fun y hy=>?_⟩
      rcases List.mem_cons.1 hy with e | e
      · omega
      · exact h2 y e
    · rintro ⟨h1,h2⟩
      have:=h2 x (by simp)
      exact ⟨by omega,fun y hy=>h2 y (by simp [hy])⟩
theorem far_lt {l:List Int} {v:Nat}:xh l<(v:Int)↔∀ x∈l,x<(v:Int):=by
 unfold xh
 rw [KA]
 exact ⟨fun h=>h.2,fun h=>⟨by omega,h⟩⟩
theorem Zx {c:Cn} {V:List Vr} (h:fault c (V.length:Int)=0):(∀ x∈yM c,inV V x)/\yM c≠[]:=by
 obtain ⟨h1,_,_,h4,h5,_,_⟩:=fault_iff.1 h
 obtain ⟨k1,k2⟩:=Zy h
 simp only [placesB,Bool.and_eq_true] at h5
 obtain ⟨⟨⟨a1,a2⟩,a3⟩,a4⟩:=h5
 constructor
 ·intro x hx
  unfold yM at hx
  rcases List.mem_append.1 hx with hx | hx
  ·split at hx
   ·rw [List.mem_singleton.1 hx];exact pl_in.1 a1
   ·cases hx
  rcases List.mem_append.1 hx with hx | hx
  ·split at hx
   ·rw [List.mem_singleton.1 hx];exact pl_in.1 a2
   ·cases hx
  rcases List.mem_append.1 hx with hx | hx
  ·obtain ⟨t,ht,rfl⟩:=List.mem_map.1 hx
   exact pl_in.1 (List.all_eq_true.1 a3 t ht)
  ·exact all_in.1 a4 x hx
 ·intro e
  unfold yM at e
  obtain ⟨e1,e⟩:=List.append_eq_nil_iff.1 e
  obtain ⟨e2,e⟩:=List.append_eq_nil_iff.1 e
  obtain ⟨e3,e4⟩:=List.append_eq_nil_iff.1 e
  have e3':c.terms=[]:=List.map_eq_nil_iff.1 e3
  simp only [manyBad,Bool.or_eq_false_iff,Bool.and_eq_false_iff] at h4
  rw [e3',e4] at h4
  have q1:=h4.1.1.1.1
  have q2:=h4.1.1.1.2
  rcases (by omega:c.kind=1∨c.kind=2∨c.kind=3∨c.kind=4∨c.kind=5∨c.kind=6∨c.kind=7∨c.kind=8∨c.kind=9) with k | k | k | k | k | k | k | k | k <;> rw [k] at e1 e2 q1 q2
  ·exact absurd (xb (q1.resolve_left (by decide))).1 (by decide)
  ·exact absurd e1 (by simp [fX])
  ·exact absurd (xb (q2.resolve_left (by decide))).1 (by decide)
  ·exact absurd e1 (by simp [fX])
  ·exact absurd e2 (by simp [fY])
  ·exact absurd e2 (by simp [fY])
  ·exact absurd e1 (by simp [fX])
  ·exact absurd (xb (q2.resolve_left (by decide))).1 (by decide)
  ·exact absurd (xb (q2.resolve_left (by decide))).1 (by decide)
theorem KB {c:Cn} {V V':List Vr} (h:fault c (V.length:Int)=0) (hn:∀ x∈yM c,inV V' x):fault c (V'.length:Int)=0:=by
 obtain ⟨h1,h2,h3,h4,h5,h6,h7⟩:=fault_iff.1 h
 obtain ⟨p1,p2,p3,p4,p5,p6,p7,p8,p9⟩:=xD h
 obtain ⟨_,hne⟩:=Zx h
 have h0:inV V' 0:=by
  cases hl:yM c with
  | nil=>exact absurd hl hne
  | cons a l=>exact Xo (hn a (by rw [hl];simp))
 refine fault_iff.2 ⟨h1,h2,h3,h4,?_,h6,h7⟩
 unfold placesB
 simp only [Bool.and_eq_true]
 refine ⟨⟨⟨pl_in.2 ?_,pl_in.2 ?_⟩,?_⟩,?_⟩
 ·cases hf:fX c.kind
  ·rw [p4 hf];exact h0
  ·exact hn _ (by unfold yM;rw [if_pos hf];simp)
 ·cases hf:fY c.kind
  ·rw [p5 hf];exact h0
  ·exact hn _ (by unfold yM;rw [if_pos hf];simp)
 ·rw [List.all_eq_true]
  intro t ht
  exact pl_in.2 (hn _ (by unfold yM;simp only [List.mem_append,List.mem_map];exact .inr (.inr (.inl ⟨t,ht,rfl⟩))))
 ·exact all_in.2 fun x hx=>hn _ (by unfold yM;simp only [List.mem_append];exact .inr (.inr (.inr hx)))
theorem Xp {α β:Type} {f g:α->List β}:∀ {l:List α},(∀ x∈l,f x=g x)->l.flatMap f=l.flatMap g
 | [],_=>rfl
 | x :: l,h=>by rw [List.flatMap_cons,List.flatMap_cons,h x (by simp),Xp fun y hy=>h y (by simp [hy])]
theorem y57 {V V':List Vr} {l:List Int} (h:∀ x∈l,nm V x=nm V' x):nmsW V l=nmsW V' l:=Xp fun x hx=>by rw [h x hx]
theorem Xq {V V':List Vr} {t:List (Int × Int)} (h:∀ a∈t,nm V a.2=nm V' a.2):sumW V t=sumW V' t:=Xp fun x hx=>by rw [h x hx]
theorem KC {V V':List Vr} {c:Cn} (h:∀ x∈yM c,nm V x=nm V' x):conR V c=conR V' c:=by
 have ht:sumW V c.terms=sumW V' c.terms:=Xq fun a ha=>h _ (by unfold yM;simp only [List.mem_append,List.mem_map];exact .inr (.inr (.inl ⟨a,ha,rfl⟩)))
 have hx:nmsW V c.xs=nmsW V' c.xs:=y57 fun x hx=>h _ (by unfold yM;simp only [List.mem_append];exact .inr (.inr (.inr hx)))
 have hm:c.xs.map (nm V)=c.xs.map (nm V'):=List.map_congr_left fun x hx=>h _ (by unfold yM;simp only [List.mem_append];exact .inr (.inr (.inr hx)))
 have h1:fX c.kind=true->nm V c.x=nm V' c.x:=fun e=>h _ (by unfold yM;rw [if_pos e];simp)
 have h2:fY c.kind=true->nm V c.y=nm V' c.y:=fun e=>h _ (by unfold yM;rw [if_pos e];simp)
 unfold conR
 split
 ·rw [ht]
 split
 ·rename_i k;rw [h1 (by rw [k];rfl),h2 (by rw [k];rfl)]
 split
 ·rw [hx]
 split
 ·rename_i k;rw [h1 (by rw [k];rfl),h2 (by rw [k];rfl)]
 split
 ·rename_i k;rw [h2 (by rcases k with k | k <;> (rw [k];rfl)),hx]
 split
 ·rename_i k;rw [h1 (by rw [k];rfl),ht]
 split
 ·rw [hm]
 ·rw [hx]
def varW (v:Vr):List (List UInt8):=[wVar,v.name.data.toList,itoa v.lo,itoa v.hi]
def conW (V:List Vr) (c:Cn):List (List UInt8):=wordT c.kind :: conR V c
def Ym (m:Mo):List (List UInt8):=wMin :: sumW m.vars m.goal
def yX (m:Mo):List (List (List UInt8))->Nat->Nat->Bool->Bool
  | [],v,c,g=>decide (v=m.vars.length)&&decide (c=m.cons.length)&&(g==m.has)
  | ws :: t, v, c, g =>
    if ws.headD []=wVar then (if h:v<m.vars.length then decide (ws=varW m.vars[v])&&yX m t (v+1) c g else false)
    else if ws.headD []=wMin then !g&&(m.has&&(decide (ws=Ym m/\xh (m.goal.map (·.2))<(v:Int))&&yX m t v c true))
    else (if h:c<m.cons.length then decide (ws=conW m.vars m.cons[c]/\xh (yM m.cons[c])<(v:Int))&&yX m t v (c+1) g else false)
def derT (s:List UInt8) (m:Mo):Bool:=decide ((check m).2=0)&&(decide (s.length<=65536)&&yX m (zq (yx s [])) 0 0 false)
theorem y58 {m:Mo} (h:(check m).2=0):PV m.vars:=by
 have hr:=right_of h
 have hz:∀ j,j<m.vars.length->vFault m.vars j=0:=by
  unfold check at h
  split at h
  ·cases h
  split at h
  ·rename_i i hi
   unfold xk at hi
   have:=List.find?_some hi
   simp at this
   exact absurd h this
  ·rename_i h2
   exact ZY h2
 refine ⟨fun v hv=>(hr.var v hv).1,?_⟩
 have key:∀ (i j:Nat) (hi:i<m.vars.length) (hj:j<m.vars.length),i<j->m.vars[i].name.data.toList≠m.vars[j].name.data.toList:=by
  intro i j hi hj hij e
  have h1:=hz j hj
  rw [vFault_get hj] at h1
  unfold varFault at h1
  split at h1
  ·cases h1
  ·rename_i h2
   have h3:seenB (m.vars.take j) m.vars[j].name=true:=by
    unfold seenB
    rw [List.any_eq_true]
    refine ⟨m.vars[i],List.mem_take_iff_getElem.2 ⟨i,by omega,rfl⟩,?_⟩
    rw [beq_iff_eq,ByteArray.toList_eq,ByteArray.toList_eq,e]
   rw [h3] at h2
   simp at h2
 intro i j hi hj e
 rcases Nat.lt_trichotomy i j with h1 | h1 | h1
 ·exact absurd e (key i j hi hj h1)
 ·exact h1
 ·exact absurd e.symm (key j i hj hi h1)
structure OkM (m:Mo):Prop where
 pv:PV m.vars
 bd:∀ v∈m.vars,boundsB v.lo v.hi=true
 nv:m.vars.length<=32
 nc:m.cons.length<=64
 con:∀ c∈m.cons,fault c (m.vars.length:Int)=0
 goal:m.has=true->Xr m.vars m.goal
 no:m.has=false->m.goal=[]
theorem KD {V:List Vr} {x:Int} (h:inV V x) (v:Vr):inV (V++[v]) x:=⟨h.1,by have:=h.2;simp;omega⟩
theorem y59 {m m':Mo} {ws:List (List UInt8)} (h:Adds m m' ws) (ho:OkM m):OkM m':=by
 have hpv:=Xt h ho.pv
 rcases h with ⟨v,_,hv,hn,rfl⟩ | ⟨c,_,hc,hn,rfl⟩ | ⟨t,_,ht,_,rfl⟩
 ·refine ⟨hpv,fun x hx=>?_,by have:=ho.nv;simp;omega,ho.nc,fun c hc=>?_,fun hg=>?_,ho.no⟩
  ·rcases List.mem_append.1 hx with h | h
   ·exact ho.bd x h
   ·rw [List.mem_singleton.1 h];exact hv.2.2
  ·exact KB (ho.con c hc) fun x hx=>KD ((Zx (ho.con c hc)).1 x hx) v
  ·obtain ⟨g1,g2,g3⟩:=ho.goal hg
   exact ⟨g1,g2,fun a ha=>⟨(g3 a ha).1,KD (g3 a ha).2 v⟩⟩
 ·refine ⟨hpv,ho.bd,ho.nv,by have:=ho.nc;simp;omega,fun x hx=>?_,ho.goal,ho.no⟩
  rcases List.mem_append.1 hx with h | h
  ·exact ho.con x h
  ·rw [List.mem_singleton.1 h];exact hc
 ·exact ⟨hpv,ho.bd,ho.nv,ho.nc,ho.con,fun _=>ht,fun h=>by cases h⟩
theorem KE:∀ (L:List (List (List UInt8))) (m m':Mo),Ders m L m'->OkM m->OkM m'
 | [],m,m',h,ho=>by cases h;exact ho
 | ws :: L,m,m',⟨m1,ha,hd⟩,ho=>KE L m1 m' hd (y59 ha ho)
theorem y5a:OkM zm:=⟨KF,fun v h=>(by cases h),by decide,by decide,fun v h=>(by cases h),fun h=>(by cases h),fun _=>rfl⟩
theorem y5b {m:Mo} (h:OkM m) (h1:m.vars≠[]):(check m).2=0:=by
 have hv:∀ j,j<m.vars.length->vFault m.vars j=0:=by
  intro j hj
  rw [vFault_get hj]
  unfold varFault
  have a1:=h.pv.ok _ (List.getElem_mem hj)
  have a2:=h.bd _ (List.getElem_mem hj)
  have a3:seenB (m.vars.take j) m.vars[j].name=false:=by
   unfold seenB
   rw [List.any_eq_false]
   intro v hv e
   obtain ⟨i,hi,rfl⟩:=List.mem_take_iff_getElem.1 hv
   rw [beq_iff_eq,ByteArray.toList_eq,ByteArray.toList_eq] at e
   have:=h.pv.one i j (by omega) hj e
   omega
  rw [a1,a2,a3]
  rfl
 have hc:∀ j,j<m.cons.length->cFault m.cons (m.vars.length:Int) j=0:=fun j hj=>by
  rw [cFault_get hj]
  exact h.con _ (List.getElem_mem hj)
 have hg:goalFault m=0:=by
  unfold goalFault
  cases hh:m.has
  ·rw [h.no hh]
   rfl
  ·obtain ⟨g1,g2,g3⟩:=h.goal hh
   obtain ⟨g4,g5⟩:=all_in2.2 g3
   rw [if_neg (by decide),xv ⟨g1,g2⟩,if_neg (by decide),g4,g5]
   rfl
 have h0:1<=m.vars.length:=by
  cases hl:m.vars with
  | nil=>exact absurd hl h1
  | cons a b=>simp
 unfold check
 rw [xv ⟨h0,h.nv⟩,firstBad_none hv,firstBad_none hc,hg]
 simp only [if_neg (by have:=h.nc;omega:¬ 64<m.cons.length),if_true]
 rfl
theorem KG {m:Mo} (h:(check m).2=0):OkM m/\m.vars≠[]:=by
 have hr:=right_of h
 refine ⟨⟨y58 h,fun v hv=>(hr.var v hv).2,hr.nv.2,hr.nc,hr.con,fun hg=>?_,fun hg=>(goal_of hr.goal).1 hg⟩,fun e=>by have:=hr.nv.1;rw [e] at this;simp at this⟩
 have hgf:=hr.goal
 unfold goalFault at hgf
 rw [if_neg (by simp [hg])] at hgf
 split at hgf
 ·cases hgf
 rename_i a1
 split at hgf
 ·cases hgf
 rename_i a2
 split at hgf
 ·cases hgf
 rename_i a3
 have b1:=xb (by simpa using a1)
 exact ⟨b1.1,b1.2,all_in2.1 ⟨by simpa using a2,by simpa using a3⟩⟩
end Go.Proofs.YthohnmplbjhjaaaGreatDoor

namespace Go.Proofs.YthohnmplbjhjaaaGreatDoor
open Md Go.Lib
def part (m:Mo) (v c:Nat) (g:Bool):Mo:=⟨m.vars.take v,m.cons.take c,g,if g=true then m.goal else []⟩
theorem KO {V:List Vr} {x:Int} {v:Nat} (h:inV V x) (hx:x<(v:Int)):inV (V.take v) x:=⟨h.1,by have:=h.2;rw [List.length_take];omega⟩
theorem KP {V:List Vr} {x:Int} {v:Nat} (h:inV (V.take v) x):inV V x/\x<(v:Int):=by
 have h1:=h.1
 have h2:=h.2
 rw [List.length_take] at h2
 exact ⟨⟨h1,by omega⟩,by omega⟩
theorem ZB {V:List Vr} {x:Int} {v:Nat} (h:inV V x) (hx:x<(v:Int)):nm (V.take v) x=nm V x:=by
 obtain ⟨i,hi,rfl,hn⟩:=ZC h
 have hi2:i<(V.take v).length:=by rw [List.length_take];omega
 rw [Xv hi2,hn,List.getElem_take]
theorem y5k {k:Int} (h:1<=k/\k<=9):wordT k≠wVar/\wordT k≠wMin:=by
 rcases (by omega:k=1∨k=2∨k=3∨k=4∨k=5∨k=6∨k=7∨k=8∨k=9) with rfl | rfl | rfl | rfl | rfl | rfl | rfl | rfl | rfl <;> exact ⟨by decide,by decide⟩
theorem y5l:wMin≠wVar:=by decide
theorem y5m {m:Mo} (ho:OkM m):part m m.vars.length m.cons.length m.has=m:=by
 obtain ⟨vs,cs,hs,gl⟩:=m
 unfold part
 simp only [List.take_length]
 congr 1
 cases hs
 ·exact (ho.no rfl).symm
 ·rfl
theorem ZD {m:Mo} (ho:OkM m):∀ (L:List (List (List UInt8))) (v c:Nat) (g:Bool),yX m L v c g=true->Ders (part m v c g) L m
  | [], v, c, g, h => by
    simp only [yX,Bool.and_eq_true,decide_eq_true_eq,beq_iff_eq] at h
    obtain ⟨⟨rfl,rfl⟩,rfl⟩:=h
    exact y5m ho
  | ws :: L, v, c, g, h => by
    unfold yX at h
    by_cases h1:ws.headD []=wVar
    · rw [if_pos h1] at h
      by_cases hv:v<m.vars.length
      · rw [dif_pos hv,Bool.and_eq_true,decide_eq_true_eq] at h
        refine ⟨part m (v+1) c g,.inl ⟨m.vars[v],h.1,⟨ho.pv.ok _ (List.getElem_mem hv),?_,ho.bd _ (List.getElem_mem hv)⟩,?_,?_⟩,ZD ho L _ _ _ h.2⟩
        · refine place_new.2 fun x hx e=>?_
          obtain ⟨i,hi,rfl⟩:=List.mem_take_iff_getElem.1 hx
          have:=ho.pv.one i v (by omega) hv e
          omega
        · have:=ho.nv
          show (m.vars.take v).length≠32
          rw [List.length_take]
          omega
        · unfold part
          simp only [List.take_succ_eq_append_getElem hv]
      · rw [dif_neg hv] at h
        cases h
    · rw [if_neg h1] at h
      by_cases h2:ws.headD []=wMin
      · rw [if_pos h2] at h
        simp only [Bool.and_eq_true,decide_eq_true_eq,Bool.not_eq_true'] at h
        obtain ⟨hg,hh,⟨e1,e2⟩,hd⟩:=h
        subst hg
        have hf:=far_lt.1 e2
        obtain ⟨g1,g2,g3⟩:=ho.goal hh
        have hin:∀ a∈m.goal,a.2<(v:Int):=fun a ha=>hf _ (List.mem_map.2 ⟨a,ha,rfl⟩)
        refine ⟨part m v c true,.inr (.inr ⟨m.goal,?_,⟨g1,g2,fun a ha=>⟨(g3 a ha).1,KO (g3 a ha).2 (hin a ha)⟩⟩,rfl,rfl⟩),ZD ho L _ _ _ hd⟩
        rw [e1]
        unfold Ym
        rw [Xq (V:=m.vars) (V':=m.vars.take v) fun a ha=>(ZB (g3 a ha).2 (hin a ha)).symm]
        rfl
      · rw [if_neg h2] at h
        by_cases hc:c<m.cons.length
        · rw [dif_pos hc,Bool.and_eq_true,decide_eq_true_eq] at h
          obtain ⟨⟨e1,e2⟩,hd⟩:=h
          have hf:=far_lt.1 e2
          have hfa:=ho.con _ (List.getElem_mem hc)
          have hin:=(Zx hfa).1
          refine ⟨part m v (c+1) g,.inr (.inl ⟨m.cons[c],?_,KB hfa fun x hx=>KO (hin x hx) (hf x hx),?_,?_⟩),ZD ho L _ _ _ hd⟩
          · rw [e1]
            unfold conW
            rw [KC (V:=m.vars) (V':=m.vars.take v) fun x hx=>(ZB (hin x hx) (hf x hx)).symm]
            rfl
          · have:=ho.nc
            show (m.cons.take c).length≠64
            rw [List.length_take]
            omega
          · unfold part
            simp only [List.take_succ_eq_append_getElem hc]
        · rw [dif_neg hc] at h
          cases h
theorem KQ:∀ (L:List (List (List UInt8))) (m m':Mo),Ders m L m'->m.vars <+: m'.vars/\m.cons <+: m'.cons/\(m.has=true->m'.has=true/\m'.goal=m.goal)
  | [],m,m',h=>by cases h;exact ⟨List.prefix_rfl,List.prefix_rfl,fun h=>⟨h,rfl⟩⟩
  | ws :: L, m, m', ⟨m1, ha, hd⟩ => by
    obtain ⟨h1,h2,h3⟩:=KQ L m1 m' hd
    rcases ha with ⟨v,_,_,_,rfl⟩ | ⟨c,_,_,_,rfl⟩ | ⟨t,_,_,hn,rfl⟩
    · exact ⟨(List.prefix_append _ _).trans h1,h2,h3⟩
    · exact ⟨h1,(List.prefix_append _ _).trans h2,h3⟩
    · exact ⟨h1,h2,fun h=>by rw [hn] at h;cases h⟩
theorem KR {α:Type} {l:List α} {k:Nat} {a:α} (h:l.take k++[a] <+: l) (hk:k<=l.length):∃ h:k<l.length,l[k]=a/\l.take k++[a]=l.take (k+1):=by
 have hl:=h.length_le
 simp only [List.length_append,List.length_take,List.length_singleton] at hl
 have hk2:k<l.length:=by omega
 have e:=List.prefix_iff_eq_take.1 h
 have hlen:(l.take k++[a]).length=k+1:=by simp;omega
 rw [hlen,List.take_succ_eq_append_getElem hk2] at e
 have e2:=List.append_cancel_left e
 injection e2 with e3 _
 exact ⟨hk2,e3.symm,by rw [e3,List.take_succ_eq_append_getElem hk2]⟩
theorem ZE {m:Mo} (ho:OkM m):∀ (L:List (List (List UInt8))) (v c:Nat) (g:Bool),v<=m.vars.length->c<=m.cons.length->Ders (part m v c g) L m->yX m L v c g=true
  | [], v, c, g, hv, hc, h => by
    have h':part m v c g=m:=h
    have e1:m.vars.take v=m.vars:=congrArg Mo.vars h'
    have e2:m.cons.take c=m.cons:=congrArg Mo.cons h'
    have e3:g=m.has:=congrArg Mo.has h'
    have l1:=congrArg List.length e1
    have l2:=congrArg List.length e2
    rw [List.length_take] at l1 l2
    simp only [yX,Bool.and_eq_true,decide_eq_true_eq,beq_iff_eq]
    exact ⟨⟨by omega,by omega⟩,e3⟩
  | ws :: L, v, c, g, hv, hc, ⟨m1, ha, hd⟩ => by
    obtain ⟨x1,x2,x3⟩:=KQ L m1 m hd
    unfold yX
    rcases ha with ⟨w,e,_,_,rfl⟩ | ⟨d,e,hd2,_,rfl⟩ | ⟨t,e,ht,hn,rfl⟩
    · obtain ⟨hv2,e1,e2⟩:=KR x1 hv
      rw [if_pos (by rw [e];rfl),dif_pos hv2,Bool.and_eq_true,decide_eq_true_eq]
      refine ⟨by rw [e,e1];rfl,ZE ho L (v+1) c g (by omega) hc ?_⟩
      have:part m (v+1) c g={ part m v c g with vars:=(part m v c g).vars++[w] }:=by
        unfold part
        simp only [e2]
      rw [this]
      exact hd
    · obtain ⟨hc2,e1,e2⟩:=KR x2 hc
      obtain ⟨k1,k2⟩:=y5k (Zy hd2)
      have hh:ws.headD []=wordT d.kind:=by rw [e];rfl
      rw [if_neg (by rw [hh];exact k1),if_neg (by rw [hh];exact k2),dif_pos hc2,Bool.and_eq_true,decide_eq_true_eq]
      have hin:=(Zx hd2).1
      have hin':∀ x∈yM d,inV m.vars x/\x<(v:Int):=fun x hx=>KP (hin x hx)
      refine ⟨⟨?_,?_⟩,ZE ho L v (c+1) g hv (by omega) ?_⟩
      · rw [e,e1]
        unfold conW
        rw [KC (V:=m.vars) (V':=m.vars.take v) fun x hx=>(ZB (hin' x hx).1 (hin' x hx).2).symm]
        rfl
      · rw [e1]
        exact far_lt.2 fun x hx=>(hin' x hx).2
      · have:part m v (c+1) g={ part m v c g with cons:=(part m v c g).cons++[d] }:=by
          unfold part
          simp only [e2]
        rw [this]
        exact hd
    · have hg:g=false:=hn
      subst hg
      obtain ⟨y1,y2⟩:=x3 rfl
      have y2':m.goal=t:=y2
      subst y2'
      rw [if_neg (by rw [e];exact y5l),if_pos (by rw [e];rfl)]
      have hin:∀ a∈m.goal,inV m.vars a.2/\a.2<(v:Int):=fun a ha=>KP (ht.2.2 a ha).2
      simp only [Bool.and_eq_true,decide_eq_true_eq,Bool.not_false]
      refine ⟨trivial,y1,⟨?_,?_⟩,ZE ho L v c true hv hc ?_⟩
      · rw [e]
        unfold Ym
        rw [Xq (V:=m.vars) (V':=m.vars.take v) fun a ha=>(ZB (hin a ha).1 (hin a ha).2).symm]
        rfl
      · refine far_lt.2 fun x hx=>?_
        obtain ⟨a,ha,rfl⟩:=List.mem_map.1 hx
        exact (hin a ha).2
      · have:part m v c true={ part m v c false with has:=true,goal:=m.goal }:=rfl
        rw [this]
        exact hd
theorem der_iff {s:List UInt8} {m:Mo}:derT s m=true↔yJ s=(m,(0,0)):=by
 rw [y5n]
 unfold derT
 rw [Bool.and_eq_true,Bool.and_eq_true,decide_eq_true_eq,decide_eq_true_eq]
 constructor
 ·rintro ⟨h1,h2,h3⟩
  obtain ⟨ho,hv⟩:=KG h1
  exact ⟨h2,ZD ho _ 0 0 false h3,hv⟩
 ·rintro ⟨h2,h3,hv⟩
  have ho:=KE _ _ _ h3 y5a
  exact ⟨y5b ho hv,h2,ZE ho _ 0 0 false (Nat.zero_le _) (Nat.zero_le _) h3⟩
end Go.Proofs.YthohnmplbjhjaaaGreatDoor
