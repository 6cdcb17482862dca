/-
  Put together: TpMath, TrMath, TwMath, TxNum, TxRead, TxCols, TxForm.
-/
import Derived.Test.YthohnmplbjhjaaaGreatDoorJ04
import Derived.Lib.ItoaLen
namespace Md
open Go.Lib (itoa)
def nm (l:List Vr) (x:Int):List UInt8:=(varAt l x).name.data.toList
def namesT (l:List Vr) (xs:List Int):List UInt8:=xs.flatMap fun x=>32 :: nm l x
def numsT (xs:List Int):List UInt8:=xs.flatMap fun n=>32 :: itoa n
def sumT (l:List Vr) (t:List (Int × Int)):List UInt8:=t.flatMap fun t=>32 :: (itoa t.1++32 :: nm l t.2)
def rowsT (r:List (List Int)):List UInt8:=r.flatMap fun r=>32 :: 58 :: numsT r
def opT (op:Int):List UInt8:=if op=1 then [60,61] else if op=2 then [61] else if op=3 then [62,61] else []
def restT (l:List Vr) (c:Cn):List UInt8:=
 if c.kind=1 then 32 :: opT c.op++(32 :: itoa c.k++sumT l c.terms)
 else if c.kind=2 then 32 :: nm l c.x++(32 :: nm l c.y++32 :: itoa c.k)
 else if c.kind=3 then namesT l c.xs
 else if c.kind=4 then 32 :: nm l c.x++(32 :: nm l c.y++numsT c.table)
 else if c.kind=5∨c.kind=6 then 32 :: nm l c.y++namesT l c.xs
 else if c.kind=7 then 32 :: nm l c.x++(32 :: 60 :: 61 :: (32 :: itoa c.k++sumT l c.terms))
 else if c.kind=8 then namesT l c.xs++rowsT c.rows
 else 32 :: opT c.op++(32 :: itoa c.k++(32 :: itoa c.v++namesT l c.xs))
def wordT (k:Int):List UInt8:=
 if k=1 then [108,105,110] else if k=2 then [110,101] else if k=3 then [97,108,108,100,105,102,102] else if k=4 then [101,108,101,109,101,110,116]
 else if k=5 then [109,97,120] else if k=6 then [109,105,110] else if k=7 then [114,101,105,102] else if k=8 then [116,97,98,108,101] else [99,111,117,110,116]
def conT (l:List Vr) (c:Cn):List UInt8:=wordT c.kind++restT l c
def varT (v:Vr):List UInt8:=118 :: 97 :: 114 :: 32 :: (v.name.data.toList++(32 :: itoa v.lo++32 :: itoa v.hi))
def varsT (l:List Vr):List UInt8:=l.flatMap fun v=>varT v++[10]
def consT (l:List Vr) (c:List Cn):List UInt8:=c.flatMap fun c=>conT l c++[10]
def goalT (m:Mo):List UInt8:=if m.has then 109 :: 105 :: 110 :: 105 :: 109 :: 105 :: 122 :: 101 :: (sumT m.vars m.goal++[10]) else []
def textT (m:Mo):List UInt8:=varsT m.vars++consT m.vars m.cons++goalT m
def print (m:Mo):List UInt8 × Int:=if (check m).2=0 then (if 65536<(textT m).length then ([],50) else (textT m,0)) else ([],(check m).2)
theorem flatMap_take {α β:Type} (f:α->List β) (l:List α) (k:Nat) (h:k<l.length):(l.take (k+1)).flatMap f=(l.take k).flatMap f++f l[k]:=by
 rw [List.take_succ_eq_append_getElem h,List.flatMap_append]
 simp
theorem flatMap_len {α β:Type} (f:α->List β) (n:Nat):∀ (l:List α),(∀ x∈l,(f x).length<=n)->(l.flatMap f).length<=n * l.length
  | [],_=>by simp
  | x :: l, h => by
    have h1:=h x (by simp)
    have h2:=flatMap_len f n l (fun y hy=>h y (by simp [hy]))
    rw [List.flatMap_cons,List.length_append,List.length_cons,Nat.mul_succ]
    omega
theorem flatMap_take_len {α β:Type} (f:α->List β) (n:Nat) (l:List α) (k:Nat) (h:∀ x∈l,(f x).length<=n):((l.take k).flatMap f).length<=n * l.length:=
 Nat.le_trans (flatMap_len f n (l.take k) (fun x hx=>h x (List.mem_of_mem_take hx))) (Nat.mul_le_mul_left n (by rw [List.length_take];omega))
theorem itoa_len {n:Int} (h:-1000000000<=n/\n<=1000000000):(itoa n).length<=21:=Go.Lib.itoa_length_le n (by omega) (by omega)
theorem name_len {s:List UInt8} (h:nameB s=true):s.length<=16:=by
 simp [nameB] at h
 omega
end Md

namespace Go.Proofs.YthohnmplbjhjaaaGreatDoor
open Md
def yc (l:List UInt8):ByteArray:=⟨l.toArray⟩
def blk (c:UInt8):Bool:=c==32||c==9
def wlen (l:List UInt8):Nat:=(l.takeWhile fun c=>!blk c).length
theorem Zf (l:List UInt8):wlen l<=l.length:=(List.takeWhile_sublist _).length_le
abbrev St:=List UInt8 × Int
def yl (s:St):Option (List UInt8 × St):=
 if s.2=0/\s.1.dropWhile blk≠[] then some ((s.1.dropWhile blk).take (wlen (s.1.dropWhile blk)),((s.1.dropWhile blk).drop (wlen (s.1.dropWhile blk)),0)) else none
def yh (e:Int) (s:St):St:=if s.2=0 then (s.1,e) else s
def ye (s:St):List UInt8 × St:=match yl s with
 | some p=>p
 | none=>([],yh 52 s)
def endT (s:St):St:=match yl s with
 | some p=>yh 57 p.2
 | none=>s
def zt (w x:List UInt8) (s:St):St:=if w=x then s else yh 51 s
def yT (V:List Vr) (w:List UInt8):Int:=match V.findIdx? (fun v=>v.name.data.toList==w) with
 | some i=>(i:Int)
 | none=>-1
def yF (V:List Vr) (w:List UInt8) (s:St):Int × St:=
 (yT V w,if yT V w<0 then yh 56 (if nameB w=true then s else yh 54 s) else (if nameB w=true then s else yh 54 s))
def yA (V:List Vr) (s:St):Int × St:=yF V (ye s).1 (ye s).2
def newT (V:List Vr) (s:St):List UInt8 × St:=
 ((ye s).1,if 0<=yT V (ye s).1 then yh 55 (if nameB (ye s).1=true then (ye s).2 else yh 54 (ye s).2) else (if nameB (ye s).1=true then (ye s).2 else yh 54 (ye s).2))
def opS (w:List UInt8):Int:=if w=[60,61] then 1 else if w=[61] then 2 else if w=[62,61] then 3 else 0
def rdOp (s:St):Int × St:=(opS (ye s).1,if opS (ye s).1=0 then yh 51 (ye s).2 else (ye s).2)
def digT (c:UInt8):Bool:=decide (48<=c.toNat/\c.toNat<=57)
def numT (d:List UInt8):Int:=d.foldl (fun n c=>min (10 * n+((c.toNat:Int)-48)) 1000000001) 0
def yI (w:List UInt8):Int × Bool:=
 let d:=if w.headD 0=45 then w.drop 1 else w
 if d=[]∨(d.headD 0=48/\w≠[48]) then (0,false) else if d.all digT=true then (if w.headD 0=45 then -(numT d) else numT d,true) else (0,false)
def ym (w:List UInt8) (s:St):Int × St:=((yI w).1,if (yI w).2=true then s else yh 53 s)
def yO (w:List UInt8) (s:St):Int × St:=((ym w s).1,if (ym w s).1 < -1000000000∨1000000000<(ym w s).1 then yh 46 (ym w s).2 else (ym w s).2)
def yK (s:St):Int × St:=yO (ye s).1 (ye s).2
def rdLo (s:St):Int × St:=let a:=ym (ye s).1 (ye s).2;(a.1,if boundsB a.1 a.1=true then a.2 else yh 42 a.2)
def rdHi (lo:Int) (s:St):Int × St:=let a:=ym (ye s).1 (ye s).2;(a.1,if boundsB lo a.1=true then a.2 else yh 42 a.2)
def zV (s:St):(Int × Int) × St:=(((rdLo s).1,(rdHi (rdLo s).1 (rdLo s).2).1),(rdHi (rdLo s).1 (rdLo s).2).2)
def cfT (c:Int) (s:St):St:=if c=0∨c < -1000000∨1000000<c then yh 45 s else s
def yQ (V:List Vr) (w:List UInt8) (s:St):(Int × Int) × St:=
 (((ym w s).1,(yA V (cfT (ym w s).1 (ym w s).2)).1),(yA V (cfT (ym w s).1 (ym w s).2)).2)
def yL {α:Type} (rd:List UInt8->St->α × St):Nat->List α->St->List α × St
  | 0, all, s => (match yl s with
    | none=>(all,s)
    | some p=>(all,yh 47 p.2))
  | k + 1, all, s => (match yl s with
    | none=>(all,s)
    | some p=>yL rd k (all++[(rd p.1 p.2).1]) (rd p.1 p.2).2)
def yq {α:Type} (rd:List UInt8->St->α × St) (s:St):List α × St:=yL rd 63 [(rd (ye s).1 (ye s).2).1] (rd (ye s).1 (ye s).2).2
def yS (V:List Vr):Nat->List Int->St->List Int × St
  | 0, xs, s => (match yl s with
    | none=>(xs,yh 52 s)
    | some p=>if p.1=[58] then (xs,p.2) else (xs,yh 47 p.2))
  | k + 1, xs, s => (match yl s with
    | none=>(xs,yh 52 s)
    | some p=>if p.1=[58] then (xs,p.2) else yS V k (xs++[(yF V p.1 p.2).1]) (yF V p.1 p.2).2)
def zE (V:List Vr) (s:St):List Int × St:=yS V 7 [(yA V s).1] (yA V s).2
def zn:Nat->List Int->St->List Int × St
 | 0,row,s=>(row,s)
 | k+1,row,s=>zn k (row++[(yK s).1]) (yK s).2
def yV (n:Nat) (w:List UInt8) (s:St):List Int × St:=zn (n-1) [(yO w s).1] (yO w s).2
def zd (n:Nat):Nat->List (List Int)->St->List (List Int) × St
  | 0, all, s => (match yl s with
    | none=>(all,s)
    | some p=>let q:=ye (zt p.1 [58] p.2);let r:=yV n q.1 (yh 47 q.2);(all++[r.1],r.2))
  | k + 1, all, s => (match yl s with
    | none=>(all,s)
    | some p=>let q:=ye (zt p.1 [58] p.2);let r:=yV n q.1 q.2;zd n k (all++[r.1]) r.2)
def zX (n:Nat) (s:St):List (List Int) × St:=zd n 63 [(yV n (ye s).1 (ye s).2).1] (yV n (ye s).1 (ye s).2).2
structure Sy where
 v:Vr
 c:Cn
def zv:Vr:=⟨⟨#[]⟩,0,0⟩
def zc (k:Int):Cn:=⟨k,0,[],0,0,0,0,[],[],[]⟩
def zm:Mo:=⟨[],[],false,[]⟩
def zM (w:List UInt8):Nat:=
 if w=[108,105,110] then 1 else if w=[110,101] then 2 else if w=[97,108,108,100,105,102,102] then 3 else if w=[101,108,101,109,101,110,116] then 4 else if w=[109,97,120] then 5 else if w=[109,105,110] then 6
 else if w=[114,101,105,102] then 7 else if w=[116,97,98,108,101] then 8 else if w=[99,111,117,110,116] then 9 else if w=[118,97,114] then 10 else if w=[109,105,110,105,109,105,122,101] then 11 else 0
def yY (k:Nat) (m:Mo):Int:=if k=10/\m.vars.length=32 then 40 else if k=11/\m.has=true then 58 else if k<=9/\m.cons.length=64 then 49 else 0
def fVar (V:List Vr) (s:St):Sy × St:=let n:=newT V s;let b:=zV n.2;(⟨⟨yc n.1,b.1.1,b.1.2⟩,zc 10⟩,endT b.2)
def fLin (V:List Vr) (s:St):Sy × St:=let o:=rdOp s;let n:=yK o.2;let t:=yq (yQ V) n.2;(⟨zv,⟨1,o.1,t.1,n.1,0,0,0,[],[],[]⟩⟩,t.2)
def fNe (V:List Vr) (s:St):Sy × St:=let x:=yA V s;let y:=yA V x.2;let n:=yK y.2;(⟨zv,⟨2,0,[],n.1,0,x.1,y.1,[],[],[]⟩⟩,endT n.2)
def fAll (V:List Vr) (s:St):Sy × St:=let l:=yq (yF V) s;(⟨zv,⟨3,0,[],0,0,0,0,l.1,[],[]⟩⟩,l.2)
def fEl (V:List Vr) (s:St):Sy × St:=let x:=yA V s;let y:=yA V x.2;let l:=yq yO y.2;(⟨zv,⟨4,0,[],0,0,x.1,y.1,[],l.1,[]⟩⟩,l.2)
def fMax (V:List Vr) (k:Int) (s:St):Sy × St:=let y:=yA V s;let l:=yq (yF V) y.2;(⟨zv,⟨k,0,[],0,0,0,y.1,l.1,[],[]⟩⟩,l.2)
def xt (V:List Vr) (s:St):Sy × St:=let x:=yA V s;let p:=ye x.2;let n:=yK (zt p.1 [60,61] p.2);let t:=yq (yQ V) n.2;(⟨zv,⟨7,0,t.1,n.1,0,x.1,0,[],[],[]⟩⟩,t.2)
def fTable (V:List Vr) (s:St):Sy × St:=let xs:=zE V s;let r:=zX xs.1.length xs.2;(⟨zv,⟨8,0,[],0,0,0,0,xs.1,[],r.1⟩⟩,r.2)
def Ye (V:List Vr) (s:St):Sy × St:=let o:=rdOp s;let k:=yK o.2;let v:=yK k.2;let l:=yq (yF V) v.2;(⟨zv,⟨9,o.1,[],k.1,v.1,0,0,l.1,[],[]⟩⟩,l.2)
def Yf (V:List Vr) (s:St):Sy × St:=let t:=yq (yQ V) s;(⟨zv,⟨11,0,t.1,0,0,0,0,[],[],[]⟩⟩,t.2)
def zy (V:List Vr) (k:Nat) (s:St):Sy × St:=
 if k=1 then fLin V s else if k=2 then fNe V s else if k=3 then fAll V s else if k=4 then fEl V s else if k=5 then fMax V 5 s else if k=6 then fMax V 6 s else if k=7 then xt V s else if k=8 then fTable V s else if k=9 then Ye V s else if k=10 then fVar V s else Yf V s
def sayT (m:Mo) (w:List UInt8) (s:St):Sy × St:=if zM w=0 then (⟨zv,zc 0⟩,yh 51 s) else zy m.vars (zM w) (yh (yY (zM w) m) s)
def layT (m:Mo) (y:Sy):Mo:=if y.c.kind=10 then { m with vars:=m.vars++[y.v] } else if y.c.kind=11 then { m with has:=true,goal:=y.c.terms } else { m with cons:=m.cons++[y.c] }
def yR (m:Mo) (l:List UInt8):Mo × Int:=match yl (l,0) with
 | none=>(m,0)
 | some p=>if p.1.headD 0=35 then (m,0) else if (sayT m p.1 p.2).2.2=0 then (layT m (sayT m p.1 p.2).1,0) else (m,(sayT m p.1 p.2).2.2)
def yx:List UInt8->List UInt8->List (List UInt8)
 | [],cur=>[cur]
 | c :: t,cur=>if c=10 then cur :: yx t [] else yx t (cur++[c])
def goT:List (List UInt8)->Nat->Mo->Mo × Option (Nat × Int)
 | [],_,m=>(m,none)
 | l :: t,i,m=>if (yR m l).2=0 then goT t (i+1) (yR m l).1 else (m,some (i,(yR m l).2))
def yJ (s:List UInt8):Mo × (Int × Int):=
 if 65536<s.length then (zm,(1,50)) else match goT (yx s []) 1 zm with
 | (_,some (i,e))=>(zm,((i:Int),e))
 | (m,none)=>if m.vars=[] then (zm,(((yx s []).length:Int),59)) else (m,(0,0))
theorem y4c (s:St):yh 0 s=s:=by
 unfold yh
 split
 ·rename_i h
  rw [<-h]
 ·rfl
theorem xU {e:Int} {s:St} (h:s.2≠0):yh e s=s:=by unfold yh;rw [if_neg h]
theorem yU (e:Int) (s:St):(yh e s).1=s.1:=by unfold yh;split <;> rfl
theorem zh {s:St} {p:List UInt8 × St} (h:yl s=some p):p.2.1.length<s.1.length/\p.1.length<=s.1.length/\p.2.2=0/\s.2=0/\p.1≠[]:=by
  unfold yl at h
  split at h
  · rename_i h1
    injection h with h
    subst h
    have h2:=(List.dropWhile_sublist (p:=blk) (l:=s.1)).length_le
    obtain ⟨r,hr⟩:∃ r,s.1.dropWhile blk=r:=⟨_,rfl⟩
    rw [hr] at h1 h2 ⊢
    cases r with
    | nil=>exact absurd rfl h1.2
    | cons c l =>
      have hc:blk c=false:=by
        have:=List.head?_dropWhile_not blk s.1
        rw [hr] at this
        simpa using this
      have hw:wlen (c :: l)=wlen l+1:=by unfold wlen;rw [List.takeWhile_cons_of_pos (by simp [hc])];rfl
      have hle:=Zf l
      rw [hw]
      simp only [List.length_cons] at h2
      refine ⟨by simp;omega,by simp;omega,rfl,h1.1,by simp⟩
  · cases h
theorem xr {s:St} (h:s.2≠0):yl s=none:=by unfold yl;rw [if_neg (fun e=>h e.1)]
end Go.Proofs.YthohnmplbjhjaaaGreatDoor

namespace Go.Proofs.YthohnmplbjhjaaaGreatDoor
open Md
def wd:List UInt8->List UInt8->List (List UInt8)
 | [],cur=>if cur=[] then [] else [cur]
 | c :: t,cur=>if blk c=true then (if cur=[] then wd t [] else cur :: wd t []) else wd t (cur++[c])
abbrev words (l:List UInt8):List (List UInt8):=wd l []
theorem Xm:∀ l:List UInt8,wd (l.dropWhile blk) []=wd l []
  | []=>rfl
  | c :: t => by
    by_cases h:blk c=true
    · rw [List.dropWhile_cons_of_pos h,Xm t]
      simp [wd,h]
    · rw [List.dropWhile_cons_of_neg h]
theorem Km:∀ (l cur:List UInt8),wd l cur=wd (l.drop (wlen l)) (cur++l.take (wlen l))
  | [],cur=>by simp [wlen,wd]
  | c :: t, cur => by
    by_cases h:blk c=true
    · have:wlen (c :: t)=0:=by unfold wlen;rw [List.takeWhile_cons_of_neg (by simp [h])];rfl
      rw [this]
      simp
    · have:wlen (c :: t)=wlen t+1:=by unfold wlen;rw [List.takeWhile_cons_of_pos (by simp [h])];rfl
      rw [this]
      show (if blk c=true then _ else wd t (cur++[c]))=_
      rw [if_neg h,Km t]
      simp
theorem y55:∀ (l cur:List UInt8),cur≠[]->(l=[]∨∃ c t,l=c :: t/\blk c=true)->wd l cur=cur :: wd l []
 | _,cur,h,.inl e=>by subst e;simp [wd,h]
 | _,cur,h,.inr ⟨c,t,e,hb⟩=>by subst e;simp [wd,h,hb]
theorem Kn:∀ l:List UInt8,l.drop (wlen l)=[]∨∃ c t,l.drop (wlen l)=c :: t/\blk c=true
  | []=>.inl (by simp)
  | c :: t => by
    by_cases h:blk c=true
    · have:wlen (c :: t)=0:=by unfold wlen;rw [List.takeWhile_cons_of_neg (by simp [h])];rfl
      rw [this]
      exact .inr ⟨c,t,rfl,h⟩
    · have:wlen (c :: t)=wlen t+1:=by unfold wlen;rw [List.takeWhile_cons_of_pos (by simp [h])];rfl
      rw [this,List.drop_succ_cons]
      exact Kn t
theorem Ko {s:St} (h0:s.2=0) (hd:s.1.dropWhile blk≠[]):∃ p,yl s=some p/\words s.1=p.1 :: words p.2.1:=by
  unfold yl
  rw [if_pos ⟨h0,hd⟩]
  refine ⟨_,rfl,?_⟩
  show wd s.1 []=_
  rw [<-Xm,Km]
  simp only [List.nil_append]
  refine y55 _ _ (fun e=>?_) (Kn _)
  obtain ⟨r,hr⟩:∃ r,s.1.dropWhile blk=r:=⟨_,rfl⟩
  rw [hr] at hd e
  cases r with
  | nil=>exact hd rfl
  | cons c l =>
    have hc:blk c=false:=by
      have:=List.head?_dropWhile_not blk s.1
      rw [hr] at this
      simpa using this
    have hw:wlen (c :: l)=wlen l+1:=by unfold wlen;rw [List.takeWhile_cons_of_pos (by simp [hc])];rfl
    rw [hw] at e
    simp at e
theorem Y6 {s:St} {p:List UInt8 × St} (h:yl s=some p):s.2=0/\p.2.2=0/\words s.1=p.1 :: words p.2.1:=by
 obtain ⟨_,_,h3,h4,_⟩:=zh h
 have hd:s.1.dropWhile blk≠[]:=fun e=>by unfold yl at h;rw [if_neg (fun q=>q.2 e)] at h;cases h
 obtain ⟨q,hq,hw⟩:=Ko h4 hd
 rw [h] at hq
 cases hq
 exact ⟨h4,h3,hw⟩
theorem YG {s:St} (h:yl s=none) (h0:s.2=0):words s.1=[]:=by
 by_cases hd:s.1.dropWhile blk=[]
 ·show wd s.1 []=[]
  rw [<-Xm,hd]
  rfl
 ·obtain ⟨q,hq,_⟩:=Ko h0 hd
  rw [h] at hq
  cases hq
theorem Yk {s:St} {w:List UInt8} {ws:List (List UInt8)} (h0:s.2=0) (hw:words s.1=w :: ws):∃ r,yl s=some (w,r)/\r.2=0/\words r.1=ws:=by
  cases h:yl s with
  | none=>rw [YG h h0] at hw;cases hw
  | some p =>
    obtain ⟨_,h2,h3⟩:=Y6 h
    rw [hw] at h3
    injection h3 with e1 e2
    exact ⟨p.2,by rw [e1],h2,e2.symm⟩
theorem Xn {s:St} (hw:words s.1=[]):yl s=none:=by
 cases h:yl s with
 | none=>rfl
 | some p=>obtain ⟨_,_,h3⟩:=Y6 h;rw [hw] at h3;cases h3
end Go.Proofs.YthohnmplbjhjaaaGreatDoor

namespace Go.Proofs.YthohnmplbjhjaaaGreatDoor
open Md Go.Lib
def dvF (a:Nat) (d:List UInt8):Nat:=d.foldl (fun n c=>10 * n+(c.toNat-48)) a
theorem KW (a:Nat) (d:List UInt8) (c:UInt8):dvF a (d++[c])=10 * dvF a d+(c.toNat-48):=by simp [dvF]
theorem KX:∀ (d:List UInt8) (a:Nat),a<=dvF a d
  | [],a=>Nat.le_refl _
  | c :: d, a => by
    have:=KX d (10 * a+(c.toNat-48))
    show a<=dvF (10 * a+(c.toNat-48)) d
    omega
theorem KY:∀ (d:List UInt8) (a:Int) (n:Nat),d.all digT=true->a=min (n:Int) 1000000001->d.foldl (fun n c=>min (10 * n+((c.toNat:Int)-48)) 1000000001) a=min ((dvF n d:Nat):Int) 1000000001
  | [],a,n,_,h=>h
  | c :: d, a, n, hd, h => by
    rw [List.all_cons,Bool.and_eq_true] at hd
    have hc:48<=c.toNat/\c.toNat<=57:=by simpa [digT] using hd.1
    refine KY d _ (10 * n+(c.toNat-48)) hd.2 ?_
    show min (10 * a+((c.toNat:Int)-48)) 1000000001=_
    omega
theorem ZG {d:List UInt8} (h:d.all digT=true):numT d=min ((dvF 0 d:Nat):Int) 1000000001:=KY d 0 0 h rfl
theorem Xy {u:Nat} (h:¬ u<10):decDigits u=decDigits (u / 10)++[UInt8.ofNat (48+u % 10)]:=by rw [decDigits,dif_neg h]
theorem KZ {c:UInt8} (h:digT c=true):UInt8.ofNat (48+(c.toNat-48))=c:=by
 have hc:48<=c.toNat/\c.toNat<=57:=by simpa [digT] using h
 have:48+(c.toNat-48)=c.toNat:=by omega
 rw [this]
 exact UInt8.ofNat_toNat
theorem y00 {d:List UInt8} (h:d.all digT=true) (h0:d≠[]) (h1:d.headD 0≠48):1<=dvF 0 d:=by
  cases d with
  | nil=>exact absurd rfl h0
  | cons c t =>
    rw [List.all_cons,Bool.and_eq_true] at h
    have hc:48<=c.toNat/\c.toNat<=57:=by simpa [digT] using h.1
    have hc2:c.toNat≠48:=fun e=>h1 (UInt8.toNat_inj.1 (by rw [List.headD_cons,e];rfl))
    have:=KX t (10 * 0+(c.toNat-48))
    show 1<=dvF (10 * 0+(c.toNat-48)) t
    omega
theorem Xz:∀ (n:Nat) (d:List UInt8),d.length<=n->d.all digT=true->d≠[]->d.headD 0≠48->decDigits (dvF 0 d)=d
  | 0,d,hl,_,h0,_=>absurd (List.length_eq_zero_iff.1 (by omega)) h0
  | n + 1, d, hl, hd, h0, h1 => by
    obtain ⟨t,c,rfl⟩:∃ t c,d=t++[c]:=⟨d.dropLast,d.getLast h0,(List.dropLast_concat_getLast h0).symm⟩
    rw [List.all_append,Bool.and_eq_true] at hd
    have hdc:digT c=true:=by simpa using hd.2
    have hc:48<=c.toNat/\c.toNat<=57:=by simpa [digT] using hdc
    rw [KW]
    by_cases ht:t=[]
    · subst ht
      show decDigits (10 * 0+(c.toNat-48))=[c]
      rw [decDigits_one (by omega),Nat.mul_zero,Nat.zero_add,KZ hdc]
    · have h2:t.headD 0≠48:=by
        cases t with
        | nil=>exact absurd rfl ht
        | cons a b=>simpa using h1
      have hp:=y00 hd.1 ht h2
      rw [Xy (by omega),show (10 * dvF 0 t+(c.toNat-48)) / 10=dvF 0 t by omega,show (10 * dvF 0 t+(c.toNat-48)) % 10=c.toNat-48 by omega,KZ hdc]
      rw [Xz n t (by simp at hl;omega) hd.1 ht h2]
theorem y01 {k:Nat} (h:k<10):digT (UInt8.ofNat (48+k))=true/\(UInt8.ofNat (48+k)).toNat=48+k:=by
 have h1:(UInt8.ofNat (48+k)).toNat=48+k:=by rw [UInt8.toNat_ofNat'];omega
 refine ⟨?_,h1⟩
 unfold digT
 rw [h1]
 exact decide_eq_true (by omega)
theorem y02 (u:Nat):(decDigits u).all digT=true/\dvF 0 (decDigits u)=u/\decDigits u≠[]/\(u≠0->(decDigits u).headD 0≠48):=by
  induction u using Nat.strongRecOn with
  | ind u ih =>
    by_cases h:u<10
    · rw [decDigits_one h]
      obtain ⟨h1,h2⟩:=y01 h
      refine ⟨by rw [List.all_cons,h1];rfl,?_,by simp,fun h0 e=>?_⟩
      · show 10 * 0+((UInt8.ofNat (48+u)).toNat-48)=u
        rw [h2]
        omega
      · have e':UInt8.ofNat (48+u)=48:=e
        have:=congrArg UInt8.toNat e'
        rw [h2] at this
        have h48:(48:UInt8).toNat=48:=rfl
        omega
    · obtain ⟨h1,h2,h3,h4⟩:=ih (u / 10) (by omega)
      obtain ⟨h5,h6⟩:=y01 (k:=u % 10) (by omega)
      rw [Xy h]
      refine ⟨by rw [List.all_append,h1,List.all_cons,h5];rfl,?_,by simp,fun _=>?_⟩
      · rw [KW,h2,h6]
        omega
      · have h7:=h4 (by omega)
        obtain ⟨r,hr⟩:∃ r,decDigits (u / 10)=r:=⟨_,rfl⟩
        rw [hr] at h3 h7 ⊢
        cases r with
        | nil=>exact absurd rfl h3
        | cons a b=>simpa using h7
theorem y5t {d:List UInt8} (h:d.all digT=true) (h0:d≠[]):d.headD 0≠45:=by
  cases d with
  | nil=>exact absurd rfl h0
  | cons c t =>
    rw [List.all_cons,Bool.and_eq_true] at h
    have hc:48<=c.toNat/\c.toNat<=57:=by simpa [digT] using h.1
    intro e
    have:c.toNat=45:=by rw [show c=45 from e];rfl
    omega
theorem y5u {w:List UInt8} {n:Int} (h:yI w=(n,true)) (hn:-1000000000<=n/\n<=1000000000):w=itoa n:=by
 unfold yI at h
 by_cases hm:w.headD 0=45
 ·rw [if_pos hm] at h
  obtain ⟨d,rfl⟩:∃ d,w=45 :: d:=by
   cases w with
   | nil=>exact absurd hm (by decide)
   | cons a b=>exact ⟨b,by rw [show a=45 from hm]⟩
  simp only [List.drop_succ_cons,List.drop_zero,List.headD_cons,if_true] at h
  split at h
  ·cases h
  rename_i h1
  split at h
  ·rename_i h2
   injection h with h3 _
   rw [ZG h2] at h3
   have h4:d≠[]:=fun e=>h1 (.inl e)
   have h5:d.headD 0≠48:=fun e=>h1 (.inr ⟨e,by simp⟩)
   have h6:=y00 h2 h4 h5
   unfold itoa
   rw [if_pos (by omega),show n.natAbs=dvF 0 d by omega,Xz _ d (Nat.le_refl _) h2 h4 h5]
  ·cases h
 ·simp only [if_neg hm] at h
  split at h
  ·cases h
  rename_i h1
  split at h
  ·rename_i h2
   injection h with h3 _
   rw [ZG h2] at h3
   have h4:w≠[]:=fun e=>h1 (.inl e)
   unfold itoa
   rw [if_neg (by omega),show n.toNat=dvF 0 w by omega]
   by_cases h5:w.headD 0=48
   ·have h6:w=[48]:=Decidable.not_not.1 fun e=>h1 (.inr ⟨h5,e⟩)
    rw [h6]
    show [48]=decDigits 0
    rw [decDigits_one (by decide)]
    rfl
   ·rw [Xz _ w (Nat.le_refl _) h2 h4 h5]
  ·cases h
theorem y5v {n:Int} (hn:-1000000000<=n/\n<=1000000000):yI (itoa n)=(n,true):=by
 unfold itoa
 by_cases h:n<0
 ·rw [if_pos h]
  obtain ⟨h1,h2,h3,h4⟩:=y02 n.natAbs
  have h5:=h4 (by omega)
  unfold yI
  simp only [List.headD_cons,if_true,List.drop_succ_cons,List.drop_zero]
  rw [if_neg (fun e=>e.elim h3 (fun e=>h5 e.1)),if_pos h1,ZG h1,h2]
  congr 1
  omega
 ·rw [if_neg h]
  obtain ⟨h1,h2,h3,h4⟩:=y02 n.toNat
  have h5:=y5t h1 h3
  unfold yI
  have hne:¬ (decDigits n.toNat=[]∨((decDigits n.toNat).headD 0=48/\decDigits n.toNat≠[48])):=fun e=>e.elim h3 fun e=>by
   by_cases h0:n.toNat=0
   ·refine e.2 ?_
    rw [h0,decDigits_one (by decide)]
    rfl
   ·exact h4 h0 e.1
  simp only [if_neg h5]
  rw [if_neg hne,if_pos h1,ZG h1,h2]
  congr 1
  omega
end Go.Proofs.YthohnmplbjhjaaaGreatDoor

namespace Go.Proofs.YthohnmplbjhjaaaGreatDoor
open Md Go.Lib
def Rd {α:Type} (f:St->α × St) (R:α->Prop) (F:α->List (List UInt8)):Prop:=
 (∀ s,(f s).2.2=0->s.2=0/\R (f s).1/\words s.1=F (f s).1++words (f s).2.1) /\
 ∀ s a rest,s.2=0->words s.1=F a++rest->R a->(f s).1=a/\(f s).2.2=0/\words (f s).2.1=rest
def RdW {α:Type} (rd:List UInt8->St->α × St) (R:α->Prop) (F:α->List (List UInt8)):Prop:=
 (∀ w s,(rd w s).2.2=0->s.2=0/\R (rd w s).1/\w :: words s.1=F (rd w s).1++words (rd w s).2.1) /\
 ∀ w s a rest,s.2=0->w :: words s.1=F a++rest->R a->(rd w s).1=a/\(rd w s).2.2=0/\words (rd w s).2.1=rest
def RdE {α:Type} (f:St->α × St) (R:α->Prop) (F:α->List (List UInt8)):Prop:=
 (∀ s,(f s).2.2=0->s.2=0/\R (f s).1/\words s.1=F (f s).1) /\
 ∀ s a,s.2=0->words s.1=F a->R a->(f s).1=a/\(f s).2.2=0
theorem zI {e:Int} (he:e≠0) (s:St):(yh e s).2≠0:=by
 unfold yh
 split
 ·exact he
 ·assumption
theorem Yl {s:St} (h:(ye s).2.2=0):s.2=0/\words s.1=(ye s).1 :: words (ye s).2.1:=by
 unfold ye at h ⊢
 cases ht:yl s with
 | none=>rw [ht] at h;exact absurd h (zI (by decide) s)
 | some p=>obtain ⟨h1,h2,h3⟩:=Y6 ht;exact ⟨h1,h3⟩
theorem YJ {s:St} {w:List UInt8} {ws:List (List UInt8)} (h0:s.2=0) (hw:words s.1=w :: ws):(ye s).1=w/\(ye s).2.2=0/\words (ye s).2.1=ws:=by
 obtain ⟨r,h1,h2,h3⟩:=Yk h0 hw
 unfold ye
 rw [h1]
 exact ⟨rfl,h2,h3⟩
theorem RdW.rd {α:Type} {rd:List UInt8->St->α × St} {R:α->Prop} {F:α->List (List UInt8)} (h:RdW rd R F) (hF:∀ a,R a->F a≠[]):Rd (fun s=>rd (ye s).1 (ye s).2) R F:=by
  refine ⟨fun s h0=>?_,fun s a rest h0 hw ha=>?_⟩
  · obtain ⟨h1,h2,h3⟩:=h.1 _ _ h0
    obtain ⟨h4,h5⟩:=Yl h1
    exact ⟨h4,h2,h5.trans h3⟩
  · have hne:=hF a ha
    obtain ⟨r,hr⟩:∃ r,F a=r:=⟨_,rfl⟩
    rw [hr] at hne hw
    cases r with
    | nil=>exact absurd rfl hne
    | cons w ws =>
      obtain ⟨h1,h2,h3⟩:=YJ h0 hw
      refine h.2 _ _ a rest h2 ?_ ha
      rw [h1,h3,hr]
      rfl
def inV (V:List Vr) (x:Int):Prop:=0<=x/\x<V.length
structure PV (V:List Vr):Prop where
 ok:∀ v∈V,nameB v.name.data.toList=true
 one:∀ (i j:Nat) (hi:i<V.length) (hj:j<V.length),V[i].name.data.toList=V[j].name.data.toList->i=j
theorem Xv {V:List Vr} {i:Nat} (h:i<V.length):nm V (i:Int)=V[i].name.data.toList:=by
 unfold nm varAt
 simp [List.getD,h]
theorem ZC {V:List Vr} {x:Int} (h:inV V x):∃ i,∃ hi:i<V.length,x=(i:Int)/\nm V x=V[i].name.data.toList:=by
 obtain ⟨h1,h2⟩:=h
 have hi:x.toNat<V.length:=by omega
 have hx:x=(x.toNat:Int):=by omega
 have h3:=Xv (V:=V) hi
 exact ⟨x.toNat,hi,hx,by rw [<-hx] at h3;exact h3⟩
theorem y5w {V:List Vr} {w:List UInt8} (h:0<=yT V w):inV V (yT V w)/\nm V (yT V w)=w:=by
  unfold yT at h ⊢
  cases hf:V.findIdx? (fun v=>v.name.data.toList==w) with
  | none=>rw [hf] at h;exact absurd h (by decide)
  | some i =>
    obtain ⟨h1,h2,_⟩:=List.findIdx?_eq_some_iff_getElem.1 hf
    refine ⟨⟨by simp,by simp;exact h1⟩,?_⟩
    simp only
    rw [Xv h1]
    exact eq_of_beq h2
theorem y03 {V:List Vr} (hV:PV V) {x:Int} (h:inV V x):yT V (nm V x)=x:=by
  obtain ⟨i,hi,hx,hn⟩:=ZC h
  unfold yT
  cases hf:V.findIdx? (fun v=>v.name.data.toList==nm V x) with
  | none =>
    have:=List.findIdx?_eq_none_iff.1 hf V[i] (List.getElem_mem hi)
    rw [hn] at this
    simp at this
  | some j =>
    obtain ⟨h1,h2,_⟩:=List.findIdx?_eq_some_iff_getElem.1 hf
    have h3:=eq_of_beq h2
    rw [hn] at h3
    have:=hV.one j i h1 hi h3
    simp only
    omega
theorem place_new {V:List Vr} {w:List UInt8}:yT V w<0↔∀ v∈V,v.name.data.toList≠w:=by
  unfold yT
  cases hf:V.findIdx? (fun v=>v.name.data.toList==w) with
  | none =>
    have:=List.findIdx?_eq_none_iff.1 hf
    refine ⟨fun _ v hv e=>?_,fun _=>by simp⟩
    have:=this v hv
    rw [e] at this
    simp at this
  | some j =>
    obtain ⟨h1,h2,_⟩:=List.findIdx?_eq_some_iff_getElem.1 hf
    refine ⟨fun h=>?_,fun h=>absurd (eq_of_beq h2) (h _ (List.getElem_mem h1))⟩
    simp only at h
    omega
theorem Ks {V:List Vr} (hV:PV V) {x:Int} (h:inV V x):nameB (nm V x)=true:=by
 obtain ⟨i,hi,_,hn⟩:=ZC h
 rw [hn]
 exact hV.ok _ (List.getElem_mem hi)
theorem Zv {V:List Vr} (hV:PV V):RdW (yF V) (inV V) (fun x=>[nm V x]):=by
 refine ⟨fun w s h0=>?_,fun w s a rest h0 hw ha=>?_⟩
 ·unfold yF at h0 ⊢
  by_cases hp:yT V w<0
  ·simp only [if_pos hp] at h0
   exact absurd h0 (zI (by decide) _)
  ·simp only [if_neg hp] at h0 ⊢
   obtain ⟨h1,h2⟩:=y5w (V:=V) (w:=w) (by omega)
   by_cases hn:nameB w=true
   ·simp only [if_pos hn] at h0 ⊢
    exact ⟨h0,h1,by rw [h2];rfl⟩
   ·simp only [if_neg hn] at h0
    exact absurd h0 (zI (by decide) _)
 ·injection hw with h1 h2
  subst h1
  have hp:¬ yT V (nm V a)<0:=by rw [y03 hV ha];have:=ha.1;omega
  unfold yF
  simp only [if_neg hp,if_pos (Ks hV ha)]
  exact ⟨y03 hV ha,h0,h2⟩
theorem zQ {V:List Vr} (hV:PV V):Rd (yA V) (inV V) (fun x=>[nm V x]):=(Zv hV).rd (fun _ _=>by simp)
theorem KS (V:List Vr):Rd (newT V) (fun w=>nameB w=true/\yT V w<0) (fun w=>[w]):=by
 refine ⟨fun s h0=>?_,fun s a rest h0 hw ha=>?_⟩
 ·unfold newT at h0 ⊢
  by_cases hp:0<=yT V (ye s).1
  ·simp only [if_pos hp] at h0
   exact absurd h0 (zI (by decide) _)
  ·simp only [if_neg hp] at h0 ⊢
   by_cases hn:nameB (ye s).1=true
   ·simp only [if_pos hn] at h0 ⊢
    obtain ⟨h1,h2⟩:=Yl h0
    exact ⟨h1,⟨hn,by omega⟩,h2⟩
   ·simp only [if_neg hn] at h0
    exact absurd h0 (zI (by decide) _)
 ·obtain ⟨h1,h2,h3⟩:=YJ h0 hw
  have hp:¬ 0<=yT V a:=by have:=ha.2;omega
  unfold newT
  rw [h1]
  simp only [if_neg hp,if_pos ha.1]
  exact ⟨trivial,h2,h3⟩
theorem y5x {w:List UInt8} (h:opS w≠0):1<=opS w/\opS w<=3/\w=opT (opS w):=by
 unfold opS at h ⊢
 split
 ·rename_i h1;exact ⟨by decide,by decide,by rw [h1];rfl⟩
 split
 ·rename_i h1;exact ⟨by decide,by decide,by rw [h1];rfl⟩
 split
 ·rename_i h1;exact ⟨by decide,by decide,by rw [h1];rfl⟩
 ·rename_i h1 h2 h3
  rw [if_neg h1,if_neg h2,if_neg h3] at h
  exact absurd rfl h
theorem y5y {o:Int} (h:1<=o/\o<=3):opS (opT o)=o:=by
 rcases (by omega:o=1∨o=2∨o=3) with rfl | rfl | rfl <;> rfl
theorem rd_op:Rd rdOp (fun o=>1<=o/\o<=3) (fun o=>[opT o]):=by
 refine ⟨fun s h0=>?_,fun s a rest h0 hw ha=>?_⟩
 ·unfold rdOp at h0 ⊢
  by_cases hp:opS (ye s).1=0
  ·simp only [if_pos hp] at h0
   exact absurd h0 (zI (by decide) _)
  ·simp only [if_neg hp] at h0 ⊢
   obtain ⟨h1,h2,h3⟩:=y5x hp
   obtain ⟨h4,h5⟩:=Yl h0
   exact ⟨h4,⟨h1,h2⟩,by rw [h5,<-h3];rfl⟩
 ·obtain ⟨h1,h2,h3⟩:=YJ h0 hw
  unfold rdOp
  rw [h1,y5y ha]
  rw [if_neg (by omega:¬ a=0)]
  exact ⟨rfl,h2,h3⟩
theorem ZH {w:List UInt8} {s:St} (h:(ym w s).2.2=0):s.2=0/\(yI w).2=true/\(ym w s).2=s:=by
 unfold ym at h ⊢
 by_cases hp:(yI w).2=true
 ·simp only [if_pos hp] at h ⊢
  exact ⟨h,hp,trivial⟩
 ·simp only [if_neg hp] at h
  exact absurd h (zI (by decide) _)
theorem ZI {w:List UInt8} (h:(yI w).2=true) (hn:-1000000000<=(yI w).1/\(yI w).1<=1000000000):w=itoa (yI w).1:=y5u (Prod.ext rfl h) hn
theorem ZJ {n:Int} (hn:-1000000000<=n/\n<=1000000000) (s:St):ym (itoa n) s=(n,s):=by
 unfold ym
 rw [y5v hn]
 rfl
theorem num_in {n:Int}:numB n=true↔-1000000000<=n/\n<=1000000000:=by simp [numB]
theorem rd_value:RdW yO (fun n=>numB n=true) (fun n=>[itoa n]):=by
 refine ⟨fun w s h0=>?_,fun w s a rest h0 hw ha=>?_⟩
 ·unfold yO at h0 ⊢
  by_cases hp:(ym w s).1 < -1000000000∨1000000000<(ym w s).1
  ·simp only [if_pos hp] at h0
   exact absurd h0 (zI (by decide) _)
  ·simp only [if_neg hp] at h0 ⊢
   obtain ⟨h1,h2,h3⟩:=ZH h0
   have hb:-1000000000<=(yI w).1/\(yI w).1<=1000000000:=by
    have:(ym w s).1=(yI w).1:=rfl
    omega
   refine ⟨h1,num_in.2 hb,?_⟩
   rw [h3]
   show w :: words s.1=itoa (yI w).1 :: words s.1
   rw [<-ZI h2 hb]
 ·injection hw with h1 h2
  subst h1
  have hb:=num_in.1 ha
  unfold yO
  rw [ZJ hb]
  rw [if_neg (by omega)]
  exact ⟨rfl,h0,h2⟩
theorem rd_number:Rd yK (fun n=>numB n=true) (fun n=>[itoa n]):=rd_value.rd (fun _ _=>by simp)
theorem rd_bounds:Rd zV (fun b=>boundsB b.1 b.2=true) (fun b=>[itoa b.1,itoa b.2]):=by
 refine ⟨fun s h0=>?_,fun s a rest h0 hw ha=>?_⟩
 ·unfold zV at h0 ⊢
  simp only at h0 ⊢
  obtain ⟨lo,hlo⟩:∃ lo,(rdLo s).1=lo:=⟨_,rfl⟩
  obtain ⟨r,hr⟩:∃ r,(rdLo s).2=r:=⟨_,rfl⟩
  rw [hlo,hr] at h0 ⊢
  unfold rdHi at h0 ⊢
  simp only at h0 ⊢
  by_cases hp:boundsB lo (ym (ye r).1 (ye r).2).1=true
  ·simp only [if_pos hp] at h0 ⊢
   obtain ⟨h1,h2,h3⟩:=ZH h0
   obtain ⟨h4,h5⟩:=Yl h1
   rw [<-hr] at h4
   unfold rdLo at h4 hlo hr
   simp only at h4 hlo hr
   by_cases hq:boundsB (ym (ye s).1 (ye s).2).1 (ym (ye s).1 (ye s).2).1=true
   ·rw [if_pos hq] at h4 hr
    obtain ⟨h6,h7,h8⟩:=ZH h4
    obtain ⟨h9,h10⟩:=Yl h6
    have hb:numB lo=true/\numB (ym (ye r).1 (ye r).2).1=true:=by
     unfold boundsB at hp
     rw [Bool.and_eq_true,Bool.and_eq_true] at hp
     exact hp.1
    have e1:=ZI h7 (by have:=num_in.1 hb.1;rw [<-hlo] at this;exact this)
    have e2:=ZI h2 (num_in.1 hb.2)
    refine ⟨h9,hp,?_⟩
    rw [h8] at hr
    rw [h10,hr,h5,h3,<-hlo]
    show _=itoa (yI (ye s).1).1 :: itoa (yI (ye r).1).1 :: _
    rw [<-e1,<-e2]
    rfl
   ·rw [if_neg hq] at h4
    exact absurd h4 (zI (by decide) _)
  ·simp only [if_neg hp] at h0
   exact absurd h0 (zI (by decide) _)
 ·obtain ⟨lo,hi⟩:=a
  simp only at hw ha
  have hb:numB lo=true/\numB hi=true:=by
   have:=ha
   unfold boundsB at this
   rw [Bool.and_eq_true,Bool.and_eq_true] at this
   exact this.1
  have hll:boundsB lo lo=true:=by simp [boundsB,hb.1]
  obtain ⟨h1,h2,h3⟩:=YJ h0 hw
  obtain ⟨h4,h5,h6⟩:=YJ h2 h3
  have e1:rdLo s=(lo,(ye s).2):=by
   unfold rdLo
   rw [h1,ZJ (num_in.1 hb.1)]
   simp only [if_pos hll]
  unfold zV
  rw [e1]
  unfold rdHi
  simp only
  rw [h4,ZJ (num_in.1 hb.2)]
  simp only [if_pos ha]
  exact ⟨trivial,h5,h6⟩
theorem cf_in {c:Int}:cfB c=true↔¬ (c=0∨c < -1000000∨1000000<c):=by simp [cfB]
theorem y5c {V:List Vr} (hV:PV V):RdW (yQ V) (fun t=>cfB t.1=true/\inV V t.2) (fun t=>[itoa t.1,nm V t.2]):=by
 refine ⟨fun w s h0=>?_,fun w s a rest h0 hw ha=>?_⟩
 ·unfold yQ at h0 ⊢
  simp only at h0 ⊢
  obtain ⟨h1,h2,h3⟩:=(zQ hV).1 _ h0
  unfold cfT at h1 h3
  by_cases hp:(ym w s).1=0∨(ym w s).1 < -1000000∨1000000<(ym w s).1
  ·rw [if_pos hp] at h1
   exact absurd h1 (zI (by decide) _)
  ·rw [if_neg hp] at h1 h3
   obtain ⟨h4,h5,h6⟩:=ZH h1
   have e1:=ZI h5 (by have:(ym w s).1=(yI w).1:=rfl;omega)
   have hcf:cfT (ym w s).1 (ym w s).2=s:=by unfold cfT;rw [if_neg hp,h6]
   rw [h6] at h3
   rw [hcf] at h2 ⊢
   refine ⟨h4,⟨cf_in.2 hp,h2⟩,?_⟩
   rw [h3]
   show _=itoa (yI w).1 :: _
   rw [<-e1]
   rfl
 ·injection hw with h1 h2
  subst h1
  have hb:=cf_in.1 ha.1
  unfold yQ
  rw [ZJ (by omega)]
  simp only
  unfold cfT
  rw [if_neg hb]
  obtain ⟨h3,h4,h5⟩:=(zQ hV).2 s a.2 rest h0 h2 ha.2
  exact ⟨by rw [h3],h4,h5⟩
theorem KI {s:St} (h:(endT s).2=0):s.2=0/\words s.1=[]:=by
 unfold endT at h
 cases ht:yl s with
 | none=>rw [ht] at h;exact ⟨h,YG ht h⟩
 | some p=>rw [ht] at h;exact absurd h (zI (by decide) _)
theorem KJ {s:St} (h:words s.1=[]):endT s=s:=by unfold endT;rw [Xn h]
theorem y04 {α:Type} {rd:List UInt8->St->α × St} {R:α->Prop} {F:α->List (List UInt8)} (hr:RdW rd R F):∀ (k:Nat) (all:List α) (s:St),(yL rd k all s).2.2=0->s.2=0/\∃ l,(yL rd k all s).1=all++l/\l.length<=k/\(∀ a∈l,R a)/\words s.1=l.flatMap F
  | 0, all, s, h => by
    unfold yL at h ⊢
    cases ht:yl s with
    | none=>rw [ht] at h;exact ⟨h,[],by simp,by simp,by simp,YG ht h⟩
    | some p=>rw [ht] at h;exact absurd h (zI (by decide) _)
  | k + 1, all, s, h => by
    unfold yL at h ⊢
    cases ht:yl s with
    | none=>rw [ht] at h;exact ⟨h,[],by simp,by simp,by simp,YG ht h⟩
    | some p =>
      rw [ht] at h
      simp only at h ⊢
      obtain ⟨h1,l,h2,h3,h4,h5⟩:=y04 hr k _ _ h
      obtain ⟨h6,h7,h8⟩:=hr.1 _ _ h1
      obtain ⟨h9,_,h10⟩:=Y6 ht
      refine ⟨h9,(rd p.1 p.2).1 :: l,by rw [h2];simp,by simp;omega,?_,?_⟩
      · intro a ha
        rcases List.mem_cons.1 ha with e | e
        · rw [e];exact h7
        · exact h4 a e
      · rw [h10,h8,h5]
        rfl
theorem y05 {α:Type} {rd:List UInt8->St->α × St} {R:α->Prop} {F:α->List (List UInt8)} (hr:RdW rd R F) (hF:∀ a,R a->F a≠[]):∀ (l:List α) (k:Nat) (all:List α) (s:St),l.length<=k->s.2=0->(∀ a∈l,R a)->words s.1=l.flatMap F->(yL rd k all s).1=all++l/\(yL rd k all s).2.2=0
  | [], k, all, s, _, h0, _, hw => by
    have ht:=Xn (s:=s) hw
    cases k <;> (unfold yL;rw [ht];exact ⟨by simp,h0⟩)
  | a :: l,0,all,s,hk,_,_,_=>by simp at hk
  | a :: l, k + 1, all, s, hk, h0, hR, hw => by
    have hne:=hF a (hR a (by simp))
    rw [List.flatMap_cons] at hw
    obtain ⟨r,hr2⟩:∃ r,F a=r:=⟨_,rfl⟩
    rw [hr2] at hne hw
    cases r with
    | nil=>exact absurd rfl hne
    | cons w ws =>
      obtain ⟨r,h1,h2,h3⟩:=Yk h0 hw
      obtain ⟨h4,h5,h6⟩:=hr.2 w r a (l.flatMap F) h2 (by rw [h3,hr2];rfl) (hR a (by simp))
      obtain ⟨h7,h8⟩:=y05 hr hF l k (all++[a]) (rd w r).2 (by simp at hk;omega) h5 (fun b hb=>hR b (by simp [hb])) h6
      unfold yL
      rw [h1]
      simp only
      rw [h4]
      exact ⟨by rw [h7];simp,h8⟩
theorem Xu {α:Type} {rd:List UInt8->St->α × St} {R:α->Prop} {F:α->List (List UInt8)} (hr:RdW rd R F) (hF:∀ a,R a->F a≠[]):RdE (yq rd) (fun l=>1<=l.length/\l.length<=64/\∀ a∈l,R a) (fun l=>l.flatMap F):=by
  have hr1:=hr.rd hF
  refine ⟨fun s h0=>?_,fun s l h0 hw hl=>?_⟩
  · obtain ⟨h1,l,h2,h3,h4,h5⟩:=y04 hr _ _ _ h0
    obtain ⟨h6,h7,h8⟩:=hr1.1 s h1
    unfold yq
    refine ⟨h6,⟨by rw [h2];simp,by rw [h2];simp;omega,?_⟩,?_⟩
    · rw [h2]
      intro a ha
      rcases List.mem_append.1 ha with e | e
      · rw [List.mem_singleton.1 e];exact h7
      · exact h4 a e
    · rw [h2,h8,h5]
      simp
  · obtain ⟨hl1,hl2,hl3⟩:=hl
    cases l with
    | nil=>simp at hl1
    | cons a l =>
      obtain ⟨h1,h2,h3⟩:=hr1.2 s a (l.flatMap F) h0 (by rw [hw];simp) (hl3 a (by simp))
      have:=y05 hr hF l 63 [a] (rd (ye s).1 (ye s).2).2 (by simp at hl2;omega) h2 (fun b hb=>hl3 b (by simp [hb])) h3
      unfold yq
      simp only at h1
      rw [h1]
      exact this
end Go.Proofs.YthohnmplbjhjaaaGreatDoor

namespace Go.Proofs.YthohnmplbjhjaaaGreatDoor
open Md Go.Lib
theorem y56 {w:List UInt8} (h:nameB w=true):w≠[58]:=fun e=>by rw [e] at h;exact absurd h (by decide)
theorem Kp {V:List Vr} (hV:PV V):∀ (k:Nat) (xs:List Int) (s:St),(yS V k xs s).2.2=0->s.2=0/\∃ l,(yS V k xs s).1=xs++l/\l.length<=k/\(∀ a∈l,inV V a)/\words s.1=l.map (nm V)++[58] :: words (yS V k xs s).2.1
  | 0, xs, s, h => by
    unfold yS at h ⊢
    cases ht:yl s with
    | none=>rw [ht] at h;exact absurd h (zI (by decide) _)
    | some p =>
      rw [ht] at h
      simp only at h ⊢
      by_cases hp:p.1=[58]
      · rw [if_pos hp] at h ⊢
        obtain ⟨h1,_,h3⟩:=Y6 ht
        exact ⟨h1,[],by simp,by simp,by simp,by rw [h3,hp];rfl⟩
      · rw [if_neg hp] at h
        exact absurd h (zI (by decide) _)
  | k + 1, xs, s, h => by
    unfold yS at h ⊢
    cases ht:yl s with
    | none=>rw [ht] at h;exact absurd h (zI (by decide) _)
    | some p =>
      rw [ht] at h
      simp only at h ⊢
      obtain ⟨h1,_,h3⟩:=Y6 ht
      by_cases hp:p.1=[58]
      · rw [if_pos hp] at h ⊢
        exact ⟨h1,[],by simp,by simp,by simp,by rw [h3,hp];rfl⟩
      · rw [if_neg hp] at h ⊢
        obtain ⟨h4,l,h5,h6,h7,h8⟩:=Kp hV k _ _ h
        obtain ⟨_,h10,h11⟩:=(Zv hV).1 _ _ h4
        refine ⟨h1,(yF V p.1 p.2).1 :: l,by rw [h5];simp,by simp;omega,?_,?_⟩
        · intro a ha
          rcases List.mem_cons.1 ha with e | e
          · rw [e];exact h10
          · exact h7 a e
        · rw [h3,h11,h8]
          rfl
theorem Kr {V:List Vr} (hV:PV V):∀ (l:List Int) (k:Nat) (xs:List Int) (s:St) (rest:List (List UInt8)),l.length<=k->s.2=0->(∀ a∈l,inV V a)->words s.1=l.map (nm V)++[58] :: rest->(yS V k xs s).1=xs++l/\(yS V k xs s).2.2=0/\words (yS V k xs s).2.1=rest
  | [], k, xs, s, rest, _, h0, _, hw => by
    obtain ⟨r,h1,h2,h3⟩:=Yk h0 hw
    cases k <;> (unfold yS;rw [h1];simp only [if_true];exact ⟨by simp,h2,h3⟩)
  | a :: l,0,xs,s,rest,hk,_,_,_=>by simp at hk
  | a :: l, k + 1, xs, s, rest, hk, h0, hR, hw => by
    obtain ⟨r,h1,h2,h3⟩:=Yk h0 hw
    have ha:=hR a (by simp)
    have hne:=y56 (Ks hV ha)
    obtain ⟨h4,h5,h6⟩:=(Zv hV).2 (nm V a) r a (l.map (nm V)++[58] :: rest) h2 (by rw [h3];rfl) ha
    obtain ⟨h7,h8,h9⟩:=Kr hV l k (xs++[a]) (yF V (nm V a) r).2 rest (by simp at hk;omega) h5 (fun b hb=>hR b (by simp [hb])) h6
    unfold yS
    rw [h1]
    simp only [if_neg hne]
    rw [h4]
    exact ⟨by rw [h7];simp,h8,h9⟩
theorem Kt {V:List Vr} (hV:PV V):Rd (zE V) (fun l=>1<=l.length/\l.length<=8/\∀ a∈l,inV V a) (fun l=>l.map (nm V)++[[58]]):=by
  refine ⟨fun s h0=>?_,fun s l rest h0 hw hl=>?_⟩
  · obtain ⟨h1,l,h2,h3,h4,h5⟩:=Kp hV _ _ _ h0
    obtain ⟨h6,h7,h8⟩:=(zQ hV).1 s h1
    unfold zE
    refine ⟨h6,⟨by rw [h2];simp,by rw [h2];simp;omega,?_⟩,?_⟩
    · rw [h2]
      intro a ha
      rcases List.mem_append.1 ha with e | e
      · rw [List.mem_singleton.1 e];exact h7
      · exact h4 a e
    · rw [h2,h8,h5]
      simp
  · obtain ⟨hl1,hl2,hl3⟩:=hl
    cases l with
    | nil=>simp at hl1
    | cons a l =>
      obtain ⟨h1,h2,h3⟩:=(zQ hV).2 s a (l.map (nm V)++[58] :: rest) h0 (by rw [hw];simp) (hl3 a (by simp))
      have:=Kr hV l 7 [a] (yA V s).2 rest (by simp at hl2;omega) h2 (fun b hb=>hl3 b (by simp [hb])) h3
      unfold zE
      rw [h1]
      exact this
theorem Ku:∀ (k:Nat) (row:List Int) (s:St),(zn k row s).2.2=0->s.2=0/\∃ l,(zn k row s).1=row++l/\l.length=k/\(∀ a∈l,numB a=true)/\words s.1=l.map itoa++words (zn k row s).2.1
  | 0,row,s,h=>⟨h,[],by simp [zn],rfl,by simp,by simp [zn]⟩
  | k + 1, row, s, h => by
    unfold zn at h ⊢
    obtain ⟨h1,l,h2,h3,h4,h5⟩:=Ku k _ _ h
    obtain ⟨h6,h7,h8⟩:=rd_number.1 s h1
    refine ⟨h6,(yK s).1 :: l,by rw [h2];simp,by simp [h3],?_,by rw [h8,h5];rfl⟩
    intro a ha
    rcases List.mem_cons.1 ha with e | e
    · rw [e];exact h7
    · exact h4 a e
theorem Kv:∀ (l row:List Int) (s:St) (rest:List (List UInt8)),s.2=0->(∀ a∈l,numB a=true)->words s.1=l.map itoa++rest->(zn l.length row s).1=row++l/\(zn l.length row s).2.2=0/\words (zn l.length row s).2.1=rest
  | [],row,s,rest,h0,_,hw=>⟨by simp [zn],h0,hw⟩
  | a :: l, row, s, rest, h0, hR, hw => by
    obtain ⟨h1,h2,h3⟩:=rd_number.2 s a (l.map itoa++rest) h0 (by rw [hw];rfl) (hR a (by simp))
    obtain ⟨h4,h5,h6⟩:=Kv l (row++[a]) (yK s).2 rest h2 (fun b hb=>hR b (by simp [hb])) h3
    show (zn l.length (row++[(yK s).1]) (yK s).2).1=_/\(zn l.length (row++[(yK s).1]) (yK s).2).2.2=0/\words (zn l.length (row++[(yK s).1]) (yK s).2).2.1=rest
    rw [h1]
    exact ⟨by rw [h4];simp,h5,h6⟩
theorem Zw {n:Nat} (hn:1<=n):RdW (yV n) (fun l=>l.length=n/\∀ a∈l,numB a=true) (fun l=>l.map itoa):=by
  refine ⟨fun w s h0=>?_,fun w s l rest h0 hw hl=>?_⟩
  · obtain ⟨h1,l,h2,h3,h4,h5⟩:=Ku _ _ _ h0
    obtain ⟨h6,h7,h8⟩:=rd_value.1 w s h1
    unfold yV
    refine ⟨h6,⟨by rw [h2];simp;omega,?_⟩,?_⟩
    · rw [h2]
      intro a ha
      rcases List.mem_append.1 ha with e | e
      · rw [List.mem_singleton.1 e];exact h7
      · exact h4 a e
    · rw [h2,h8,h5]
      simp
  · obtain ⟨hl1,hl2⟩:=hl
    cases l with
    | nil=>simp at hl1;omega
    | cons a l =>
      obtain ⟨h1,h2,h3⟩:=rd_value.2 w s a (l.map itoa++rest) h0 (by rw [hw];simp) (hl2 a (by simp))
      have:=Kv l [a] (yO w s).2 rest h2 (fun b hb=>hl2 b (by simp [hb])) h3
      unfold yV
      rw [h1,show n-1=l.length by simp at hl1;omega]
      exact this
def rowW (r:List Int):List (List UInt8):=[58] :: r.map itoa
theorem Kw {w x:List UInt8} {s:St} (h:(zt w x s).2=0):w=x/\zt w x s=s:=by
 unfold zt at h ⊢
 by_cases hp:w=x
 ·exact ⟨hp,if_pos hp⟩
 ·rw [if_neg hp] at h
  exact absurd h (zI (by decide) _)
theorem Kx {n:Nat} (hn:1<=n):∀ (k:Nat) (all:List (List Int)) (s:St),(zd n k all s).2.2=0->s.2=0/\∃ l,(zd n k all s).1=all++l/\l.length<=k/\(∀ r∈l,r.length=n/\∀ a∈r,numB a=true)/\words s.1=l.flatMap rowW
  | 0, all, s, h => by
    unfold zd at h ⊢
    cases ht:yl s with
    | none=>rw [ht] at h;exact ⟨h,[],by simp,by simp,by simp,YG ht h⟩
    | some p =>
      rw [ht] at h
      exact absurd ((Zw hn).1 _ _ h).1 (zI (by decide) _)
  | k + 1, all, s, h => by
    unfold zd at h ⊢
    cases ht:yl s with
    | none=>rw [ht] at h;exact ⟨h,[],by simp,by simp,by simp,YG ht h⟩
    | some p =>
      rw [ht] at h
      simp only at h ⊢
      obtain ⟨h1,l,h2,h3,h4,h5⟩:=Kx hn k _ _ h
      obtain ⟨h6,h7,h8⟩:=(Zw hn).1 _ _ h1
      obtain ⟨h9,h10⟩:=Yl h6
      obtain ⟨h11,h12⟩:=Kw h9
      obtain ⟨h13,_,h15⟩:=Y6 ht
      obtain ⟨q,hq⟩:∃ q,ye (zt p.1 [58] p.2)=q:=⟨_,rfl⟩
      rw [hq] at h2 h7 h8 h5 h10 ⊢
      refine ⟨h13,(yV n q.1 q.2).1 :: l,by rw [h2];simp,by simp;omega,?_,?_⟩
      · intro a ha
        rcases List.mem_cons.1 ha with e | e
        · rw [e];exact h7
        · exact h4 a e
      · rw [h12] at h10
        rw [h15,h10,h8,h5,h11]
        rfl
theorem Ky {n:Nat} (hn:1<=n):∀ (l:List (List Int)) (k:Nat) (all:List (List Int)) (s:St),l.length<=k->s.2=0->(∀ r∈l,r.length=n/\∀ a∈r,numB a=true)->words s.1=l.flatMap rowW->(zd n k all s).1=all++l/\(zd n k all s).2.2=0
  | [], k, all, s, _, h0, _, hw => by
    have ht:=Xn (s:=s) hw
    cases k <;> (unfold zd;rw [ht];exact ⟨by simp,h0⟩)
  | a :: l,0,all,s,hk,_,_,_=>by simp at hk
  | a :: l, k + 1, all, s, hk, h0, hR, hw => by
    have ha:=hR a (by simp)
    rw [List.flatMap_cons] at hw
    obtain ⟨r,h1,h2,h3⟩:=Yk (w:=[58]) (ws:=a.map itoa++l.flatMap rowW) h0 hw
    have hm:zt [58] [58] r=r:=rfl
    have hrd:=((Zw hn).rd (fun b hb=>by
      have:=hb.1
      cases b with
      | nil=>simp at this;omega
      | cons c d=>simp)).2 r a (l.flatMap rowW) h2 h3 ha
    obtain ⟨h4,h5,h6⟩:=hrd
    obtain ⟨h7,h8⟩:=Ky hn l k (all++[a]) (yV n (ye r).1 (ye r).2).2 (by simp at hk;omega) h5 (fun b hb=>hR b (by simp [hb])) h6
    unfold zd
    rw [h1]
    simp only
    rw [hm]
    simp only at h4
    rw [h4]
    exact ⟨by rw [h7];simp,h8⟩
theorem Kz {n:Nat} (hn:1<=n):RdE (zX n) (fun l=>1<=l.length/\l.length<=64/\∀ r∈l,r.length=n/\∀ a∈r,numB a=true) (fun l=>(l.flatMap rowW).tail):=by
  have hr1:=(Zw hn).rd (fun b hb=>by
      have:=hb.1
      cases b with
      | nil=>simp at this;omega
      | cons c d=>simp)
  refine ⟨fun s h0=>?_,fun s l h0 hw hl=>?_⟩
  · obtain ⟨h1,l,h2,h3,h4,h5⟩:=Kx hn _ _ _ h0
    obtain ⟨h6,h7,h8⟩:=hr1.1 s h1
    unfold zX
    refine ⟨h6,⟨by rw [h2];simp,by rw [h2];simp;omega,?_⟩,?_⟩
    · rw [h2]
      intro a ha
      rcases List.mem_append.1 ha with e | e
      · rw [List.mem_singleton.1 e];exact h7
      · exact h4 a e
    · rw [h2,h8,h5]
      simp [rowW]
  · obtain ⟨hl1,hl2,hl3⟩:=hl
    cases l with
    | nil=>simp at hl1
    | cons a l =>
      obtain ⟨h1,h2,h3⟩:=hr1.2 s a (l.flatMap rowW) h0 (by rw [hw];simp [rowW]) (hl3 a (by simp))
      have:=Ky hn l 63 [a] (yV n (ye s).1 (ye s).2).2 (by simp at hl2;omega) h2 (fun b hb=>hl3 b (by simp [hb])) h3
      unfold zX
      simp only at h1
      rw [h1]
      exact this
end Go.Proofs.YthohnmplbjhjaaaGreatDoor

namespace Go.Proofs.YthohnmplbjhjaaaGreatDoor
open Md Go.Lib
theorem fault_iff {c:Cn} {n:Int}:fault c n=0↔kindBad c.kind c.op=false/\plainBad c=false/\listBad c=false/\manyBad c=false/\placesB c n=true/\coefsB c.terms=true/\numsB c=true:=by
 unfold fault
 cases h1:kindBad c.kind c.op
 ·cases h2:plainBad c
  ·cases h3:listBad c
   ·cases h4:manyBad c
    ·cases h5:placesB c n
     ·simp
     ·cases h6:coefsB c.terms
      ·simp
      ·cases h7:numsB c <;> simp
    ·simp
   ·simp
  ·simp
 ·simp
theorem xD {c:Cn} {n:Int} (h:fault c n=0):(fOp c.kind=false->c.op=0)/\(fK c.kind=false->c.k=0)/\(fV c.kind=false->c.v=0)/\(fX c.kind=false->c.x=0)/\(fY c.kind=false->c.y=0) /\
  (fTerms c.kind=false->c.terms=[])/\(fXs c.kind=false->c.xs=[])/\(Md.fTable c.kind=false->c.table=[])/\(fRows c.kind=false->c.rows=[]):=by
 obtain ⟨_,h2,h3,_⟩:=fault_iff.1 h
 simp only [plainBad,Bool.or_eq_false_iff,Bool.and_eq_false_iff,Bool.not_eq_false',bne_eq_false_iff_eq] at h2
 simp only [listBad,Bool.or_eq_false_iff,Bool.and_eq_false_iff,Bool.not_eq_false',decide_eq_false_iff_not] at h3
 obtain ⟨⟨⟨⟨a1,a2⟩,a3⟩,a4⟩,a5⟩:=h2
 obtain ⟨⟨⟨b1,b2⟩,b3⟩,b4⟩:=h3
 have hz:∀ {α:Type} (l:List α),¬ 0<l.length->l=[]:=fun l hl=>List.length_eq_zero_iff.1 (by omega)
 exact ⟨fun e=>a1.resolve_left (by rw [e];decide),fun e=>a2.resolve_left (by rw [e];decide),fun e=>a3.resolve_left (by rw [e];decide),fun e=>a4.resolve_left (by rw [e];decide),fun e=>a5.resolve_left (by rw [e];decide),
  fun e=>hz _ (b1.resolve_left (by rw [e];decide)),fun e=>hz _ (b2.resolve_left (by rw [e];decide)),fun e=>hz _ (b3.resolve_left (by rw [e];decide)),fun e=>hz _ (b4.resolve_left (by rw [e];decide))⟩
theorem pl_in {V:List Vr} {x:Int}:plB (V.length:Int) x=true↔inV V x:=by simp [plB,inV]
def nmsW (V:List Vr) (l:List Int):List (List UInt8):=l.flatMap fun x=>[nm V x]
def numW (l:List Int):List (List UInt8):=l.flatMap fun n=>[itoa n]
def sumW (V:List Vr) (t:List (Int × Int)):List (List UInt8):=t.flatMap fun t=>[itoa t.1,nm V t.2]
def conR (V:List Vr) (c:Cn):List (List UInt8):=
 if c.kind=1 then opT c.op :: itoa c.k :: sumW V c.terms
 else if c.kind=2 then [nm V c.x,nm V c.y,itoa c.k]
 else if c.kind=3 then nmsW V c.xs
 else if c.kind=4 then nm V c.x :: nm V c.y :: numW c.table
 else if c.kind=5∨c.kind=6 then nm V c.y :: nmsW V c.xs
 else if c.kind=7 then nm V c.x :: [60,61] :: itoa c.k :: sumW V c.terms
 else if c.kind=8 then c.xs.map (nm V)++c.rows.flatMap rowW
 else opT c.op :: itoa c.k :: itoa c.v :: nmsW V c.xs
def cnR (V:List Vr) (k:Int) (y:Sy):Prop:=y.v=zv/\y.c.kind=k/\fault y.c (V.length:Int)=0
theorem Xo {V:List Vr} {x:Int} (h:inV V x):inV V 0:=⟨by omega,by have:=h.1;have:=h.2;omega⟩
theorem YH {V:List Vr} (hV:PV V):RdE (yq (yF V)) (fun l=>1<=l.length/\l.length<=64/\∀ a∈l,inV V a) (nmsW V):=Xu (Zv hV) (fun _ _=>by simp)
theorem YI {V:List Vr} (hV:PV V):RdE (yq (yQ V)) (fun l=>1<=l.length/\l.length<=64/\∀ a∈l,cfB a.1=true/\inV V a.2) (sumW V):=Xu (y5c hV) (fun _ _=>by simp)
theorem nums_list:RdE (yq yO) (fun l=>1<=l.length/\l.length<=64/\∀ a∈l,numB a=true) numW:=Xu rd_value (fun _ _=>by simp)
theorem Zz {V:List Vr} {l:List Int} (h:1<=l.length) (hl:∀ a∈l,inV V a):inV V 0:=by
 cases l with
 | nil=>simp at h
 | cons a l=>exact Xo (hl a (by simp))
theorem KH {V:List Vr} {l:List (Int × Int)} (h:1<=l.length) (hl:∀ a∈l,cfB a.1=true/\inV V a.2):inV V 0:=by
 cases l with
 | nil=>simp at h
 | cons a l=>exact Xo (hl a (by simp)).2
theorem xv {n m:Nat} (h:1<=n/\n<=m):fewB n m=false:=by unfold fewB;exact decide_eq_false (by omega)
theorem xb {n m:Nat} (h:fewB n m=false):1<=n/\n<=m:=by unfold fewB at h;have:=of_decide_eq_false h;omega
theorem all_in {V:List Vr} {l:List Int}:l.all (plB (V.length:Int))=true↔∀ a∈l,inV V a:=by
 rw [List.all_eq_true]
 exact ⟨fun h a ha=>pl_in.1 (h a ha),fun h a ha=>pl_in.2 (h a ha)⟩
theorem all_in2 {V:List Vr} {l:List (Int × Int)}:(l.all (fun t=>plB (V.length:Int) t.2)=true/\coefsB l=true)↔∀ a∈l,cfB a.1=true/\inV V a.2:=by
 unfold coefsB
 rw [List.all_eq_true,List.all_eq_true]
 exact ⟨fun h a ha=>⟨h.2 a ha,pl_in.1 (h.1 a ha)⟩,fun h=>⟨fun a ha=>pl_in.2 (h a ha).2,fun a ha=>(h a ha).1⟩⟩
theorem lin_iff {V:List Vr} {o k:Int} {t:List (Int × Int)}:fault ⟨1,o,t,k,0,0,0,[],[],[]⟩ (V.length:Int)=0↔(1<=o/\o<=3)/\numB k=true/\1<=t.length/\t.length<=64/\∀ a∈t,cfB a.1=true/\inV V a.2:=by
 rw [fault_iff]
 constructor
 ·rintro ⟨h1,_,_,h4,h5,h6,h7⟩
  have h1':1<=o/\o<=3:=by
   simp only [kindBad,fOp,Bool.or_eq_false_iff,Bool.and_eq_false_iff,decide_eq_false_iff_not] at h1
   have:=h1.2.resolve_left (by decide)
   omega
  simp only [manyBad,Bool.or_eq_false_iff,Bool.and_eq_false_iff] at h4
  have h4':=xb (h4.1.1.1.1.resolve_left (by decide))
  simp only [placesB,Bool.and_eq_true] at h5
  simp only [numsB,Bool.and_eq_true] at h7
  exact ⟨h1',h7.1.1.1,h4'.1,h4'.2,all_in2.1 ⟨h5.1.2,h6⟩⟩
 ·rintro ⟨h1,h2,h3,h4,h5⟩
  obtain ⟨h6,h7⟩:=all_in2.2 h5
  have h8:plB (V.length:Int) 0=true:=pl_in.2 (KH h3 h5)
  refine ⟨?_,rfl,rfl,?_,?_,h7,?_⟩
  ·unfold kindBad
   rw [decide_eq_false (by omega:¬ ((1:Int)<1∨9<(1:Int))),decide_eq_false (by omega:¬ (o<1∨3<o))]
   rfl
  ·unfold manyBad
   simp only [xv ⟨h3,h4⟩]
   rfl
  ·unfold placesB
   simp only [h8,h6]
   rfl
  ·unfold numsB
   simp only [h2]
   rfl
theorem y5d {V:List Vr} (hV:PV V):RdE (fLin V) (cnR V 1) (fun y=>conR V y.c):=by
 refine ⟨fun s h0=>?_,fun s y h0 hw hy=>?_⟩
 ·obtain ⟨h1,h2,h3⟩:=(YI hV).1 _ h0
  obtain ⟨h4,h5,h6⟩:=rd_number.1 _ h1
  obtain ⟨h7,h8,h9⟩:=rd_op.1 _ h4
  exact ⟨h7,⟨rfl,rfl,lin_iff.2 ⟨h8,h5,h2⟩⟩,by rw [h9,h6,h3];rfl⟩
 ·obtain ⟨v,kind,op,t,k,vv,x,yy,xs,tb,r⟩:=y
  obtain ⟨h1,h2,h3⟩:=hy
  simp only at h1 h2 h3
  subst h1;subst h2
  obtain ⟨_,_,p3,p4,p5,_,p7,p8,p9⟩:=xD h3
  have e1:=p3 rfl;have e2:=p4 rfl;have e3:=p5 rfl;have e4:=p7 rfl;have e5:=p8 rfl;have e6:=p9 rfl
  simp only at e1 e2 e3 e4 e5 e6
  subst e1 e2 e3 e4 e5 e6
  obtain ⟨q1,q2,q3⟩:=lin_iff.1 h3
  obtain ⟨a1,a2,a3⟩:=rd_op.2 s op _ h0 hw q1
  obtain ⟨b1,b2,b3⟩:=rd_number.2 _ k _ a2 a3 q2
  obtain ⟨c1,c2⟩:=(YI hV).2 _ t b2 b3 q3
  unfold fLin
  simp only [a1,b1,c1]
  exact ⟨trivial,c2⟩
theorem ne_iff {V:List Vr} {x y k:Int}:fault ⟨2,0,[],k,0,x,y,[],[],[]⟩ (V.length:Int)=0↔inV V x/\inV V y/\numB k=true:=by
 rw [fault_iff]
 constructor
 ·rintro ⟨_,_,_,_,h5,_,h7⟩
  simp only [placesB,Bool.and_eq_true] at h5
  simp only [numsB,Bool.and_eq_true] at h7
  exact ⟨pl_in.1 h5.1.1.1,pl_in.1 h5.1.1.2,h7.1.1.1⟩
 ·rintro ⟨h1,h2,h3⟩
  refine ⟨rfl,rfl,rfl,rfl,?_,rfl,?_⟩
  ·unfold placesB
   simp only [pl_in.2 h1,pl_in.2 h2]
   rfl
  ·unfold numsB
   simp only [h3]
   rfl
theorem y5e {V:List Vr} (hV:PV V):RdE (fNe V) (cnR V 2) (fun y=>conR V y.c):=by
 refine ⟨fun s h0=>?_,fun s y h0 hw hy=>?_⟩
 ·obtain ⟨h1,h2⟩:=KI h0
  obtain ⟨h4,h5,h6⟩:=rd_number.1 _ h1
  obtain ⟨h7,h8,h9⟩:=(zQ hV).1 _ h4
  obtain ⟨h10,h11,h12⟩:=(zQ hV).1 _ h7
  exact ⟨h10,⟨rfl,rfl,ne_iff.2 ⟨h11,h8,h5⟩⟩,by rw [h12,h9,h6,h2];rfl⟩
 ·obtain ⟨v,kind,op,t,k,vv,x,yy,xs,tb,r⟩:=y
  obtain ⟨h1,h2,h3⟩:=hy
  simp only at h1 h2 h3
  subst h1;subst h2
  obtain ⟨p1,_,p3,_,_,p6,p7,p8,p9⟩:=xD h3
  have e1:=p1 rfl;have e2:=p3 rfl;have e3:=p6 rfl;have e4:=p7 rfl;have e5:=p8 rfl;have e6:=p9 rfl
  simp only at e1 e2 e3 e4 e5 e6
  subst e1 e2 e3 e4 e5 e6
  obtain ⟨q1,q2,q3⟩:=ne_iff.1 h3
  obtain ⟨a1,a2,a3⟩:=(zQ hV).2 s x [nm V yy,itoa k] h0 hw q1
  obtain ⟨b1,b2,b3⟩:=(zQ hV).2 _ yy [itoa k] a2 a3 q2
  obtain ⟨c1,c2,c3⟩:=rd_number.2 _ k [] b2 b3 q3
  unfold fNe
  simp only [a1,b1,c1]
  exact ⟨trivial,by rw [KJ c3];exact c2⟩
theorem all_iff {V:List Vr} {xs:List Int}:fault ⟨3,0,[],0,0,0,0,xs,[],[]⟩ (V.length:Int)=0↔1<=xs.length/\xs.length<=64/\∀ a∈xs,inV V a:=by
 rw [fault_iff]
 constructor
 ·rintro ⟨_,_,_,h4,h5,_,_⟩
  simp only [manyBad,Bool.or_eq_false_iff,Bool.and_eq_false_iff] at h4
  have h4':=xb (h4.1.1.1.2.resolve_left (by decide))
  simp only [placesB,Bool.and_eq_true] at h5
  exact ⟨h4'.1,h4'.2,all_in.1 h5.2⟩
 ·rintro ⟨h1,h2,h3⟩
  have h8:plB (V.length:Int) 0=true:=pl_in.2 (Zz h1 h3)
  refine ⟨rfl,rfl,rfl,?_,?_,rfl,rfl⟩
  ·unfold manyBad mostXs
   simp only [if_neg (by decide:¬ (3:Int)=8),xv ⟨h1,h2⟩]
   rfl
  ·unfold placesB
   simp only [h8,all_in.2 h3]
   rfl
theorem y5f {V:List Vr} (hV:PV V):RdE (fAll V) (cnR V 3) (fun y=>conR V y.c):=by
 refine ⟨fun s h0=>?_,fun s y h0 hw hy=>?_⟩
 ·obtain ⟨h1,h2,h3⟩:=(YH hV).1 _ h0
  exact ⟨h1,⟨rfl,rfl,all_iff.2 h2⟩,by rw [h3];rfl⟩
 ·obtain ⟨v,kind,op,t,k,vv,x,yy,xs,tb,r⟩:=y
  obtain ⟨h1,h2,h3⟩:=hy
  simp only at h1 h2 h3
  subst h1;subst h2
  obtain ⟨p1,p2,p3,p4,p5,p6,_,p8,p9⟩:=xD h3
  have e1:=p1 rfl;have e2:=p2 rfl;have e3:=p3 rfl;have e4:=p4 rfl;have e5:=p5 rfl;have e6:=p6 rfl;have e7:=p8 rfl;have e8:=p9 rfl
  simp only at e1 e2 e3 e4 e5 e6 e7 e8
  subst e1 e2 e3 e4 e5 e6 e7 e8
  obtain ⟨c1,c2⟩:=(YH hV).2 s xs h0 hw (all_iff.1 h3)
  unfold fAll
  simp only [c1]
  exact ⟨trivial,c2⟩
theorem el_iff {V:List Vr} {x y:Int} {tb:List Int}:fault ⟨4,0,[],0,0,x,y,[],tb,[]⟩ (V.length:Int)=0↔inV V x/\inV V y/\1<=tb.length/\tb.length<=64/\∀ a∈tb,numB a=true:=by
 rw [fault_iff]
 constructor
 ·rintro ⟨_,_,_,h4,h5,_,h7⟩
  simp only [manyBad,Bool.or_eq_false_iff,Bool.and_eq_false_iff] at h4
  have h4':=xb (h4.1.1.2.resolve_left (by decide))
  simp only [placesB,Bool.and_eq_true] at h5
  simp only [numsB,Bool.and_eq_true,List.all_eq_true] at h7
  exact ⟨pl_in.1 h5.1.1.1,pl_in.1 h5.1.1.2,h4'.1,h4'.2,h7.1.2⟩
 ·rintro ⟨h1,h2,h3,h4,h5⟩
  refine ⟨rfl,rfl,rfl,?_,?_,rfl,?_⟩
  ·unfold manyBad
   simp only [xv ⟨h3,h4⟩]
   rfl
  ·unfold placesB
   simp only [pl_in.2 h1,pl_in.2 h2]
   rfl
  ·unfold numsB
   have:tb.all numB=true:=by rw [List.all_eq_true];exact h5
   simp only [this]
   rfl
theorem y5g {V:List Vr} (hV:PV V):RdE (fEl V) (cnR V 4) (fun y=>conR V y.c):=by
 refine ⟨fun s h0=>?_,fun s y h0 hw hy=>?_⟩
 ·obtain ⟨h1,h2,h3⟩:=nums_list.1 _ h0
  obtain ⟨h7,h8,h9⟩:=(zQ hV).1 _ h1
  obtain ⟨h10,h11,h12⟩:=(zQ hV).1 _ h7
  exact ⟨h10,⟨rfl,rfl,el_iff.2 ⟨h11,h8,h2⟩⟩,by rw [h12,h9,h3];rfl⟩
 ·obtain ⟨v,kind,op,t,k,vv,x,yy,xs,tb,r⟩:=y
  obtain ⟨h1,h2,h3⟩:=hy
  simp only at h1 h2 h3
  subst h1;subst h2
  obtain ⟨p1,p2,p3,_,_,p6,p7,_,p9⟩:=xD h3
  have e1:=p1 rfl;have e2:=p2 rfl;have e3:=p3 rfl;have e4:=p6 rfl;have e5:=p7 rfl;have e6:=p9 rfl
  simp only at e1 e2 e3 e4 e5 e6
  subst e1 e2 e3 e4 e5 e6
  obtain ⟨q1,q2,q3⟩:=el_iff.1 h3
  obtain ⟨a1,a2,a3⟩:=(zQ hV).2 s x _ h0 hw q1
  obtain ⟨b1,b2,b3⟩:=(zQ hV).2 _ yy _ a2 a3 q2
  obtain ⟨c1,c2⟩:=nums_list.2 _ tb b2 b3 q3
  unfold fEl
  simp only [a1,b1,c1]
  exact ⟨trivial,c2⟩
theorem ZA {V:List Vr} {k y:Int} {xs:List Int} (hk:k=5∨k=6):fault ⟨k,0,[],0,0,0,y,xs,[],[]⟩ (V.length:Int)=0↔inV V y/\1<=xs.length/\xs.length<=64/\∀ a∈xs,inV V a:=by
 rw [fault_iff]
 constructor
 ·rintro ⟨_,_,_,h4,h5,_,_⟩
  simp only [manyBad,Bool.or_eq_false_iff,Bool.and_eq_false_iff] at h4
  have h4':=xb (h4.1.1.1.2.resolve_left (by rcases hk with rfl | rfl <;> decide))
  have h4'':xs.length<=64:=by
   have:=h4'.2
   rcases hk with rfl | rfl <;> exact this
  simp only [placesB,Bool.and_eq_true] at h5
  exact ⟨pl_in.1 h5.1.1.2,h4'.1,h4'',all_in.1 h5.2⟩
 ·rintro ⟨h0,h1,h2,h3⟩
  have h8:plB (V.length:Int) 0=true:=pl_in.2 (Zz h1 h3)
  refine ⟨by rcases hk with rfl | rfl <;> rfl,by rcases hk with rfl | rfl <;> rfl,by rcases hk with rfl | rfl <;> rfl,?_,?_,rfl,rfl⟩
  ·unfold manyBad mostXs
   rcases hk with rfl | rfl
   ·simp only [if_neg (by decide:¬ (5:Int)=8),xv ⟨h1,h2⟩]
    rfl
   ·simp only [if_neg (by decide:¬ (6:Int)=8),xv ⟨h1,h2⟩]
    rfl
  ·unfold placesB
   simp only [h8,all_in.2 h3,pl_in.2 h0]
   rfl
theorem KK {V:List Vr} (hV:PV V) (k:Int) (hk:k=5∨k=6):RdE (fMax V k) (cnR V k) (fun y=>conR V y.c):=by
 have hc:∀ c:Cn,c.kind=k->conR V c=nm V c.y :: nmsW V c.xs:=fun c h=>by
  unfold conR
  rw [h]
  rcases hk with rfl | rfl <;> rfl
 refine ⟨fun s h0=>?_,fun s y h0 hw hy=>?_⟩
 ·obtain ⟨h1,h2,h3⟩:=(YH hV).1 _ h0
  obtain ⟨h10,h11,h12⟩:=(zQ hV).1 _ h1
  refine ⟨h10,⟨rfl,rfl,(ZA hk).2 ⟨h11,h2⟩⟩,?_⟩
  show _=conR V _
  rw [hc _ rfl,h12,h3]
  rfl
 ·obtain ⟨v,kind,op,t,kk,vv,x,yy,xs,tb,r⟩:=y
  obtain ⟨h1,h2,h3⟩:=hy
  have hw2:=hw.trans (hc _ h2)
  simp only at h1 h2 h3 hw2
  clear hw
  subst h1;subst h2
  obtain ⟨p1,p2,p3,p4,_,p6,_,p8,p9⟩:=xD h3
  have e1:=p1 (by rcases hk with rfl | rfl <;> rfl);have e2:=p2 (by rcases hk with rfl | rfl <;> rfl);have e3:=p3 (by rcases hk with rfl | rfl <;> rfl);have e4:=p4 (by rcases hk with rfl | rfl <;> rfl);have e5:=p6 (by rcases hk with rfl | rfl <;> rfl);have e6:=p8 (by rcases hk with rfl | rfl <;> rfl);have e7:=p9 (by rcases hk with rfl | rfl <;> rfl)
  simp only at e1 e2 e3 e4 e5 e6 e7
  subst e1 e2 e3 e4 e5 e6 e7
  obtain ⟨q1,q2⟩:=(ZA hk).1 h3
  obtain ⟨a1,a2,a3⟩:=(zQ hV).2 s yy _ h0 hw2 q1
  obtain ⟨c1,c2⟩:=(YH hV).2 _ xs a2 a3 q2
  unfold fMax
  simp only [a1,c1]
  exact ⟨trivial,c2⟩
theorem rf_iff {V:List Vr} {x k:Int} {t:List (Int × Int)}:fault ⟨7,0,t,k,0,x,0,[],[],[]⟩ (V.length:Int)=0↔inV V x/\numB k=true/\1<=t.length/\t.length<=64/\∀ a∈t,cfB a.1=true/\inV V a.2:=by
 rw [fault_iff]
 constructor
 ·rintro ⟨_,_,_,h4,h5,h6,h7⟩
  simp only [manyBad,Bool.or_eq_false_iff,Bool.and_eq_false_iff] at h4
  have h4':=xb (h4.1.1.1.1.resolve_left (by decide))
  simp only [placesB,Bool.and_eq_true] at h5
  simp only [numsB,Bool.and_eq_true] at h7
  exact ⟨pl_in.1 h5.1.1.1,h7.1.1.1,h4'.1,h4'.2,all_in2.1 ⟨h5.1.2,h6⟩⟩
 ·rintro ⟨h0,h2,h3,h4,h5⟩
  obtain ⟨h6,h7⟩:=all_in2.2 h5
  have h8:plB (V.length:Int) 0=true:=pl_in.2 (KH h3 h5)
  refine ⟨rfl,rfl,rfl,?_,?_,h7,?_⟩
  ·unfold manyBad
   simp only [xv ⟨h3,h4⟩]
   rfl
  ·unfold placesB
   simp only [h8,h6,pl_in.2 h0]
   rfl
  ·unfold numsB
   simp only [h2]
   rfl
theorem y5h {V:List Vr} (hV:PV V):RdE (xt V) (cnR V 7) (fun y=>conR V y.c):=by
 refine ⟨fun s h0=>?_,fun s y h0 hw hy=>?_⟩
 ·obtain ⟨h1,h2,h3⟩:=(YI hV).1 _ h0
  obtain ⟨h4,h5,h6⟩:=rd_number.1 _ h1
  obtain ⟨h7,h8⟩:=Kw h4
  rw [h8] at h4 h6
  obtain ⟨h9,h10⟩:=Yl h4
  obtain ⟨h11,h12,h13⟩:=(zQ hV).1 _ h9
  refine ⟨h11,⟨rfl,rfl,rf_iff.2 ⟨h12,h5,h2⟩⟩,?_⟩
  have e:(xt V s).1.c.k=(yK (ye (yA V s).2).2).1:=by unfold xt;simp only [h8]
  have e2:words s.1=nm V (yA V s).1 :: [60,61] :: itoa (yK (ye (yA V s).2).2).1 :: words (yK (ye (yA V s).2).2).2.1:=by rw [h13,h10,h7,h6];rfl
  rw [e2]
  show _=nm V (yA V s).1 :: [60,61] :: itoa (xt V s).1.c.k :: sumW V _
  rw [e]
  rw [h8] at h3
  rw [h3]
  unfold xt
  simp only [h8]
 ·obtain ⟨v,kind,op,t,k,vv,x,yy,xs,tb,r⟩:=y
  obtain ⟨h1,h2,h3⟩:=hy
  simp only at h1 h2 h3
  subst h1;subst h2
  obtain ⟨p1,_,p3,_,p5,_,p7,p8,p9⟩:=xD h3
  have e1:=p1 rfl;have e2:=p3 rfl;have e3:=p5 rfl;have e4:=p7 rfl;have e5:=p8 rfl;have e6:=p9 rfl
  simp only at e1 e2 e3 e4 e5 e6
  subst e1 e2 e3 e4 e5 e6
  obtain ⟨q1,q2,q3⟩:=rf_iff.1 h3
  obtain ⟨a1,a2,a3⟩:=(zQ hV).2 s x _ h0 hw q1
  obtain ⟨b1,b2,b3⟩:=YJ a2 a3
  have hm:zt [60,61] [60,61] (ye (yA V s).2).2=(ye (yA V s).2).2:=rfl
  obtain ⟨d1,d2,d3⟩:=rd_number.2 _ k _ b2 b3 q2
  obtain ⟨c1,c2⟩:=(YI hV).2 _ t d2 d3 q3
  unfold xt
  simp only [a1,b1,hm,d1,c1]
  exact ⟨trivial,c2⟩
theorem tb_iff {V:List Vr} {xs:List Int} {r:List (List Int)}:fault ⟨8,0,[],0,0,0,0,xs,[],r⟩ (V.length:Int)=0↔(1<=xs.length/\xs.length<=8/\∀ a∈xs,inV V a)/\1<=r.length/\r.length<=64/\∀ l∈r,l.length=xs.length/\∀ a∈l,numB a=true:=by
 rw [fault_iff]
 constructor
 ·rintro ⟨_,_,_,h4,h5,_,h7⟩
  simp only [manyBad,Bool.or_eq_false_iff,Bool.and_eq_false_iff] at h4
  have h4':=xb (h4.1.1.1.2.resolve_left (by decide))
  have h4r:=xb (h4.1.2.resolve_left (by decide))
  have h4l:=h4.2
  simp only [Bool.not_eq_false',List.all_eq_true,beq_iff_eq] at h4l
  simp only [placesB,Bool.and_eq_true] at h5
  simp only [numsB,Bool.and_eq_true,List.all_eq_true] at h7
  exact ⟨⟨h4'.1,h4'.2,all_in.1 h5.2⟩,h4r.1,h4r.2,fun l hl=>⟨h4l l hl,h7.2 l hl⟩⟩
 ·rintro ⟨⟨h1,h2,h3⟩,h4,h5,h6⟩
  have h8:plB (V.length:Int) 0=true:=pl_in.2 (Zz h1 h3)
  refine ⟨rfl,rfl,rfl,?_,?_,rfl,?_⟩
  ·unfold manyBad mostXs
   have:(r.all fun l=>l.length==xs.length)=true:=by rw [List.all_eq_true];intro l hl;rw [beq_iff_eq];exact (h6 l hl).1
   simp only [if_true,xv ⟨h1,h2⟩,xv ⟨h4,h5⟩,this]
   rfl
  ·unfold placesB
   simp only [h8,all_in.2 h3]
   rfl
  ·unfold numsB
   have:(r.all fun l=>l.all numB)=true:=by rw [List.all_eq_true];intro l hl;rw [List.all_eq_true];exact (h6 l hl).2
   simp only [this]
   rfl
theorem KL {r:List (List Int)} (h:1<=r.length):r.flatMap rowW=[58] :: (r.flatMap rowW).tail:=by
 cases r with
 | nil=>simp at h
 | cons a l=>simp [rowW]
theorem KM (V:List Vr):∀ (k:Nat) (xs:List Int) (s:St),xs.length<=(yS V k xs s).1.length
  | 0, xs, s => by
    unfold yS
    split
    · exact Nat.le_refl _
    · split <;> exact Nat.le_refl _
  | k + 1, xs, s => by
    unfold yS
    split
    · exact Nat.le_refl _
    · rename_i p _
      split
      · exact Nat.le_refl _
      · have:=KM V k (xs++[(yF V p.1 p.2).1]) (yF V p.1 p.2).2
        simp at this
        omega
theorem y5i {V:List Vr} (hV:PV V):RdE (fTable V) (cnR V 8) (fun y=>conR V y.c):=by
 refine ⟨fun s h0=>?_,fun s y h0 hw hy=>?_⟩
 ·have hn:1<=(zE V s).1.length:=KM V 7 [(yA V s).1] (yA V s).2
  obtain ⟨h1,h2,h3⟩:=(Kz hn).1 _ h0
  obtain ⟨h4,h5,h6⟩:=(Kt hV).1 _ h1
  refine ⟨h4,⟨rfl,rfl,tb_iff.2 ⟨h5,h2⟩⟩,?_⟩
  rw [h6,h3]
  show _=(zE V s).1.map (nm V)++(zX (zE V s).1.length (zE V s).2).1.flatMap rowW
  rw [KL h2.1]
  simp
 ·obtain ⟨v,kind,op,t,k,vv,x,yy,xs,tb,r⟩:=y
  obtain ⟨h1,h2,h3⟩:=hy
  simp only at h1 h2 h3
  subst h1;subst h2
  obtain ⟨p1,p2,p3,p4,p5,p6,_,p8,_⟩:=xD h3
  have e1:=p1 rfl;have e2:=p2 rfl;have e3:=p3 rfl;have e4:=p4 rfl;have e5:=p5 rfl;have e6:=p6 rfl;have e7:=p8 rfl
  simp only at e1 e2 e3 e4 e5 e6 e7
  subst e1 e2 e3 e4 e5 e6 e7
  obtain ⟨q1,q2⟩:=tb_iff.1 h3
  have hw':words s.1=(xs.map (nm V)++[[58]])++(r.flatMap rowW).tail:=by
   rw [hw]
   show xs.map (nm V)++r.flatMap rowW=_
   rw [KL q2.1]
   simp
  obtain ⟨a1,a2,a3⟩:=(Kt hV).2 s xs _ h0 hw' q1
  obtain ⟨c1,c2⟩:=(Kz q1.1).2 _ r a2 a3 q2
  unfold fTable
  simp only [a1,c1]
  exact ⟨trivial,c2⟩
theorem ct_iff {V:List Vr} {o k v:Int} {xs:List Int}:fault ⟨9,o,[],k,v,0,0,xs,[],[]⟩ (V.length:Int)=0↔(1<=o/\o<=3)/\numB k=true/\numB v=true/\1<=xs.length/\xs.length<=64/\∀ a∈xs,inV V a:=by
 rw [fault_iff]
 constructor
 ·rintro ⟨h1,_,_,h4,h5,_,h7⟩
  have h1':1<=o/\o<=3:=by
   simp only [kindBad,fOp,Bool.or_eq_false_iff,Bool.and_eq_false_iff,decide_eq_false_iff_not] at h1
   have:=h1.2.resolve_left (by decide)
   omega
  simp only [manyBad,Bool.or_eq_false_iff,Bool.and_eq_false_iff] at h4
  have h4':=xb (h4.1.1.1.2.resolve_left (by decide))
  simp only [placesB,Bool.and_eq_true] at h5
  simp only [numsB,Bool.and_eq_true] at h7
  exact ⟨h1',h7.1.1.1,h7.1.1.2,h4'.1,h4'.2,all_in.1 h5.2⟩
 ·rintro ⟨h1,h2,h2',h3,h4,h5⟩
  have h8:plB (V.length:Int) 0=true:=pl_in.2 (Zz h3 h5)
  refine ⟨?_,rfl,rfl,?_,?_,rfl,?_⟩
  ·unfold kindBad
   rw [decide_eq_false (by omega:¬ ((9:Int)<1∨9<(9:Int))),decide_eq_false (by omega:¬ (o<1∨3<o))]
   rfl
  ·unfold manyBad mostXs
   simp only [if_neg (by decide:¬ (9:Int)=8),xv ⟨h3,h4⟩]
   rfl
  ·unfold placesB
   simp only [h8,all_in.2 h5]
   rfl
  ·unfold numsB
   simp only [h2,h2']
   rfl
theorem y5j {V:List Vr} (hV:PV V):RdE (Ye V) (cnR V 9) (fun y=>conR V y.c):=by
 refine ⟨fun s h0=>?_,fun s y h0 hw hy=>?_⟩
 ·obtain ⟨h1,h2,h3⟩:=(YH hV).1 _ h0
  obtain ⟨h4,h5,h6⟩:=rd_number.1 _ h1
  obtain ⟨h7,h8,h9⟩:=rd_number.1 _ h4
  obtain ⟨h10,h11,h12⟩:=rd_op.1 _ h7
  exact ⟨h10,⟨rfl,rfl,ct_iff.2 ⟨h11,h8,h5,h2⟩⟩,by rw [h12,h9,h6,h3];rfl⟩
 ·obtain ⟨v,kind,op,t,k,vv,x,yy,xs,tb,r⟩:=y
  obtain ⟨h1,h2,h3⟩:=hy
  simp only at h1 h2 h3
  subst h1;subst h2
  obtain ⟨_,_,_,p4,p5,p6,_,p8,p9⟩:=xD h3
  have e1:=p4 rfl;have e2:=p5 rfl;have e3:=p6 rfl;have e4:=p8 rfl;have e5:=p9 rfl
  simp only at e1 e2 e3 e4 e5
  subst e1 e2 e3 e4 e5
  obtain ⟨q1,q2,q3,q4⟩:=ct_iff.1 h3
  obtain ⟨a1,a2,a3⟩:=rd_op.2 s op _ h0 hw q1
  obtain ⟨b1,b2,b3⟩:=rd_number.2 _ k _ a2 a3 q2
  obtain ⟨d1,d2,d3⟩:=rd_number.2 _ vv _ b2 b3 q3
  obtain ⟨c1,c2⟩:=(YH hV).2 _ xs d2 d3 q4
  unfold Ye
  simp only [a1,b1,d1,c1]
  exact ⟨trivial,c2⟩
theorem KN {V:List Vr} (hV:PV V) {k:Nat} (h1:1<=k) (h9:k<=9):RdE (zy V k) (cnR V (k:Int)) (fun y=>conR V y.c):=by
 rcases (by omega:k=1∨k=2∨k=3∨k=4∨k=5∨k=6∨k=7∨k=8∨k=9) with rfl | rfl | rfl | rfl | rfl | rfl | rfl | rfl | rfl
 ·exact y5d hV
 ·exact y5e hV
 ·exact y5f hV
 ·exact y5g hV
 ·exact KK hV 5 (.inl rfl)
 ·exact KK hV 6 (.inr rfl)
 ·exact y5h hV
 ·exact y5i hV
 ·exact y5j hV
end Go.Proofs.YthohnmplbjhjaaaGreatDoor
