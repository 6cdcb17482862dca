/-
  Put together: TpMath, TrMath, TwMath, TxNum, TxRead, TxCols, TxForm.
-/
import Derived.Test.YthohnmplbjhjaaaGreatDoorJ04
import Derived.Lib.ItoaLen
namespace Md
open Go.Lib (itoa)
def nm (l:List Vr) (x:Int):List UInt8:=(varAt l x).name.data.toList
def namesT (l:List Vr) (xs:List Int):List UInt8:=xs.flatMap fun x=>32 :: nm l x
def numsT (xs:List Int):List UInt8:=xs.flatMap fun n=>32 :: itoa n
def sumT (l:List Vr) (t:List (Int × Int)):List UInt8:=t.flatMap fun t=>32 :: (itoa t.1++32 :: nm l t.2)
def rowsT (r:List (List Int)):List UInt8:=r.flatMap fun r=>32 :: 58 :: numsT r
def opT (op:Int):List UInt8:=if op=1 then [60,61] else if op=2 then [61] else if op=3 then [62,61] else []
def restT (l:List Vr) (c:Cn):List UInt8:=
 if c.kind=1 then 32 :: opT c.op++(32 :: itoa c.k++sumT l c.terms)
 else if c.kind=2 then 32 :: nm l c.x++(32 :: nm l c.y++32 :: itoa c.k)
 else if c.kind=3 then namesT l c.xs
 else if c.kind=4 then 32 :: nm l c.x++(32 :: nm l c.y++numsT c.table)
 else if c.kind=5∨c.kind=6 then 32 :: nm l c.y++namesT l c.xs
 else if c.kind=7 then 32 :: nm l c.x++(32 :: 60 :: 61 :: (32 :: itoa c.k++sumT l c.terms))
 else if c.kind=8 then namesT l c.xs++rowsT c.rows
 else 32 :: opT c.op++(32 :: itoa c.k++(32 :: itoa c.v++namesT l c.xs))
def wordT (k:Int):List UInt8:=
 if k=1 then [108,105,110] else if k=2 then [110,101] else if k=3 then [97,108,108,100,105,102,102] else if k=4 then [101,108,101,109,101,110,116]
 else if k=5 then [109,97,120] else if k=6 then [109,105,110] else if k=7 then [114,101,105,102] else if k=8 then [116,97,98,108,101] else [99,111,117,110,116]
def conT (l:List Vr) (c:Cn):List UInt8:=wordT c.kind++restT l c
def varT (v:Vr):List UInt8:=118 :: 97 :: 114 :: 32 :: (v.name.data.toList++(32 :: itoa v.lo++32 :: itoa v.hi))
def varsT (l:List Vr):List UInt8:=l.flatMap fun v=>varT v++[10]
def consT (l:List Vr) (c:List Cn):List UInt8:=c.flatMap fun c=>conT l c++[10]
def goalT (m:Mo):List UInt8:=if m.has then 109 :: 105 :: 110 :: 105 :: 109 :: 105 :: 122 :: 101 :: (sumT m.vars m.goal++[10]) else []
def textT (m:Mo):List UInt8:=varsT m.vars++consT m.vars m.cons++goalT m
def print (m:Mo):List UInt8 × Int:=if (check m).2=0 then (if 65536<(textT m).length then ([],50) else (textT m,0)) else ([],(check m).2)
theorem flatMap_take {α β:Type} (f:α->List β) (l:List α) (k:Nat) (h:k<l.length):(l.take (k+1)).flatMap f=(l.take k).flatMap f++f l[k]:=by
 rw [List.take_succ_eq_append_getElem h,List.flatMap_append]
 simp
theorem flatMap_len {α β:Type} (f:α->List β) (n:Nat):∀ (l:List α),(∀ x∈l,(f x).length<=n)->(l.flatMap f).length<=n * l.length
  | [],_=>by simp
  | x :: l, h => by
    have h1:=h x (by simp)
    have h2:=flatMap_len f n l (fun y hy=>h y (by simp [hy]))
    rw [List.flatMap_cons,List.length_append,List.length_cons,Nat.mul_succ]
    omega
theorem flatMap_take_len {α β:Type} (f:α->List β) (n:Nat) (l:List α) (k:Nat) (h:∀ x∈l,(f x).length<=n):((l.take k).flatMap f).length<=n * l.length:=
 Nat.le_trans (flatMap_len f n (l.take k) (fun x hx=>h x (List.mem_of_mem_take hx))) (Nat.mul_le_mul_left n (by rw [List.length_take];omega))
theorem itoa_len {n:Int} (h:-1000000000<=n/\n<=1000000000):(itoa n).length<=21:=Go.Lib.itoa_length_le n (by omega) (by omega)
theorem name_len {s:List UInt8} (h:nameB s=true):s.length<=16:=by
 simp [nameB] at h
 omega
end Md

namespace Go.Proofs.YthohnmplbjhjaaaGreatDoor
open Md
def yc (l:List UInt8):ByteArray:=⟨l.toArray⟩
def blk (c:UInt8):Bool:=c==32||c==9
def wlen (l:List UInt8):Nat:=(l.takeWhile fun c=>!blk c).length
theorem Zb (l:List UInt8):wlen l<=l.length:=(List.takeWhile_sublist _).length_le
abbrev St:=List UInt8 × Int
def yl (s:St):Option (List UInt8 × St):=
 if s.2=0/\s.1.dropWhile blk≠[] then some ((s.1.dropWhile blk).take (wlen (s.1.dropWhile blk)),((s.1.dropWhile blk).drop (wlen (s.1.dropWhile blk)),0)) else none
def yh (e:Int) (s:St):St:=if s.2=0 then (s.1,e) else s
def ye (s:St):List UInt8 × St:=match yl s with
 | some p=>p
 | none=>([],yh 52 s)
def endT (s:St):St:=match yl s with
 | some p=>yh 57 p.2
 | none=>s
def zq (w x:List UInt8) (s:St):St:=if w=x then s else yh 51 s
def yR (V:List Vr) (w:List UInt8):Int:=match V.findIdx? (fun v=>v.name.data.toList==w) with
 | some i=>(i:Int)
 | none=>-1
def yE (V:List Vr) (w:List UInt8) (s:St):Int × St:=
 (yR V w,if yR V w<0 then yh 56 (if nameB w=true then s else yh 54 s) else (if nameB w=true then s else yh 54 s))
def yz (V:List Vr) (s:St):Int × St:=yE V (ye s).1 (ye s).2
def newT (V:List Vr) (s:St):List UInt8 × St:=
 ((ye s).1,if 0<=yR V (ye s).1 then yh 55 (if nameB (ye s).1=true then (ye s).2 else yh 54 (ye s).2) else (if nameB (ye s).1=true then (ye s).2 else yh 54 (ye s).2))
def opS (w:List UInt8):Int:=if w=[60,61] then 1 else if w=[61] then 2 else if w=[62,61] then 3 else 0
def rdOp (s:St):Int × St:=(opS (ye s).1,if opS (ye s).1=0 then yh 51 (ye s).2 else (ye s).2)
def digT (c:UInt8):Bool:=decide (48<=c.toNat/\c.toNat<=57)
def numT (d:List UInt8):Int:=d.foldl (fun n c=>min (10 * n+((c.toNat:Int)-48)) 1000000001) 0
def yH (w:List UInt8):Int × Bool:=
 let d:=if w.headD 0=45 then w.drop 1 else w
 if d=[]∨(d.headD 0=48/\w≠[48]) then (0,false) else if d.all digT=true then (if w.headD 0=45 then -(numT d) else numT d,true) else (0,false)
def ym (w:List UInt8) (s:St):Int × St:=((yH w).1,if (yH w).2=true then s else yh 53 s)
def yN (w:List UInt8) (s:St):Int × St:=((ym w s).1,if (ym w s).1 < -1000000000∨1000000000<(ym w s).1 then yh 46 (ym w s).2 else (ym w s).2)
def yI (s:St):Int × St:=yN (ye s).1 (ye s).2
def rdLo (s:St):Int × St:=let a:=ym (ye s).1 (ye s).2;(a.1,if boundsB a.1 a.1=true then a.2 else yh 42 a.2)
def rdHi (lo:Int) (s:St):Int × St:=let a:=ym (ye s).1 (ye s).2;(a.1,if boundsB lo a.1=true then a.2 else yh 42 a.2)
def zS (s:St):(Int × Int) × St:=(((rdLo s).1,(rdHi (rdLo s).1 (rdLo s).2).1),(rdHi (rdLo s).1 (rdLo s).2).2)
def cfT (c:Int) (s:St):St:=if c=0∨c < -1000000∨1000000<c then yh 45 s else s
def yO (V:List Vr) (w:List UInt8) (s:St):(Int × Int) × St:=
 (((ym w s).1,(yz V (cfT (ym w s).1 (ym w s).2)).1),(yz V (cfT (ym w s).1 (ym w s).2)).2)
def yK {α:Type} (rd:List UInt8->St->α × St):Nat->List α->St->List α × St
  | 0, all, s => (match yl s with
    | none=>(all,s)
    | some p=>(all,yh 47 p.2))
  | k + 1, all, s => (match yl s with
    | none=>(all,s)
    | some p=>yK rd k (all++[(rd p.1 p.2).1]) (rd p.1 p.2).2)
def yp {α:Type} (rd:List UInt8->St->α × St) (s:St):List α × St:=yK rd 63 [(rd (ye s).1 (ye s).2).1] (rd (ye s).1 (ye s).2).2
def yQ (V:List Vr):Nat->List Int->St->List Int × St
  | 0, xs, s => (match yl s with
    | none=>(xs,yh 52 s)
    | some p=>if p.1=[58] then (xs,p.2) else (xs,yh 47 p.2))
  | k + 1, xs, s => (match yl s with
    | none=>(xs,yh 52 s)
    | some p=>if p.1=[58] then (xs,p.2) else yQ V k (xs++[(yE V p.1 p.2).1]) (yE V p.1 p.2).2)
def zB (V:List Vr) (s:St):List Int × St:=yQ V 7 [(yz V s).1] (yz V s).2
def zk:Nat->List Int->St->List Int × St
 | 0,row,s=>(row,s)
 | k+1,row,s=>zk k (row++[(yI s).1]) (yI s).2
def yT (n:Nat) (w:List UInt8) (s:St):List Int × St:=zk (n-1) [(yN w s).1] (yN w s).2
def za (n:Nat):Nat->List (List Int)->St->List (List Int) × St
  | 0, all, s => (match yl s with
    | none=>(all,s)
    | some p=>let q:=ye (zq p.1 [58] p.2);let r:=yT n q.1 (yh 47 q.2);(all++[r.1],r.2))
  | k + 1, all, s => (match yl s with
    | none=>(all,s)
    | some p=>let q:=ye (zq p.1 [58] p.2);let r:=yT n q.1 q.2;za n k (all++[r.1]) r.2)
def zU (n:Nat) (s:St):List (List Int) × St:=za n 63 [(yT n (ye s).1 (ye s).2).1] (yT n (ye s).1 (ye s).2).2
structure Sy where
 v:Vr
 c:Cn
def zv:Vr:=⟨⟨#[]⟩,0,0⟩
def zc (k:Int):Cn:=⟨k,0,[],0,0,0,0,[],[],[]⟩
def zm:Mo:=⟨[],[],false,[]⟩
def zJ (w:List UInt8):Nat:=
 if w=[108,105,110] then 1 else if w=[110,101] then 2 else if w=[97,108,108,100,105,102,102] then 3 else if w=[101,108,101,109,101,110,116] then 4 else if w=[109,97,120] then 5 else if w=[109,105,110] then 6
 else if w=[114,101,105,102] then 7 else if w=[116,97,98,108,101] then 8 else if w=[99,111,117,110,116] then 9 else if w=[118,97,114] then 10 else if w=[109,105,110,105,109,105,122,101] then 11 else 0
def yX (k:Nat) (m:Mo):Int:=if k=10/\m.vars.length=32 then 40 else if k=11/\m.has=true then 58 else if k<=9/\m.cons.length=64 then 49 else 0
def fVar (V:List Vr) (s:St):Sy × St:=let n:=newT V s;let b:=zS n.2;(⟨⟨yc n.1,b.1.1,b.1.2⟩,zc 10⟩,endT b.2)
def fLin (V:List Vr) (s:St):Sy × St:=let o:=rdOp s;let n:=yI o.2;let t:=yp (yO V) n.2;(⟨zv,⟨1,o.1,t.1,n.1,0,0,0,[],[],[]⟩⟩,t.2)
def fNe (V:List Vr) (s:St):Sy × St:=let x:=yz V s;let y:=yz V x.2;let n:=yI y.2;(⟨zv,⟨2,0,[],n.1,0,x.1,y.1,[],[],[]⟩⟩,endT n.2)
def fAll (V:List Vr) (s:St):Sy × St:=let l:=yp (yE V) s;(⟨zv,⟨3,0,[],0,0,0,0,l.1,[],[]⟩⟩,l.2)
def fEl (V:List Vr) (s:St):Sy × St:=let x:=yz V s;let y:=yz V x.2;let l:=yp yN y.2;(⟨zv,⟨4,0,[],0,0,x.1,y.1,[],l.1,[]⟩⟩,l.2)
def fMax (V:List Vr) (k:Int) (s:St):Sy × St:=let y:=yz V s;let l:=yp (yE V) y.2;(⟨zv,⟨k,0,[],0,0,0,y.1,l.1,[],[]⟩⟩,l.2)
def xo (V:List Vr) (s:St):Sy × St:=let x:=yz V s;let p:=ye x.2;let n:=yI (zq p.1 [60,61] p.2);let t:=yp (yO V) n.2;(⟨zv,⟨7,0,t.1,n.1,0,x.1,0,[],[],[]⟩⟩,t.2)
def fTable (V:List Vr) (s:St):Sy × St:=let xs:=zB V s;let r:=zU xs.1.length xs.2;(⟨zv,⟨8,0,[],0,0,0,0,xs.1,[],r.1⟩⟩,r.2)
def Yc (V:List Vr) (s:St):Sy × St:=let o:=rdOp s;let k:=yI o.2;let v:=yI k.2;let l:=yp (yE V) v.2;(⟨zv,⟨9,o.1,[],k.1,v.1,0,0,l.1,[],[]⟩⟩,l.2)
def Yd (V:List Vr) (s:St):Sy × St:=let t:=yp (yO V) s;(⟨zv,⟨11,0,t.1,0,0,0,0,[],[],[]⟩⟩,t.2)
def zt (V:List Vr) (k:Nat) (s:St):Sy × St:=
 if k=1 then fLin V s else if k=2 then fNe V s else if k=3 then fAll V s else if k=4 then fEl V s else if k=5 then fMax V 5 s else if k=6 then fMax V 6 s else if k=7 then xo V s else if k=8 then fTable V s else if k=9 then Yc V s else if k=10 then fVar V s else Yd V s
def sayT (m:Mo) (w:List UInt8) (s:St):Sy × St:=if zJ w=0 then (⟨zv,zc 0⟩,yh 51 s) else zt m.vars (zJ w) (yh (yX (zJ w) m) s)
def layT (m:Mo) (y:Sy):Mo:=if y.c.kind=10 then { m with vars:=m.vars++[y.v] } else if y.c.kind=11 then { m with has:=true,goal:=y.c.terms } else { m with cons:=m.cons++[y.c] }
def yP (m:Mo) (l:List UInt8):Mo × Int:=match yl (l,0) with
 | none=>(m,0)
 | some p=>if p.1.headD 0=35 then (m,0) else if (sayT m p.1 p.2).2.2=0 then (layT m (sayT m p.1 p.2).1,0) else (m,(sayT m p.1 p.2).2.2)
def yw:List UInt8->List UInt8->List (List UInt8)
 | [],cur=>[cur]
 | c :: t,cur=>if c=10 then cur :: yw t [] else yw t (cur++[c])
def goT:List (List UInt8)->Nat->Mo->Mo × Option (Nat × Int)
 | [],_,m=>(m,none)
 | l :: t,i,m=>if (yP m l).2=0 then goT t (i+1) (yP m l).1 else (m,some (i,(yP m l).2))
def yJ (s:List UInt8):Mo × (Int × Int):=
 if 65536<s.length then (zm,(1,50)) else match goT (yw s []) 1 zm with
 | (_,some (i,e))=>(zm,((i:Int),e))
 | (m,none)=>if m.vars=[] then (zm,(((yw s []).length:Int),59)) else (m,(0,0))
theorem y4a (s:St):yh 0 s=s:=by
 unfold yh
 split
 ·rename_i h
  rw [<-h]
 ·rfl
theorem xQ {e:Int} {s:St} (h:s.2≠0):yh e s=s:=by unfold yh;rw [if_neg h]
theorem yS (e:Int) (s:St):(yh e s).1=s.1:=by unfold yh;split <;> rfl
theorem zf {s:St} {p:List UInt8 × St} (h:yl s=some p):p.2.1.length<s.1.length/\p.1.length<=s.1.length/\p.2.2=0/\s.2=0/\p.1≠[]:=by
  unfold yl at h
  split at h
  · rename_i h1
    injection h with h
    subst h
    have h2:=(List.dropWhile_sublist (p:=blk) (l:=s.1)).length_le
    obtain ⟨r,hr⟩:∃ r,s.1.dropWhile blk=r:=⟨_,rfl⟩
    rw [hr] at h1 h2 ⊢
    cases r with
    | nil=>exact absurd rfl h1.2
    | cons c l =>
      have hc:blk c=false:=by
        have:=List.head?_dropWhile_not blk s.1
        rw [hr] at this
        simpa using this
      have hw:wlen (c :: l)=wlen l+1:=by unfold wlen;rw [List.takeWhile_cons_of_pos (by simp [hc])];rfl
      have hle:=Zb l
      rw [hw]
      simp only [List.length_cons] at h2
      refine ⟨by simp;omega,by simp;omega,rfl,h1.1,by simp⟩
  · cases h
theorem xm {s:St} (h:s.2≠0):yl s=none:=by unfold yl;rw [if_neg (fun e=>h e.1)]
end Go.Proofs.YthohnmplbjhjaaaGreatDoor

namespace Go.Proofs.YthohnmplbjhjaaaGreatDoor
open Md
def wd:List UInt8->List UInt8->List (List UInt8)
 | [],cur=>if cur=[] then [] else [cur]
 | c :: t,cur=>if blk c=true then (if cur=[] then wd t [] else cur :: wd t []) else wd t (cur++[c])
abbrev words (l:List UInt8):List (List UInt8):=wd l []
theorem Xe:∀ l:List UInt8,wd (l.dropWhile blk) []=wd l []
  | []=>rfl
  | c :: t => by
    by_cases h:blk c=true
    · rw [List.dropWhile_cons_of_pos h,Xe t]
      simp [wd,h]
    · rw [List.dropWhile_cons_of_neg h]
theorem Kf:∀ (l cur:List UInt8),wd l cur=wd (l.drop (wlen l)) (cur++l.take (wlen l))
  | [],cur=>by simp [wlen,wd]
  | c :: t, cur => by
    by_cases h:blk c=true
    · have:wlen (c :: t)=0:=by unfold wlen;rw [List.takeWhile_cons_of_neg (by simp [h])];rfl
      rw [this]
      simp
    · have:wlen (c :: t)=wlen t+1:=by unfold wlen;rw [List.takeWhile_cons_of_pos (by simp [h])];rfl
      rw [this]
      show (if blk c=true then _ else wd t (cur++[c]))=_
      rw [if_neg h,Kf t]
      simp
theorem y53:∀ (l cur:List UInt8),cur≠[]->(l=[]∨∃ c t,l=c :: t/\blk c=true)->wd l cur=cur :: wd l []
 | _,cur,h,.inl e=>by subst e;simp [wd,h]
 | _,cur,h,.inr ⟨c,t,e,hb⟩=>by subst e;simp [wd,h,hb]
theorem Kg:∀ l:List UInt8,l.drop (wlen l)=[]∨∃ c t,l.drop (wlen l)=c :: t/\blk c=true
  | []=>.inl (by simp)
  | c :: t => by
    by_cases h:blk c=true
    · have:wlen (c :: t)=0:=by unfold wlen;rw [List.takeWhile_cons_of_neg (by simp [h])];rfl
      rw [this]
      exact .inr ⟨c,t,rfl,h⟩
    · have:wlen (c :: t)=wlen t+1:=by unfold wlen;rw [List.takeWhile_cons_of_pos (by simp [h])];rfl
      rw [this,List.drop_succ_cons]
      exact Kg t
theorem Kh {s:St} (h0:s.2=0) (hd:s.1.dropWhile blk≠[]):∃ p,yl s=some p/\words s.1=p.1 :: words p.2.1:=by
  unfold yl
  rw [if_pos ⟨h0,hd⟩]
  refine ⟨_,rfl,?_⟩
  show wd s.1 []=_
  rw [<-Xe,Kf]
  simp only [List.nil_append]
  refine y53 _ _ (fun e=>?_) (Kg _)
  obtain ⟨r,hr⟩:∃ r,s.1.dropWhile blk=r:=⟨_,rfl⟩
  rw [hr] at hd e
  cases r with
  | nil=>exact hd rfl
  | cons c l =>
    have hc:blk c=false:=by
      have:=List.head?_dropWhile_not blk s.1
      rw [hr] at this
      simpa using this
    have hw:wlen (c :: l)=wlen l+1:=by unfold wlen;rw [List.takeWhile_cons_of_pos (by simp [hc])];rfl
    rw [hw] at e
    simp at e
theorem Y2 {s:St} {p:List UInt8 × St} (h:yl s=some p):s.2=0/\p.2.2=0/\words s.1=p.1 :: words p.2.1:=by
 obtain ⟨_,_,h3,h4,_⟩:=zf h
 have hd:s.1.dropWhile blk≠[]:=fun e=>by unfold yl at h;rw [if_neg (fun q=>q.2 e)] at h;cases h
 obtain ⟨q,hq,hw⟩:=Kh h4 hd
 rw [h] at hq
 cases hq
 exact ⟨h4,h3,hw⟩
theorem YE {s:St} (h:yl s=none) (h0:s.2=0):words s.1=[]:=by
 by_cases hd:s.1.dropWhile blk=[]
 ·show wd s.1 []=[]
  rw [<-Xe,hd]
  rfl
 ·obtain ⟨q,hq,_⟩:=Kh h0 hd
  rw [h] at hq
  cases hq
theorem Yi {s:St} {w:List UInt8} {ws:List (List UInt8)} (h0:s.2=0) (hw:words s.1=w :: ws):∃ r,yl s=some (w,r)/\r.2=0/\words r.1=ws:=by
  cases h:yl s with
  | none=>rw [YE h h0] at hw;cases hw
  | some p =>
    obtain ⟨_,h2,h3⟩:=Y2 h
    rw [hw] at h3
    injection h3 with e1 e2
    exact ⟨p.2,by rw [e1],h2,e2.symm⟩
theorem Xf {s:St} (hw:words s.1=[]):yl s=none:=by
 cases h:yl s with
 | none=>rfl
 | some p=>obtain ⟨_,_,h3⟩:=Y2 h;rw [hw] at h3;cases h3
end Go.Proofs.YthohnmplbjhjaaaGreatDoor

namespace Go.Proofs.YthohnmplbjhjaaaGreatDoor
open Md Go.Lib
def dvF (a:Nat) (d:List UInt8):Nat:=d.foldl (fun n c=>10 * n+(c.toNat-48)) a
theorem KP (a:Nat) (d:List UInt8) (c:UInt8):dvF a (d++[c])=10 * dvF a d+(c.toNat-48):=by simp [dvF]
theorem KQ:∀ (d:List UInt8) (a:Nat),a<=dvF a d
  | [],a=>Nat.le_refl _
  | c :: d, a => by
    have:=KQ d (10 * a+(c.toNat-48))
    show a<=dvF (10 * a+(c.toNat-48)) d
    omega
theorem KR:∀ (d:List UInt8) (a:Int) (n:Nat),d.all digT=true->a=min (n:Int) 1000000001->d.foldl (fun n c=>min (10 * n+((c.toNat:Int)-48)) 1000000001) a=min ((dvF n d:Nat):Int) 1000000001
  | [],a,n,_,h=>h
  | c :: d, a, n, hd, h => by
    rw [List.all_cons,Bool.and_eq_true] at hd
    have hc:48<=c.toNat/\c.toNat<=57:=by simpa [digT] using hd.1
    refine KR d _ (10 * n+(c.toNat-48)) hd.2 ?_
    show min (10 * a+((c.toNat:Int)-48)) 1000000001=_
    omega
theorem ZC {d:List UInt8} (h:d.all digT=true):numT d=min ((dvF 0 d:Nat):Int) 1000000001:=KR d 0 0 h rfl
theorem Xp {u:Nat} (h:¬ u<10):decDigits u=decDigits (u / 10)++[UInt8.ofNat (48+u % 10)]:=by rw [decDigits,dif_neg h]
theorem KS {c:UInt8} (h:digT c=true):UInt8.ofNat (48+(c.toNat-48))=c:=by
 have hc:48<=c.toNat/\c.toNat<=57:=by simpa [digT] using h
 have:48+(c.toNat-48)=c.toNat:=by omega
 rw [this]
 exact UInt8.ofNat_toNat
theorem KT {d:List UInt8} (h:d.all digT=true) (h0:d≠[]) (h1:d.headD 0≠48):1<=dvF 0 d:=by
  cases d with
  | nil=>exact absurd rfl h0
  | cons c t =>
    rw [List.all_cons,Bool.and_eq_true] at h
    have hc:48<=c.toNat/\c.toNat<=57:=by simpa [digT] using h.1
    have hc2:c.toNat≠48:=fun e=>h1 (UInt8.toNat_inj.1 (by rw [List.headD_cons,e];rfl))
    have:=KQ t (10 * 0+(c.toNat-48))
    show 1<=dvF (10 * 0+(c.toNat-48)) t
    omega
theorem Xq:∀ (n:Nat) (d:List UInt8),d.length<=n->d.all digT=true->d≠[]->d.headD 0≠48->decDigits (dvF 0 d)=d
  | 0,d,hl,_,h0,_=>absurd (List.length_eq_zero_iff.1 (by omega)) h0
  | n + 1, d, hl, hd, h0, h1 => by
    obtain ⟨t,c,rfl⟩:∃ t c,d=t++[c]:=⟨d.dropLast,d.getLast h0,(List.dropLast_concat_getLast h0).symm⟩
    rw [List.all_append,Bool.and_eq_true] at hd
    have hdc:digT c=true:=by simpa using hd.2
    have hc:48<=c.toNat/\c.toNat<=57:=by simpa [digT] using hdc
    rw [KP]
    by_cases ht:t=[]
    · subst ht
      show decDigits (10 * 0+(c.toNat-48))=[c]
      rw [decDigits_one (by omega),Nat.mul_zero,Nat.zero_add,KS hdc]
    · have h2:t.headD 0≠48:=by
        cases t with
        | nil=>exact absurd rfl ht
        | cons a b=>simpa using h1
      have hp:=KT hd.1 ht h2
      rw [Xp (by omega),show (10 * dvF 0 t+(c.toNat-48)) / 10=dvF 0 t by omega,show (10 * dvF 0 t+(c.toNat-48)) % 10=c.toNat-48 by omega,KS hdc]
      rw [Xq n t (by simp at hl;omega) hd.1 ht h2]
theorem KU {k:Nat} (h:k<10):digT (UInt8.ofNat (48+k))=true/\(UInt8.ofNat (48+k)).toNat=48+k:=by
 have h1:(UInt8.ofNat (48+k)).toNat=48+k:=by rw [UInt8.toNat_ofNat'];omega
 refine ⟨?_,h1⟩
 unfold digT
 rw [h1]
 exact decide_eq_true (by omega)
theorem KV (u:Nat):(decDigits u).all digT=true/\dvF 0 (decDigits u)=u/\decDigits u≠[]/\(u≠0->(decDigits u).headD 0≠48):=by
  induction u using Nat.strongRecOn with
  | ind u ih =>
    by_cases h:u<10
    · rw [decDigits_one h]
      obtain ⟨h1,h2⟩:=KU h
      refine ⟨by rw [List.all_cons,h1];rfl,?_,by simp,fun h0 e=>?_⟩
      · show 10 * 0+((UInt8.ofNat (48+u)).toNat-48)=u
        rw [h2]
        omega
      · have e':UInt8.ofNat (48+u)=48:=e
        have:=congrArg UInt8.toNat e'
        rw [h2] at this
        have h48:(48:UInt8).toNat=48:=rfl
        omega
    · obtain ⟨h1,h2,h3,h4⟩:=ih (u / 10) (by omega)
      obtain ⟨h5,h6⟩:=KU (k:=u % 10) (by omega)
      rw [Xp h]
      refine ⟨by rw [List.all_append,h1,List.all_cons,h5];rfl,?_,by simp,fun _=>?_⟩
      · rw [KP,h2,h6]
        omega
      · have h7:=h4 (by omega)
        obtain ⟨r,hr⟩:∃ r,decDigits (u / 10)=r:=⟨_,rfl⟩
        rw [hr] at h3 h7 ⊢
        cases r with
        | nil=>exact absurd rfl h3
        | cons a b=>simpa using h7
theorem y5s {d:List UInt8} (h:d.all digT=true) (h0:d≠[]):d.headD 0≠45:=by
  cases d with
  | nil=>exact absurd rfl h0
  | cons c t =>
    rw [List.all_cons,Bool.and_eq_true] at h
    have hc:48<=c.toNat/\c.toNat<=57:=by simpa [digT] using h.1
    intro e
    have:c.toNat=45:=by rw [show c=45 from e];rfl
    omega
theorem y5t {w:List UInt8} {n:Int} (h:yH w=(n,true)) (hn:-1000000000<=n/\n<=1000000000):w=itoa n:=by
 unfold yH at h
 by_cases hm:w.headD 0=45
 ·rw [if_pos hm] at h
  obtain ⟨d,rfl⟩:∃ d,w=45 :: d:=by
   cases w with
   | nil=>exact absurd hm (by decide)
   | cons a b=>exact ⟨b,by rw [show a=45 from hm]⟩
  simp only [List.drop_succ_cons,List.drop_zero,List.headD_cons,if_true] at h
  split at h
  ·cases h
  rename_i h1
  split at h
  ·rename_i h2
   injection h with h3 _
   rw [ZC h2] at h3
   have h4:d≠[]:=fun e=>h1 (.inl e)
   have h5:d.headD 0≠48:=fun e=>h1 (.inr ⟨e,by simp⟩)
   have h6:=KT h2 h4 h5
   unfold itoa
   rw [if_pos (by omega),show n.natAbs=dvF 0 d by omega,Xq _ d (Nat.le_refl _) h2 h4 h5]
  ·cases h
 ·simp only [if_neg hm] at h
  split at h
  ·cases h
  rename_i h1
  split at h
  ·rename_i h2
   injection h with h3 _
   rw [ZC h2] at h3
   have h4:w≠[]:=fun e=>h1 (.inl e)
   unfold itoa
   rw [if_neg (by omega),show n.toNat=dvF 0 w by omega]
   by_cases h5:w.headD 0=48
   ·have h6:w=[48]:=Decidable.not_not.1 fun e=>h1 (.inr ⟨h5,e⟩)
    rw [h6]
    show [48]=decDigits 0
    rw [decDigits_one (by decide)]
    rfl
   ·rw [Xq _ w (Nat.le_refl _) h2 h4 h5]
  ·cases h
theorem y5u {n:Int} (hn:-1000000000<=n/\n<=1000000000):yH (itoa n)=(n,true):=by
 unfold itoa
 by_cases h:n<0
 ·rw [if_pos h]
  obtain ⟨h1,h2,h3,h4⟩:=KV n.natAbs
  have h5:=h4 (by omega)
  unfold yH
  simp only [List.headD_cons,if_true,List.drop_succ_cons,List.drop_zero]
  rw [if_neg (fun e=>e.elim h3 (fun e=>h5 e.1)),if_pos h1,ZC h1,h2]
  congr 1
  omega
 ·rw [if_neg h]
  obtain ⟨h1,h2,h3,h4⟩:=KV n.toNat
  have h5:=y5s h1 h3
  unfold yH
  have hne:¬ (decDigits n.toNat=[]∨((decDigits n.toNat).headD 0=48/\decDigits n.toNat≠[48])):=fun e=>e.elim h3 fun e=>by
   by_cases h0:n.toNat=0
   ·refine e.2 ?_
    rw [h0,decDigits_one (by decide)]
    rfl
   ·exact h4 h0 e.1
  simp only [if_neg h5]
  rw [if_neg hne,if_pos h1,ZC h1,h2]
  congr 1
  omega
end Go.Proofs.YthohnmplbjhjaaaGreatDoor

namespace Go.Proofs.YthohnmplbjhjaaaGreatDoor
open Md Go.Lib
def Rd {α:Type} (f:St->α × St) (R:α->Prop) (F:α->List (List UInt8)):Prop:=
 (∀ s,(f s).2.2=0->s.2=0/\R (f s).1/\words s.1=F (f s).1++words (f s).2.1) /\
 ∀ s a rest,s.2=0->words s.1=F a++rest->R a->(f s).1=a/\(f s).2.2=0/\words (f s).2.1=rest
def RdW {α:Type} (rd:List UInt8->St->α × St) (R:α->Prop) (F:α->List (List UInt8)):Prop:=
 (∀ w s,(rd w s).2.2=0->s.2=0/\R (rd w s).1/\w :: words s.1=F (rd w s).1++words (rd w s).2.1) /\
 ∀ w s a rest,s.2=0->w :: words s.1=F a++rest->R a->(rd w s).1=a/\(rd w s).2.2=0/\words (rd w s).2.1=rest
def RdE {α:Type} (f:St->α × St) (R:α->Prop) (F:α->List (List UInt8)):Prop:=
 (∀ s,(f s).2.2=0->s.2=0/\R (f s).1/\words s.1=F (f s).1) /\
 ∀ s a,s.2=0->words s.1=F a->R a->(f s).1=a/\(f s).2.2=0
theorem zF {e:Int} (he:e≠0) (s:St):(yh e s).2≠0:=by
 unfold yh
 split
 ·exact he
 ·assumption
theorem Yj {s:St} (h:(ye s).2.2=0):s.2=0/\words s.1=(ye s).1 :: words (ye s).2.1:=by
 unfold ye at h ⊢
 cases ht:yl s with
 | none=>rw [ht] at h;exact absurd h (zF (by decide) s)
 | some p=>obtain ⟨h1,h2,h3⟩:=Y2 ht;exact ⟨h1,h3⟩
theorem YH {s:St} {w:List UInt8} {ws:List (List UInt8)} (h0:s.2=0) (hw:words s.1=w :: ws):(ye s).1=w/\(ye s).2.2=0/\words (ye s).2.1=ws:=by
 obtain ⟨r,h1,h2,h3⟩:=Yi h0 hw
 unfold ye
 rw [h1]
 exact ⟨rfl,h2,h3⟩
theorem RdW.rd {α:Type} {rd:List UInt8->St->α × St} {R:α->Prop} {F:α->List (List UInt8)} (h:RdW rd R F) (hF:∀ a,R a->F a≠[]):Rd (fun s=>rd (ye s).1 (ye s).2) R F:=by
  refine ⟨fun s h0=>?_,fun s a rest h0 hw ha=>?_⟩
  · obtain ⟨h1,h2,h3⟩:=h.1 _ _ h0
    obtain ⟨h4,h5⟩:=Yj h1
    exact ⟨h4,h2,h5.trans h3⟩
  · have hne:=hF a ha
    obtain ⟨r,hr⟩:∃ r,F a=r:=⟨_,rfl⟩
    rw [hr] at hne hw
    cases r with
    | nil=>exact absurd rfl hne
    | cons w ws =>
      obtain ⟨h1,h2,h3⟩:=YH h0 hw
      refine h.2 _ _ a rest h2 ?_ ha
      rw [h1,h3,hr]
      rfl
def inV (V:List Vr) (x:Int):Prop:=0<=x/\x<V.length
structure PV (V:List Vr):Prop where
 ok:∀ v∈V,nameB v.name.data.toList=true
 one:∀ (i j:Nat) (hi:i<V.length) (hj:j<V.length),V[i].name.data.toList=V[j].name.data.toList->i=j
theorem Xm {V:List Vr} {i:Nat} (h:i<V.length):nm V (i:Int)=V[i].name.data.toList:=by
 unfold nm varAt
 simp [List.getD,h]
theorem Zy {V:List Vr} {x:Int} (h:inV V x):∃ i,∃ hi:i<V.length,x=(i:Int)/\nm V x=V[i].name.data.toList:=by
 obtain ⟨h1,h2⟩:=h
 have hi:x.toNat<V.length:=by omega
 have hx:x=(x.toNat:Int):=by omega
 have h3:=Xm (V:=V) hi
 exact ⟨x.toNat,hi,hx,by rw [<-hx] at h3;exact h3⟩
theorem y5v {V:List Vr} {w:List UInt8} (h:0<=yR V w):inV V (yR V w)/\nm V (yR V w)=w:=by
  unfold yR at h ⊢
  cases hf:V.findIdx? (fun v=>v.name.data.toList==w) with
  | none=>rw [hf] at h;exact absurd h (by decide)
  | some i =>
    obtain ⟨h1,h2,_⟩:=List.findIdx?_eq_some_iff_getElem.1 hf
    refine ⟨⟨by simp,by simp;exact h1⟩,?_⟩
    simp only
    rw [Xm h1]
    exact eq_of_beq h2
theorem KW {V:List Vr} (hV:PV V) {x:Int} (h:inV V x):yR V (nm V x)=x:=by
  obtain ⟨i,hi,hx,hn⟩:=Zy h
  unfold yR
  cases hf:V.findIdx? (fun v=>v.name.data.toList==nm V x) with
  | none =>
    have:=List.findIdx?_eq_none_iff.1 hf V[i] (List.getElem_mem hi)
    rw [hn] at this
    simp at this
  | some j =>
    obtain ⟨h1,h2,_⟩:=List.findIdx?_eq_some_iff_getElem.1 hf
    have h3:=eq_of_beq h2
    rw [hn] at h3
    have:=hV.one j i h1 hi h3
    simp only
    omega
theorem place_new {V:List Vr} {w:List UInt8}:yR V w<0↔∀ v∈V,v.name.data.toList≠w:=by
  unfold yR
  cases hf:V.findIdx? (fun v=>v.name.data.toList==w) with
  | none =>
    have:=List.findIdx?_eq_none_iff.1 hf
    refine ⟨fun _ v hv e=>?_,fun _=>by simp⟩
    have:=this v hv
    rw [e] at this
    simp at this
  | some j =>
    obtain ⟨h1,h2,_⟩:=List.findIdx?_eq_some_iff_getElem.1 hf
    refine ⟨fun h=>?_,fun h=>absurd (eq_of_beq h2) (h _ (List.getElem_mem h1))⟩
    simp only at h
    omega
theorem Kk {V:List Vr} (hV:PV V) {x:Int} (h:inV V x):nameB (nm V x)=true:=by
 obtain ⟨i,hi,_,hn⟩:=Zy h
 rw [hn]
 exact hV.ok _ (List.getElem_mem hi)
theorem Zr {V:List Vr} (hV:PV V):RdW (yE V) (inV V) (fun x=>[nm V x]):=by
 refine ⟨fun w s h0=>?_,fun w s a rest h0 hw ha=>?_⟩
 ·unfold yE at h0 ⊢
  by_cases hp:yR V w<0
  ·simp only [if_pos hp] at h0
   exact absurd h0 (zF (by decide) _)
  ·simp only [if_neg hp] at h0 ⊢
   obtain ⟨h1,h2⟩:=y5v (V:=V) (w:=w) (by omega)
   by_cases hn:nameB w=true
   ·simp only [if_pos hn] at h0 ⊢
    exact ⟨h0,h1,by rw [h2];rfl⟩
   ·simp only [if_neg hn] at h0
    exact absurd h0 (zF (by decide) _)
 ·injection hw with h1 h2
  subst h1
  have hp:¬ yR V (nm V a)<0:=by rw [KW hV ha];have:=ha.1;omega
  unfold yE
  simp only [if_neg hp,if_pos (Kk hV ha)]
  exact ⟨KW hV ha,h0,h2⟩
theorem zM {V:List Vr} (hV:PV V):Rd (yz V) (inV V) (fun x=>[nm V x]):=(Zr hV).rd (fun _ _=>by simp)
theorem KL (V:List Vr):Rd (newT V) (fun w=>nameB w=true/\yR V w<0) (fun w=>[w]):=by
 refine ⟨fun s h0=>?_,fun s a rest h0 hw ha=>?_⟩
 ·unfold newT at h0 ⊢
  by_cases hp:0<=yR V (ye s).1
  ·simp only [if_pos hp] at h0
   exact absurd h0 (zF (by decide) _)
  ·simp only [if_neg hp] at h0 ⊢
   by_cases hn:nameB (ye s).1=true
   ·simp only [if_pos hn] at h0 ⊢
    obtain ⟨h1,h2⟩:=Yj h0
    exact ⟨h1,⟨hn,by omega⟩,h2⟩
   ·simp only [if_neg hn] at h0
    exact absurd h0 (zF (by decide) _)
 ·obtain ⟨h1,h2,h3⟩:=YH h0 hw
  have hp:¬ 0<=yR V a:=by have:=ha.2;omega
  unfold newT
  rw [h1]
  simp only [if_neg hp,if_pos ha.1]
  exact ⟨trivial,h2,h3⟩
theorem y5w {w:List UInt8} (h:opS w≠0):1<=opS w/\opS w<=3/\w=opT (opS w):=by
 unfold opS at h ⊢
 split
 ·rename_i h1;exact ⟨by decide,by decide,by rw [h1];rfl⟩
 split
 ·rename_i h1;exact ⟨by decide,by decide,by rw [h1];rfl⟩
 split
 ·rename_i h1;exact ⟨by decide,by decide,by rw [h1];rfl⟩
 ·rename_i h1 h2 h3
  rw [if_neg h1,if_neg h2,if_neg h3] at h
  exact absurd rfl h
theorem y5x {o:Int} (h:1<=o/\o<=3):opS (opT o)=o:=by
 rcases (by omega:o=1∨o=2∨o=3) with rfl | rfl | rfl <;> rfl
theorem rd_op:Rd rdOp (fun o=>1<=o/\o<=3) (fun o=>[opT o]):=by
 refine ⟨fun s h0=>?_,fun s a rest h0 hw ha=>?_⟩
 ·unfold rdOp at h0 ⊢
  by_cases hp:opS (ye s).1=0
  ·simp only [if_pos hp] at h0
   exact absurd h0 (zF (by decide) _)
  ·simp only [if_neg hp] at h0 ⊢
   obtain ⟨h1,h2,h3⟩:=y5w hp
   obtain ⟨h4,h5⟩:=Yj h0
   exact ⟨h4,⟨h1,h2⟩,by rw [h5,<-h3];rfl⟩
 ·obtain ⟨h1,h2,h3⟩:=YH h0 hw
  unfold rdOp
  rw [h1,y5x ha]
  rw [if_neg (by omega:¬ a=0)]
  exact ⟨rfl,h2,h3⟩
theorem ZD {w:List UInt8} {s:St} (h:(ym w s).2.2=0):s.2=0/\(yH w).2=true/\(ym w s).2=s:=by
 unfold ym at h ⊢
 by_cases hp:(yH w).2=true
 ·simp only [if_pos hp] at h ⊢
  exact ⟨h,hp,trivial⟩
 ·simp only [if_neg hp] at h
  exact absurd h (zF (by decide) _)
theorem ZE {w:List UInt8} (h:(yH w).2=true) (hn:-1000000000<=(yH w).1/\(yH w).1<=1000000000):w=itoa (yH w).1:=y5t (Prod.ext rfl h) hn
theorem ZF {n:Int} (hn:-1000000000<=n/\n<=1000000000) (s:St):ym (itoa n) s=(n,s):=by
 unfold ym
 rw [y5u hn]
 rfl
theorem num_in {n:Int}:numB n=true↔-1000000000<=n/\n<=1000000000:=by simp [numB]
theorem rd_value:RdW yN (fun n=>numB n=true) (fun n=>[itoa n]):=by
 refine ⟨fun w s h0=>?_,fun w s a rest h0 hw ha=>?_⟩
 ·unfold yN at h0 ⊢
  by_cases hp:(ym w s).1 < -1000000000∨1000000000<(ym w s).1
  ·simp only [if_pos hp] at h0
   exact absurd h0 (zF (by decide) _)
  ·simp only [if_neg hp] at h0 ⊢
   obtain ⟨h1,h2,h3⟩:=ZD h0
   have hb:-1000000000<=(yH w).1/\(yH w).1<=1000000000:=by
    have:(ym w s).1=(yH w).1:=rfl
    omega
   refine ⟨h1,num_in.2 hb,?_⟩
   rw [h3]
   show w :: words s.1=itoa (yH w).1 :: words s.1
   rw [<-ZE h2 hb]
 ·injection hw with h1 h2
  subst h1
  have hb:=num_in.1 ha
  unfold yN
  rw [ZF hb]
  rw [if_neg (by omega)]
  exact ⟨rfl,h0,h2⟩
theorem rd_number:Rd yI (fun n=>numB n=true) (fun n=>[itoa n]):=rd_value.rd (fun _ _=>by simp)
theorem rd_bounds:Rd zS (fun b=>boundsB b.1 b.2=true) (fun b=>[itoa b.1,itoa b.2]):=by
 refine ⟨fun s h0=>?_,fun s a rest h0 hw ha=>?_⟩
 ·unfold zS at h0 ⊢
  simp only at h0 ⊢
  obtain ⟨lo,hlo⟩:∃ lo,(rdLo s).1=lo:=⟨_,rfl⟩
  obtain ⟨r,hr⟩:∃ r,(rdLo s).2=r:=⟨_,rfl⟩
  rw [hlo,hr] at h0 ⊢
  unfold rdHi at h0 ⊢
  simp only at h0 ⊢
  by_cases hp:boundsB lo (ym (ye r).1 (ye r).2).1=true
  ·simp only [if_pos hp] at h0 ⊢
   obtain ⟨h1,h2,h3⟩:=ZD h0
   obtain ⟨h4,h5⟩:=Yj h1
   rw [<-hr] at h4
   unfold rdLo at h4 hlo hr
   simp only at h4 hlo hr
   by_cases hq:boundsB (ym (ye s).1 (ye s).2).1 (ym (ye s).1 (ye s).2).1=true
   ·rw [if_pos hq] at h4 hr
    obtain ⟨h6,h7,h8⟩:=ZD h4
    obtain ⟨h9,h10⟩:=Yj h6
    have hb:numB lo=true/\numB (ym (ye r).1 (ye r).2).1=true:=by
     unfold boundsB at hp
     rw [Bool.and_eq_true,Bool.and_eq_true] at hp
     exact hp.1
    have e1:=ZE h7 (by have:=num_in.1 hb.1;rw [<-hlo] at this;exact this)
    have e2:=ZE h2 (num_in.1 hb.2)
    refine ⟨h9,hp,?_⟩
    rw [h8] at hr
    rw [h10,hr,h5,h3,<-hlo]
    show _=itoa (yH (ye s).1).1 :: itoa (yH (ye r).1).1 :: _
    rw [<-e1,<-e2]
    rfl
   ·rw [if_neg hq] at h4
    exact absurd h4 (zF (by decide) _)
  ·simp only [if_neg hp] at h0
   exact absurd h0 (zF (by decide) _)
 ·obtain ⟨lo,hi⟩:=a
  simp only at hw ha
  have hb:numB lo=true/\numB hi=true:=by
   have:=ha
   unfold boundsB at this
   rw [Bool.and_eq_true,Bool.and_eq_true] at this
   exact this.1
  have hll:boundsB lo lo=true:=by simp [boundsB,hb.1]
  obtain ⟨h1,h2,h3⟩:=YH h0 hw
  obtain ⟨h4,h5,h6⟩:=YH h2 h3
  have e1:rdLo s=(lo,(ye s).2):=by
   unfold rdLo
   rw [h1,ZF (num_in.1 hb.1)]
   simp only [if_pos hll]
  unfold zS
  rw [e1]
  unfold rdHi
  simp only
  rw [h4,ZF (num_in.1 hb.2)]
  simp only [if_pos ha]
  exact ⟨trivial,h5,h6⟩
theorem cf_in {c:Int}:cfB c=true↔¬ (c=0∨c < -1000000∨1000000<c):=by simp [cfB]
theorem y5a {V:List Vr} (hV:PV V):RdW (yO V) (fun t=>cfB t.1=true/\inV V t.2) (fun t=>[itoa t.1,nm V t.2]):=by
 refine ⟨fun w s h0=>?_,fun w s a rest h0 hw ha=>?_⟩
 ·unfold yO at h0 ⊢
  simp only at h0 ⊢
  obtain ⟨h1,h2,h3⟩:=(zM hV).1 _ h0
  unfold cfT at h1 h3
  by_cases hp:(ym w s).1=0∨(ym w s).1 < -1000000∨1000000<(ym w s).1
  ·rw [if_pos hp] at h1
   exact absurd h1 (zF (by decide) _)
  ·rw [if_neg hp] at h1 h3
   obtain ⟨h4,h5,h6⟩:=ZD h1
   have e1:=ZE h5 (by have:(ym w s).1=(yH w).1:=rfl;omega)
   have hcf:cfT (ym w s).1 (ym w s).2=s:=by unfold cfT;rw [if_neg hp,h6]
   rw [h6] at h3
   rw [hcf] at h2 ⊢
   refine ⟨h4,⟨cf_in.2 hp,h2⟩,?_⟩
   rw [h3]
   show _=itoa (yH w).1 :: _
   rw [<-e1]
   rfl
 ·injection hw with h1 h2
  subst h1
  have hb:=cf_in.1 ha.1
  unfold yO
  rw [ZF (by omega)]
  simp only
  unfold cfT
  rw [if_neg hb]
  obtain ⟨h3,h4,h5⟩:=(zM hV).2 s a.2 rest h0 h2 ha.2
  exact ⟨by rw [h3],h4,h5⟩
theorem KB {s:St} (h:(endT s).2=0):s.2=0/\words s.1=[]:=by
 unfold endT at h
 cases ht:yl s with
 | none=>rw [ht] at h;exact ⟨h,YE ht h⟩
 | some p=>rw [ht] at h;exact absurd h (zF (by decide) _)
theorem KC {s:St} (h:words s.1=[]):endT s=s:=by unfold endT;rw [Xf h]
theorem KX {α:Type} {rd:List UInt8->St->α × St} {R:α->Prop} {F:α->List (List UInt8)} (hr:RdW rd R F):∀ (k:Nat) (all:List α) (s:St),(yK rd k all s).2.2=0->s.2=0/\∃ l,(yK rd k all s).1=all++l/\l.length<=k/\(∀ a∈l,R a)/\words s.1=l.flatMap F
  | 0, all, s, h => by
    unfold yK at h ⊢
    cases ht:yl s with
    | none=>rw [ht] at h;exact ⟨h,[],by simp,by simp,by simp,YE ht h⟩
    | some p=>rw [ht] at h;exact absurd h (zF (by decide) _)
  | k + 1, all, s, h => by
    unfold yK at h ⊢
    cases ht:yl s with
    | none=>rw [ht] at h;exact ⟨h,[],by simp,by simp,by simp,YE ht h⟩
    | some p =>
      rw [ht] at h
      simp only at h ⊢
      obtain ⟨h1,l,h2,h3,h4,h5⟩:=KX hr k _ _ h
      obtain ⟨h6,h7,h8⟩:=hr.1 _ _ h1
      obtain ⟨h9,_,h10⟩:=Y2 ht
      refine ⟨h9,(rd p.1 p.2).1 :: l,by rw [h2];simp,by simp;omega,?_,?_⟩
      · intro a ha
        rcases List.mem_cons.1 ha with e | e
        · rw [e];exact h7
        · exact h4 a e
      · rw [h10,h8,h5]
        rfl
theorem KY {α:Type} {rd:List UInt8->St->α × St} {R:α->Prop} {F:α->List (List UInt8)} (hr:RdW rd R F) (hF:∀ a,R a->F a≠[]):∀ (l:List α) (k:Nat) (all:List α) (s:St),l.length<=k->s.2=0->(∀ a∈l,R a)->words s.1=l.flatMap F->(yK rd k all s).1=all++l/\(yK rd k all s).2.2=0
  | [], k, all, s, _, h0, _, hw => by
    have ht:=Xf (s:=s) hw
    cases k <;> (unfold yK;rw [ht];exact ⟨by simp,h0⟩)
  | a :: l,0,all,s,hk,_,_,_=>by simp at hk
  | a :: l, k + 1, all, s, hk, h0, hR, hw => by
    have hne:=hF a (hR a (by simp))
    rw [List.flatMap_cons] at hw
    obtain ⟨r,hr2⟩:∃ r,F a=r:=⟨_,rfl⟩
    rw [hr2] at hne hw
    cases r with
    | nil=>exact absurd rfl hne
    | cons w ws =>
      obtain ⟨r,h1,h2,h3⟩:=Yi h0 hw
      obtain ⟨h4,h5,h6⟩:=hr.2 w r a (l.flatMap F) h2 (by rw [h3,hr2];rfl) (hR a (by simp))
      obtain ⟨h7,h8⟩:=KY hr hF l k (all++[a]) (rd w r).2 (by simp at hk;omega) h5 (fun b hb=>hR b (by simp [hb])) h6
      unfold yK
      rw [h1]
      simp only
      rw [h4]
      exact ⟨by rw [h7];simp,h8⟩
theorem Xl {α:Type} {rd:List UInt8->St->α × St} {R:α->Prop} {F:α->List (List UInt8)} (hr:RdW rd R F) (hF:∀ a,R a->F a≠[]):RdE (yp rd) (fun l=>1<=l.length/\l.length<=64/\∀ a∈l,R a) (fun l=>l.flatMap F):=by
  have hr1:=hr.rd hF
  refine ⟨fun s h0=>?_,fun s l h0 hw hl=>?_⟩
  · obtain ⟨h1,l,h2,h3,h4,h5⟩:=KX hr _ _ _ h0
    obtain ⟨h6,h7,h8⟩:=hr1.1 s h1
    unfold yp
    refine ⟨h6,⟨by rw [h2];simp,by rw [h2];simp;omega,?_⟩,?_⟩
    · rw [h2]
      intro a ha
      rcases List.mem_append.1 ha with e | e
      · rw [List.mem_singleton.1 e];exact h7
      · exact h4 a e
    · rw [h2,h8,h5]
      simp
  · obtain ⟨hl1,hl2,hl3⟩:=hl
    cases l with
    | nil=>simp at hl1
    | cons a l =>
      obtain ⟨h1,h2,h3⟩:=hr1.2 s a (l.flatMap F) h0 (by rw [hw];simp) (hl3 a (by simp))
      have:=KY hr hF l 63 [a] (rd (ye s).1 (ye s).2).2 (by simp at hl2;omega) h2 (fun b hb=>hl3 b (by simp [hb])) h3
      unfold yp
      simp only at h1
      rw [h1]
      exact this
end Go.Proofs.YthohnmplbjhjaaaGreatDoor

namespace Go.Proofs.YthohnmplbjhjaaaGreatDoor
open Md Go.Lib
theorem y54 {w:List UInt8} (h:nameB w=true):w≠[58]:=fun e=>by rw [e] at h;exact absurd h (by decide)
theorem Ki {V:List Vr} (hV:PV V):∀ (k:Nat) (xs:List Int) (s:St),(yQ V k xs s).2.2=0->s.2=0/\∃ l,(yQ V k xs s).1=xs++l/\l.length<=k/\(∀ a∈l,inV V a)/\words s.1=l.map (nm V)++[58] :: words (yQ V k xs s).2.1
  | 0, xs, s, h => by
    unfold yQ at h ⊢
    cases ht:yl s with
    | none=>rw [ht] at h;exact absurd h (zF (by decide) _)
    | some p =>
      rw [ht] at h
      simp only at h ⊢
      by_cases hp:p.1=[58]
      · rw [if_pos hp] at h ⊢
        obtain ⟨h1,_,h3⟩:=Y2 ht
        exact ⟨h1,[],by simp,by simp,by simp,by rw [h3,hp];rfl⟩
      · rw [if_neg hp] at h
        exact absurd h (zF (by decide) _)
  | k + 1, xs, s, h => by
    unfold yQ at h ⊢
    cases ht:yl s with
    | none=>rw [ht] at h;exact absurd h (zF (by decide) _)
    | some p =>
      rw [ht] at h
      simp only at h ⊢
      obtain ⟨h1,_,h3⟩:=Y2 ht
      by_cases hp:p.1=[58]
      · rw [if_pos hp] at h ⊢
        exact ⟨h1,[],by simp,by simp,by simp,by rw [h3,hp];rfl⟩
      · rw [if_neg hp] at h ⊢
        obtain ⟨h4,l,h5,h6,h7,h8⟩:=Ki hV k _ _ h
        obtain ⟨_,h10,h11⟩:=(Zr hV).1 _ _ h4
        refine ⟨h1,(yE V p.1 p.2).1 :: l,by rw [h5];simp,by simp;omega,?_,?_⟩
        · intro a ha
          rcases List.mem_cons.1 ha with e | e
          · rw [e];exact h10
          · exact h7 a e
        · rw [h3,h11,h8]
          rfl
theorem Kj {V:List Vr} (hV:PV V):∀ (l:List Int) (k:Nat) (xs:List Int) (s:St) (rest:List (List UInt8)),l.length<=k->s.2=0->(∀ a∈l,inV V a)->words s.1=l.map (nm V)++[58] :: rest->(yQ V k xs s).1=xs++l/\(yQ V k xs s).2.2=0/\words (yQ V k xs s).2.1=rest
  | [], k, xs, s, rest, _, h0, _, hw => by
    obtain ⟨r,h1,h2,h3⟩:=Yi h0 hw
    cases k <;> (unfold yQ;rw [h1];simp only [if_true];exact ⟨by simp,h2,h3⟩)
  | a :: l,0,xs,s,rest,hk,_,_,_=>by simp at hk
  | a :: l, k + 1, xs, s, rest, hk, h0, hR, hw => by
    obtain ⟨r,h1,h2,h3⟩:=Yi h0 hw
    have ha:=hR a (by simp)
    have hne:=y54 (Kk hV ha)
    obtain ⟨h4,h5,h6⟩:=(Zr hV).2 (nm V a) r a (l.map (nm V)++[58] :: rest) h2 (by rw [h3];rfl) ha
    obtain ⟨h7,h8,h9⟩:=Kj hV l k (xs++[a]) (yE V (nm V a) r).2 rest (by simp at hk;omega) h5 (fun b hb=>hR b (by simp [hb])) h6
    unfold yQ
    rw [h1]
    simp only [if_neg hne]
    rw [h4]
    exact ⟨by rw [h7];simp,h8,h9⟩
theorem Kl {V:List Vr} (hV:PV V):Rd (zB V) (fun l=>1<=l.length/\l.length<=8/\∀ a∈l,inV V a) (fun l=>l.map (nm V)++[[58]]):=by
  refine ⟨fun s h0=>?_,fun s l rest h0 hw hl=>?_⟩
  · obtain ⟨h1,l,h2,h3,h4,h5⟩:=Ki hV _ _ _ h0
    obtain ⟨h6,h7,h8⟩:=(zM hV).1 s h1
    unfold zB
    refine ⟨h6,⟨by rw [h2];simp,by rw [h2];simp;omega,?_⟩,?_⟩
    · rw [h2]
      intro a ha
      rcases List.mem_append.1 ha with e | e
      · rw [List.mem_singleton.1 e];exact h7
      · exact h4 a e
    · rw [h2,h8,h5]
      simp
  · obtain ⟨hl1,hl2,hl3⟩:=hl
    cases l with
    | nil=>simp at hl1
    | cons a l =>
      obtain ⟨h1,h2,h3⟩:=(zM hV).2 s a (l.map (nm V)++[58] :: rest) h0 (by rw [hw];simp) (hl3 a (by simp))
      have:=Kj hV l 7 [a] (yz V s).2 rest (by simp at hl2;omega) h2 (fun b hb=>hl3 b (by simp [hb])) h3
      unfold zB
      rw [h1]
      exact this
theorem Km:∀ (k:Nat) (row:List Int) (s:St),(zk k row s).2.2=0->s.2=0/\∃ l,(zk k row s).1=row++l/\l.length=k/\(∀ a∈l,numB a=true)/\words s.1=l.map itoa++words (zk k row s).2.1
  | 0,row,s,h=>⟨h,[],by simp [zk],rfl,by simp,by simp [zk]⟩
  | k + 1, row, s, h => by
    unfold zk at h ⊢
    obtain ⟨h1,l,h2,h3,h4,h5⟩:=Km k _ _ h
    obtain ⟨h6,h7,h8⟩:=rd_number.1 s h1
    refine ⟨h6,(yI s).1 :: l,by rw [h2];simp,by simp [h3],?_,by rw [h8,h5];rfl⟩
    intro a ha
    rcases List.mem_cons.1 ha with e | e
    · rw [e];exact h7
    · exact h4 a e
theorem Kn:∀ (l row:List Int) (s:St) (rest:List (List UInt8)),s.2=0->(∀ a∈l,numB a=true)->words s.1=l.map itoa++rest->(zk l.length row s).1=row++l/\(zk l.length row s).2.2=0/\words (zk l.length row s).2.1=rest
  | [],row,s,rest,h0,_,hw=>⟨by simp [zk],h0,hw⟩
  | a :: l, row, s, rest, h0, hR, hw => by
    obtain ⟨h1,h2,h3⟩:=rd_number.2 s a (l.map itoa++rest) h0 (by rw [hw];rfl) (hR a (by simp))
    obtain ⟨h4,h5,h6⟩:=Kn l (row++[a]) (yI s).2 rest h2 (fun b hb=>hR b (by simp [hb])) h3
    show (zk l.length (row++[(yI s).1]) (yI s).2).1=_/\(zk l.length (row++[(yI s).1]) (yI s).2).2.2=0/\words (zk l.length (row++[(yI s).1]) (yI s).2).2.1=rest
    rw [h1]
    exact ⟨by rw [h4];simp,h5,h6⟩
theorem Zs {n:Nat} (hn:1<=n):RdW (yT n) (fun l=>l.length=n/\∀ a∈l,numB a=true) (fun l=>l.map itoa):=by
  refine ⟨fun w s h0=>?_,fun w s l rest h0 hw hl=>?_⟩
  · obtain ⟨h1,l,h2,h3,h4,h5⟩:=Km _ _ _ h0
    obtain ⟨h6,h7,h8⟩:=rd_value.1 w s h1
    unfold yT
    refine ⟨h6,⟨by rw [h2];simp;omega,?_⟩,?_⟩
    · rw [h2]
      intro a ha
      rcases List.mem_append.1 ha with e | e
      · rw [List.mem_singleton.1 e];exact h7
      · exact h4 a e
    · rw [h2,h8,h5]
      simp
  · obtain ⟨hl1,hl2⟩:=hl
    cases l with
    | nil=>simp at hl1;omega
    | cons a l =>
      obtain ⟨h1,h2,h3⟩:=rd_value.2 w s a (l.map itoa++rest) h0 (by rw [hw];simp) (hl2 a (by simp))
      have:=Kn l [a] (yN w s).2 rest h2 (fun b hb=>hl2 b (by simp [hb])) h3
      unfold yT
      rw [h1,show n-1=l.length by simp at hl1;omega]
      exact this
def rowW (r:List Int):List (List UInt8):=[58] :: r.map itoa
theorem Ko {w x:List UInt8} {s:St} (h:(zq w x s).2=0):w=x/\zq w x s=s:=by
 unfold zq at h ⊢
 by_cases hp:w=x
 ·exact ⟨hp,if_pos hp⟩
 ·rw [if_neg hp] at h
  exact absurd h (zF (by decide) _)
theorem Kp {n:Nat} (hn:1<=n):∀ (k:Nat) (all:List (List Int)) (s:St),(za n k all s).2.2=0->s.2=0/\∃ l,(za n k all s).1=all++l/\l.length<=k/\(∀ r∈l,r.length=n/\∀ a∈r,numB a=true)/\words s.1=l.flatMap rowW
  | 0, all, s, h => by
    unfold za at h ⊢
    cases ht:yl s with
    | none=>rw [ht] at h;exact ⟨h,[],by simp,by simp,by simp,YE ht h⟩
    | some p =>
      rw [ht] at h
      exact absurd ((Zs hn).1 _ _ h).1 (zF (by decide) _)
  | k + 1, all, s, h => by
    unfold za at h ⊢
    cases ht:yl s with
    | none=>rw [ht] at h;exact ⟨h,[],by simp,by simp,by simp,YE ht h⟩
    | some p =>
      rw [ht] at h
      simp only at h ⊢
      obtain ⟨h1,l,h2,h3,h4,h5⟩:=Kp hn k _ _ h
      obtain ⟨h6,h7,h8⟩:=(Zs hn).1 _ _ h1
      obtain ⟨h9,h10⟩:=Yj h6
      obtain ⟨h11,h12⟩:=Ko h9
      obtain ⟨h13,_,h15⟩:=Y2 ht
      obtain ⟨q,hq⟩:∃ q,ye (zq p.1 [58] p.2)=q:=⟨_,rfl⟩
      rw [hq] at h2 h7 h8 h5 h10 ⊢
      refine ⟨h13,(yT n q.1 q.2).1 :: l,by rw [h2];simp,by simp;omega,?_,?_⟩
      · intro a ha
        rcases List.mem_cons.1 ha with e | e
        · rw [e];exact h7
        · exact h4 a e
      · rw [h12] at h10
        rw [h15,h10,h8,h5,h11]
        rfl
theorem Kr {n:Nat} (hn:1<=n):∀ (l:List (List Int)) (k:Nat) (all:List (List Int)) (s:St),l.length<=k->s.2=0->(∀ r∈l,r.length=n/\∀ a∈r,numB a=true)->words s.1=l.flatMap rowW->(za n k all s).1=all++l/\(za n k all s).2.2=0
  | [], k, all, s, _, h0, _, hw => by
    have ht:=Xf (s:=s) hw
    cases k <;> (unfold za;rw [ht];exact ⟨by simp,h0⟩)
  | a :: l,0,all,s,hk,_,_,_=>by simp at hk
  | a :: l, k + 1, all, s, hk, h0, hR, hw => by
    have ha:=hR a (by simp)
    rw [List.flatMap_cons] at hw
    obtain ⟨r,h1,h2,h3⟩:=Yi (w:=[58]) (ws:=a.map itoa++l.flatMap rowW) h0 hw
    have hm:zq [58] [58] r=r:=rfl
    have hrd:=((Zs hn).rd (fun b hb=>by
      have:=hb.1
      cases b with
      | nil=>simp at this;omega
      | cons c d=>simp)).2 r a (l.flatMap rowW) h2 h3 ha
    obtain ⟨h4,h5,h6⟩:=hrd
    obtain ⟨h7,h8⟩:=Kr hn l k (all++[a]) (yT n (ye r).1 (ye r).2).2 (by simp at hk;omega) h5 (fun b hb=>hR b (by simp [hb])) h6
    unfold za
    rw [h1]
    simp only
    rw [hm]
    simp only at h4
    rw [h4]
    exact ⟨by rw [h7];simp,h8⟩
theorem Ks {n:Nat} (hn:1<=n):RdE (zU n) (fun l=>1<=l.length/\l.length<=64/\∀ r∈l,r.length=n/\∀ a∈r,numB a=true) (fun l=>(l.flatMap rowW).tail):=by
  have hr1:=(Zs hn).rd (fun b hb=>by
      have:=hb.1
      cases b with
      | nil=>simp at this;omega
      | cons c d=>simp)
  refine ⟨fun s h0=>?_,fun s l h0 hw hl=>?_⟩
  · obtain ⟨h1,l,h2,h3,h4,h5⟩:=Kp hn _ _ _ h0
    obtain ⟨h6,h7,h8⟩:=hr1.1 s h1
    unfold zU
    refine ⟨h6,⟨by rw [h2];simp,by rw [h2];simp;omega,?_⟩,?_⟩
    · rw [h2]
      intro a ha
      rcases List.mem_append.1 ha with e | e
      · rw [List.mem_singleton.1 e];exact h7
      · exact h4 a e
    · rw [h2,h8,h5]
      simp [rowW]
  · obtain ⟨hl1,hl2,hl3⟩:=hl
    cases l with
    | nil=>simp at hl1
    | cons a l =>
      obtain ⟨h1,h2,h3⟩:=hr1.2 s a (l.flatMap rowW) h0 (by rw [hw];simp [rowW]) (hl3 a (by simp))
      have:=Kr hn l 63 [a] (yT n (ye s).1 (ye s).2).2 (by simp at hl2;omega) h2 (fun b hb=>hl3 b (by simp [hb])) h3
      unfold zU
      simp only at h1
      rw [h1]
      exact this
end Go.Proofs.YthohnmplbjhjaaaGreatDoor

namespace Go.Proofs.YthohnmplbjhjaaaGreatDoor
open Md Go.Lib
theorem fault_iff {c:Cn} {n:Int}:fault c n=0↔kindBad c.kind c.op=false/\plainBad c=false/\listBad c=false/\manyBad c=false/\placesB c n=true/\coefsB c.terms=true/\numsB c=true:=by
 unfold fault
 cases h1:kindBad c.kind c.op
 ·cases h2:plainBad c
  ·cases h3:listBad c
   ·cases h4:manyBad c
    ·cases h5:placesB c n
     ·simp
     ·cases h6:coefsB c.terms
      ·simp
      ·cases h7:numsB c <;> simp
    ·simp
   ·simp
  ·simp
 ·simp
theorem xA {c:Cn} {n:Int} (h:fault c n=0):(fOp c.kind=false->c.op=0)/\(fK c.kind=false->c.k=0)/\(fV c.kind=false->c.v=0)/\(fX c.kind=false->c.x=0)/\(fY c.kind=false->c.y=0) /\
  (fTerms c.kind=false->c.terms=[])/\(fXs c.kind=false->c.xs=[])/\(Md.fTable c.kind=false->c.table=[])/\(fRows c.kind=false->c.rows=[]):=by
 obtain ⟨_,h2,h3,_⟩:=fault_iff.1 h
 simp only [plainBad,Bool.or_eq_false_iff,Bool.and_eq_false_iff,Bool.not_eq_false',bne_eq_false_iff_eq] at h2
 simp only [listBad,Bool.or_eq_false_iff,Bool.and_eq_false_iff,Bool.not_eq_false',decide_eq_false_iff_not] at h3
 obtain ⟨⟨⟨⟨a1,a2⟩,a3⟩,a4⟩,a5⟩:=h2
 obtain ⟨⟨⟨b1,b2⟩,b3⟩,b4⟩:=h3
 have hz:∀ {α:Type} (l:List α),¬ 0<l.length->l=[]:=fun l hl=>List.length_eq_zero_iff.1 (by omega)
 exact ⟨fun e=>a1.resolve_left (by rw [e];decide),fun e=>a2.resolve_left (by rw [e];decide),fun e=>a3.resolve_left (by rw [e];decide),fun e=>a4.resolve_left (by rw [e];decide),fun e=>a5.resolve_left (by rw [e];decide),
  fun e=>hz _ (b1.resolve_left (by rw [e];decide)),fun e=>hz _ (b2.resolve_left (by rw [e];decide)),fun e=>hz _ (b3.resolve_left (by rw [e];decide)),fun e=>hz _ (b4.resolve_left (by rw [e];decide))⟩
theorem pl_in {V:List Vr} {x:Int}:plB (V.length:Int) x=true↔inV V x:=by simp [plB,inV]
def nmsW (V:List Vr) (l:List Int):List (List UInt8):=l.flatMap fun x=>[nm V x]
def numW (l:List Int):List (List UInt8):=l.flatMap fun n=>[itoa n]
def sumW (V:List Vr) (t:List (Int × Int)):List (List UInt8):=t.flatMap fun t=>[itoa t.1,nm V t.2]
def conR (V:List Vr) (c:Cn):List (List UInt8):=
 if c.kind=1 then opT c.op :: itoa c.k :: sumW V c.terms
 else if c.kind=2 then [nm V c.x,nm V c.y,itoa c.k]
 else if c.kind=3 then nmsW V c.xs
 else if c.kind=4 then nm V c.x :: nm V c.y :: numW c.table
 else if c.kind=5∨c.kind=6 then nm V c.y :: nmsW V c.xs
 else if c.kind=7 then nm V c.x :: [60,61] :: itoa c.k :: sumW V c.terms
 else if c.kind=8 then c.xs.map (nm V)++c.rows.flatMap rowW
 else opT c.op :: itoa c.k :: itoa c.v :: nmsW V c.xs
def cnR (V:List Vr) (k:Int) (y:Sy):Prop:=y.v=zv/\y.c.kind=k/\fault y.c (V.length:Int)=0
theorem Xg {V:List Vr} {x:Int} (h:inV V x):inV V 0:=⟨by omega,by have:=h.1;have:=h.2;omega⟩
theorem YF {V:List Vr} (hV:PV V):RdE (yp (yE V)) (fun l=>1<=l.length/\l.length<=64/\∀ a∈l,inV V a) (nmsW V):=Xl (Zr hV) (fun _ _=>by simp)
theorem YG {V:List Vr} (hV:PV V):RdE (yp (yO V)) (fun l=>1<=l.length/\l.length<=64/\∀ a∈l,cfB a.1=true/\inV V a.2) (sumW V):=Xl (y5a hV) (fun _ _=>by simp)
theorem nums_list:RdE (yp yN) (fun l=>1<=l.length/\l.length<=64/\∀ a∈l,numB a=true) numW:=Xl rd_value (fun _ _=>by simp)
theorem Zv {V:List Vr} {l:List Int} (h:1<=l.length) (hl:∀ a∈l,inV V a):inV V 0:=by
 cases l with
 | nil=>simp at h
 | cons a l=>exact Xg (hl a (by simp))
theorem KA {V:List Vr} {l:List (Int × Int)} (h:1<=l.length) (hl:∀ a∈l,cfB a.1=true/\inV V a.2):inV V 0:=by
 cases l with
 | nil=>simp at h
 | cons a l=>exact Xg (hl a (by simp)).2
theorem xr {n m:Nat} (h:1<=n/\n<=m):fewB n m=false:=by unfold fewB;exact decide_eq_false (by omega)
theorem zX {n m:Nat} (h:fewB n m=false):1<=n/\n<=m:=by unfold fewB at h;have:=of_decide_eq_false h;omega
theorem all_in {V:List Vr} {l:List Int}:l.all (plB (V.length:Int))=true↔∀ a∈l,inV V a:=by
 rw [List.all_eq_true]
 exact ⟨fun h a ha=>pl_in.1 (h a ha),fun h a ha=>pl_in.2 (h a ha)⟩
theorem all_in2 {V:List Vr} {l:List (Int × Int)}:(l.all (fun t=>plB (V.length:Int) t.2)=true/\coefsB l=true)↔∀ a∈l,cfB a.1=true/\inV V a.2:=by
 unfold coefsB
 rw [List.all_eq_true,List.all_eq_true]
 exact ⟨fun h a ha=>⟨h.2 a ha,pl_in.1 (h.1 a ha)⟩,fun h=>⟨fun a ha=>pl_in.2 (h a ha).2,fun a ha=>(h a ha).1⟩⟩
theorem lin_iff {V:List Vr} {o k:Int} {t:List (Int × Int)}:fault ⟨1,o,t,k,0,0,0,[],[],[]⟩ (V.length:Int)=0↔(1<=o/\o<=3)/\numB k=true/\1<=t.length/\t.length<=64/\∀ a∈t,cfB a.1=true/\inV V a.2:=by
 rw [fault_iff]
 constructor
 ·rintro ⟨h1,_,_,h4,h5,h6,h7⟩
  have h1':1<=o/\o<=3:=by
   simp only [kindBad,fOp,Bool.or_eq_false_iff,Bool.and_eq_false_iff,decide_eq_false_iff_not] at h1
   have:=h1.2.resolve_left (by decide)
   omega
  simp only [manyBad,Bool.or_eq_false_iff,Bool.and_eq_false_iff] at h4
  have h4':=zX (h4.1.1.1.1.resolve_left (by decide))
  simp only [placesB,Bool.and_eq_true] at h5
  simp only [numsB,Bool.and_eq_true] at h7
  exact ⟨h1',h7.1.1.1,h4'.1,h4'.2,all_in2.1 ⟨h5.1.2,h6⟩⟩
 ·rintro ⟨h1,h2,h3,h4,h5⟩
  obtain ⟨h6,h7⟩:=all_in2.2 h5
  have h8:plB (V.length:Int) 0=true:=pl_in.2 (KA h3 h5)
  refine ⟨?_,rfl,rfl,?_,?_,h7,?_⟩
  ·unfold kindBad
   rw [decide_eq_false (by omega:¬ ((1:Int)<1∨9<(1:Int))),decide_eq_false (by omega:¬ (o<1∨3<o))]
   rfl
  ·unfold manyBad
   simp only [xr ⟨h3,h4⟩]
   rfl
  ·unfold placesB
   simp only [h8,h6]
   rfl
  ·unfold numsB
   simp only [h2]
   rfl
theorem y5b {V:List Vr} (hV:PV V):RdE (fLin V) (cnR V 1) (fun y=>conR V y.c):=by
 refine ⟨fun s h0=>?_,fun s y h0 hw hy=>?_⟩
 ·obtain ⟨h1,h2,h3⟩:=(YG hV).1 _ h0
  obtain ⟨h4,h5,h6⟩:=rd_number.1 _ h1
  obtain ⟨h7,h8,h9⟩:=rd_op.1 _ h4
  exact ⟨h7,⟨rfl,rfl,lin_iff.2 ⟨h8,h5,h2⟩⟩,by rw [h9,h6,h3];rfl⟩
 ·obtain ⟨v,kind,op,t,k,vv,x,yy,xs,tb,r⟩:=y
  obtain ⟨h1,h2,h3⟩:=hy
  simp only at h1 h2 h3
  subst h1;subst h2
  obtain ⟨_,_,p3,p4,p5,_,p7,p8,p9⟩:=xA h3
  have e1:=p3 rfl;have e2:=p4 rfl;have e3:=p5 rfl;have e4:=p7 rfl;have e5:=p8 rfl;have e6:=p9 rfl
  simp only at e1 e2 e3 e4 e5 e6
  subst e1 e2 e3 e4 e5 e6
  obtain ⟨q1,q2,q3⟩:=lin_iff.1 h3
  obtain ⟨a1,a2,a3⟩:=rd_op.2 s op _ h0 hw q1
  obtain ⟨b1,b2,b3⟩:=rd_number.2 _ k _ a2 a3 q2
  obtain ⟨c1,c2⟩:=(YG hV).2 _ t b2 b3 q3
  unfold fLin
  simp only [a1,b1,c1]
  exact ⟨trivial,c2⟩
theorem ne_iff {V:List Vr} {x y k:Int}:fault ⟨2,0,[],k,0,x,y,[],[],[]⟩ (V.length:Int)=0↔inV V x/\inV V y/\numB k=true:=by
 rw [fault_iff]
 constructor
 ·rintro ⟨_,_,_,_,h5,_,h7⟩
  simp only [placesB,Bool.and_eq_true] at h5
  simp only [numsB,Bool.and_eq_true] at h7
  exact ⟨pl_in.1 h5.1.1.1,pl_in.1 h5.1.1.2,h7.1.1.1⟩
 ·rintro ⟨h1,h2,h3⟩
  refine ⟨rfl,rfl,rfl,rfl,?_,rfl,?_⟩
  ·unfold placesB
   simp only [pl_in.2 h1,pl_in.2 h2]
   rfl
  ·unfold numsB
   simp only [h3]
   rfl
theorem y5c {V:List Vr} (hV:PV V):RdE (fNe V) (cnR V 2) (fun y=>conR V y.c):=by
 refine ⟨fun s h0=>?_,fun s y h0 hw hy=>?_⟩
 ·obtain ⟨h1,h2⟩:=KB h0
  obtain ⟨h4,h5,h6⟩:=rd_number.1 _ h1
  obtain ⟨h7,h8,h9⟩:=(zM hV).1 _ h4
  obtain ⟨h10,h11,h12⟩:=(zM hV).1 _ h7
  exact ⟨h10,⟨rfl,rfl,ne_iff.2 ⟨h11,h8,h5⟩⟩,by rw [h12,h9,h6,h2];rfl⟩
 ·obtain ⟨v,kind,op,t,k,vv,x,yy,xs,tb,r⟩:=y
  obtain ⟨h1,h2,h3⟩:=hy
  simp only at h1 h2 h3
  subst h1;subst h2
  obtain ⟨p1,_,p3,_,_,p6,p7,p8,p9⟩:=xA h3
  have e1:=p1 rfl;have e2:=p3 rfl;have e3:=p6 rfl;have e4:=p7 rfl;have e5:=p8 rfl;have e6:=p9 rfl
  simp only at e1 e2 e3 e4 e5 e6
  subst e1 e2 e3 e4 e5 e6
  obtain ⟨q1,q2,q3⟩:=ne_iff.1 h3
  obtain ⟨a1,a2,a3⟩:=(zM hV).2 s x [nm V yy,itoa k] h0 hw q1
  obtain ⟨b1,b2,b3⟩:=(zM hV).2 _ yy [itoa k] a2 a3 q2
  obtain ⟨c1,c2,c3⟩:=rd_number.2 _ k [] b2 b3 q3
  unfold fNe
  simp only [a1,b1,c1]
  exact ⟨trivial,by rw [KC c3];exact c2⟩
theorem all_iff {V:List Vr} {xs:List Int}:fault ⟨3,0,[],0,0,0,0,xs,[],[]⟩ (V.length:Int)=0↔1<=xs.length/\xs.length<=64/\∀ a∈xs,inV V a:=by
 rw [fault_iff]
 constructor
 ·rintro ⟨_,_,_,h4,h5,_,_⟩
  simp only [manyBad,Bool.or_eq_false_iff,Bool.and_eq_false_iff] at h4
  have h4':=zX (h4.1.1.1.2.resolve_left (by decide))
  simp only [placesB,Bool.and_eq_true] at h5
  exact ⟨h4'.1,h4'.2,all_in.1 h5.2⟩
 ·rintro ⟨h1,h2,h3⟩
  have h8:plB (V.length:Int) 0=true:=pl_in.2 (Zv h1 h3)
  refine ⟨rfl,rfl,rfl,?_,?_,rfl,rfl⟩
  ·unfold manyBad mostXs
   simp only [if_neg (by decide:¬ (3:Int)=8),xr ⟨h1,h2⟩]
   rfl
  ·unfold placesB
   simp only [h8,all_in.2 h3]
   rfl
theorem y5d {V:List Vr} (hV:PV V):RdE (fAll V) (cnR V 3) (fun y=>conR V y.c):=by
 refine ⟨fun s h0=>?_,fun s y h0 hw hy=>?_⟩
 ·obtain ⟨h1,h2,h3⟩:=(YF hV).1 _ h0
  exact ⟨h1,⟨rfl,rfl,all_iff.2 h2⟩,by rw [h3];rfl⟩
 ·obtain ⟨v,kind,op,t,k,vv,x,yy,xs,tb,r⟩:=y
  obtain ⟨h1,h2,h3⟩:=hy
  simp only at h1 h2 h3
  subst h1;subst h2
  obtain ⟨p1,p2,p3,p4,p5,p6,_,p8,p9⟩:=xA h3
  have e1:=p1 rfl;have e2:=p2 rfl;have e3:=p3 rfl;have e4:=p4 rfl;have e5:=p5 rfl;have e6:=p6 rfl;have e7:=p8 rfl;have e8:=p9 rfl
  simp only at e1 e2 e3 e4 e5 e6 e7 e8
  subst e1 e2 e3 e4 e5 e6 e7 e8
  obtain ⟨c1,c2⟩:=(YF hV).2 s xs h0 hw (all_iff.1 h3)
  unfold fAll
  simp only [c1]
  exact ⟨trivial,c2⟩
theorem el_iff {V:List Vr} {x y:Int} {tb:List Int}:fault ⟨4,0,[],0,0,x,y,[],tb,[]⟩ (V.length:Int)=0↔inV V x/\inV V y/\1<=tb.length/\tb.length<=64/\∀ a∈tb,numB a=true:=by
 rw [fault_iff]
 constructor
 ·rintro ⟨_,_,_,h4,h5,_,h7⟩
  simp only [manyBad,Bool.or_eq_false_iff,Bool.and_eq_false_iff] at h4
  have h4':=zX (h4.1.1.2.resolve_left (by decide))
  simp only [placesB,Bool.and_eq_true] at h5
  simp only [numsB,Bool.and_eq_true,List.all_eq_true] at h7
  exact ⟨pl_in.1 h5.1.1.1,pl_in.1 h5.1.1.2,h4'.1,h4'.2,h7.1.2⟩
 ·rintro ⟨h1,h2,h3,h4,h5⟩
  refine ⟨rfl,rfl,rfl,?_,?_,rfl,?_⟩
  ·unfold manyBad
   simp only [xr ⟨h3,h4⟩]
   rfl
  ·unfold placesB
   simp only [pl_in.2 h1,pl_in.2 h2]
   rfl
  ·unfold numsB
   have:tb.all numB=true:=by rw [List.all_eq_true];exact h5
   simp only [this]
   rfl
theorem y5e {V:List Vr} (hV:PV V):RdE (fEl V) (cnR V 4) (fun y=>conR V y.c):=by
 refine ⟨fun s h0=>?_,fun s y h0 hw hy=>?_⟩
 ·obtain ⟨h1,h2,h3⟩:=nums_list.1 _ h0
  obtain ⟨h7,h8,h9⟩:=(zM hV).1 _ h1
  obtain ⟨h10,h11,h12⟩:=(zM hV).1 _ h7
  exact ⟨h10,⟨rfl,rfl,el_iff.2 ⟨h11,h8,h2⟩⟩,by rw [h12,h9,h3];rfl⟩
 ·obtain ⟨v,kind,op,t,k,vv,x,yy,xs,tb,r⟩:=y
  obtain ⟨h1,h2,h3⟩:=hy
  simp only at h1 h2 h3
  subst h1;subst h2
  obtain ⟨p1,p2,p3,_,_,p6,p7,_,p9⟩:=xA h3
  have e1:=p1 rfl;have e2:=p2 rfl;have e3:=p3 rfl;have e4:=p6 rfl;have e5:=p7 rfl;have e6:=p9 rfl
  simp only at e1 e2 e3 e4 e5 e6
  subst e1 e2 e3 e4 e5 e6
  obtain ⟨q1,q2,q3⟩:=el_iff.1 h3
  obtain ⟨a1,a2,a3⟩:=(zM hV).2 s x _ h0 hw q1
  obtain ⟨b1,b2,b3⟩:=(zM hV).2 _ yy _ a2 a3 q2
  obtain ⟨c1,c2⟩:=nums_list.2 _ tb b2 b3 q3
  unfold fEl
  simp only [a1,b1,c1]
  exact ⟨trivial,c2⟩
theorem Zw {V:List Vr} {k y:Int} {xs:List Int} (hk:k=5∨k=6):fault ⟨k,0,[],0,0,0,y,xs,[],[]⟩ (V.length:Int)=0↔inV V y/\1<=xs.length/\xs.length<=64/\∀ a∈xs,inV V a:=by
 rw [fault_iff]
 constructor
 ·rintro ⟨_,_,_,h4,h5,_,_⟩
  simp only [manyBad,Bool.or_eq_false_iff,Bool.and_eq_false_iff] at h4
  have h4':=zX (h4.1.1.1.2.resolve_left (by rcases hk with rfl | rfl <;> decide))
  have h4'':xs.length<=64:=by
   have:=h4'.2
   rcases hk with rfl | rfl <;> exact this
  simp only [placesB,Bool.and_eq_true] at h5
  exact ⟨pl_in.1 h5.1.1.2,h4'.1,h4'',all_in.1 h5.2⟩
 ·rintro ⟨h0,h1,h2,h3⟩
  have h8:plB (V.length:Int) 0=true:=pl_in.2 (Zv h1 h3)
  refine ⟨by rcases hk with rfl | rfl <;> rfl,by rcases hk with rfl | rfl <;> rfl,by rcases hk with rfl | rfl <;> rfl,?_,?_,rfl,rfl⟩
  ·unfold manyBad mostXs
   rcases hk with rfl | rfl
   ·simp only [if_neg (by decide:¬ (5:Int)=8),xr ⟨h1,h2⟩]
    rfl
   ·simp only [if_neg (by decide:¬ (6:Int)=8),xr ⟨h1,h2⟩]
    rfl
  ·unfold placesB
   simp only [h8,all_in.2 h3,pl_in.2 h0]
   rfl
theorem KD {V:List Vr} (hV:PV V) (k:Int) (hk:k=5∨k=6):RdE (fMax V k) (cnR V k) (fun y=>conR V y.c):=by
 have hc:∀ c:Cn,c.kind=k->conR V c=nm V c.y :: nmsW V c.xs:=fun c h=>by
  unfold conR
  rw [h]
  rcases hk with rfl | rfl <;> rfl
 refine ⟨fun s h0=>?_,fun s y h0 hw hy=>?_⟩
 ·obtain ⟨h1,h2,h3⟩:=(YF hV).1 _ h0
  obtain ⟨h10,h11,h12⟩:=(zM hV).1 _ h1
  refine ⟨h10,⟨rfl,rfl,(Zw hk).2 ⟨h11,h2⟩⟩,?_⟩
  show _=conR V _
  rw [hc _ rfl,h12,h3]
  rfl
 ·obtain ⟨v,kind,op,t,kk,vv,x,yy,xs,tb,r⟩:=y
  obtain ⟨h1,h2,h3⟩:=hy
  have hw2:=hw.trans (hc _ h2)
  simp only at h1 h2 h3 hw2
  clear hw
  subst h1;subst h2
  obtain ⟨p1,p2,p3,p4,_,p6,_,p8,p9⟩:=xA h3
  have e1:=p1 (by rcases hk with rfl | rfl <;> rfl);have e2:=p2 (by rcases hk with rfl | rfl <;> rfl);have e3:=p3 (by rcases hk with rfl | rfl <;> rfl);have e4:=p4 (by rcases hk with rfl | rfl <;> rfl);have e5:=p6 (by rcases hk with rfl | rfl <;> rfl);have e6:=p8 (by rcases hk with rfl | rfl <;> rfl);have e7:=p9 (by rcases hk with rfl | rfl <;> rfl)
  simp only at e1 e2 e3 e4 e5 e6 e7
  subst e1 e2 e3 e4 e5 e6 e7
  obtain ⟨q1,q2⟩:=(Zw hk).1 h3
  obtain ⟨a1,a2,a3⟩:=(zM hV).2 s yy _ h0 hw2 q1
  obtain ⟨c1,c2⟩:=(YF hV).2 _ xs a2 a3 q2
  unfold fMax
  simp only [a1,c1]
  exact ⟨trivial,c2⟩
theorem rf_iff {V:List Vr} {x k:Int} {t:List (Int × Int)}:fault ⟨7,0,t,k,0,x,0,[],[],[]⟩ (V.length:Int)=0↔inV V x/\numB k=true/\1<=t.length/\t.length<=64/\∀ a∈t,cfB a.1=true/\inV V a.2:=by
 rw [fault_iff]
 constructor
 ·rintro ⟨_,_,_,h4,h5,h6,h7⟩
  simp only [manyBad,Bool.or_eq_false_iff,Bool.and_eq_false_iff] at h4
  have h4':=zX (h4.1.1.1.1.resolve_left (by decide))
  simp only [placesB,Bool.and_eq_true] at h5
  simp only [numsB,Bool.and_eq_true] at h7
  exact ⟨pl_in.1 h5.1.1.1,h7.1.1.1,h4'.1,h4'.2,all_in2.1 ⟨h5.1.2,h6⟩⟩
 ·rintro ⟨h0,h2,h3,h4,h5⟩
  obtain ⟨h6,h7⟩:=all_in2.2 h5
  have h8:plB (V.length:Int) 0=true:=pl_in.2 (KA h3 h5)
  refine ⟨rfl,rfl,rfl,?_,?_,h7,?_⟩
  ·unfold manyBad
   simp only [xr ⟨h3,h4⟩]
   rfl
  ·unfold placesB
   simp only [h8,h6,pl_in.2 h0]
   rfl
  ·unfold numsB
   simp only [h2]
   rfl
theorem y5f {V:List Vr} (hV:PV V):RdE (xo V) (cnR V 7) (fun y=>conR V y.c):=by
 refine ⟨fun s h0=>?_,fun s y h0 hw hy=>?_⟩
 ·obtain ⟨h1,h2,h3⟩:=(YG hV).1 _ h0
  obtain ⟨h4,h5,h6⟩:=rd_number.1 _ h1
  obtain ⟨h7,h8⟩:=Ko h4
  rw [h8] at h4 h6
  obtain ⟨h9,h10⟩:=Yj h4
  obtain ⟨h11,h12,h13⟩:=(zM hV).1 _ h9
  refine ⟨h11,⟨rfl,rfl,rf_iff.2 ⟨h12,h5,h2⟩⟩,?_⟩
  have e:(xo V s).1.c.k=(yI (ye (yz V s).2).2).1:=by unfold xo;simp only [h8]
  have e2:words s.1=nm V (yz V s).1 :: [60,61] :: itoa (yI (ye (yz V s).2).2).1 :: words (yI (ye (yz V s).2).2).2.1:=by rw [h13,h10,h7,h6];rfl
  rw [e2]
  show _=nm V (yz V s).1 :: [60,61] :: itoa (xo V s).1.c.k :: sumW V _
  rw [e]
  rw [h8] at h3
  rw [h3]
  unfold xo
  simp only [h8]
 ·obtain ⟨v,kind,op,t,k,vv,x,yy,xs,tb,r⟩:=y
  obtain ⟨h1,h2,h3⟩:=hy
  simp only at h1 h2 h3
  subst h1;subst h2
  obtain ⟨p1,_,p3,_,p5,_,p7,p8,p9⟩:=xA h3
  have e1:=p1 rfl;have e2:=p3 rfl;have e3:=p5 rfl;have e4:=p7 rfl;have e5:=p8 rfl;have e6:=p9 rfl
  simp only at e1 e2 e3 e4 e5 e6
  subst e1 e2 e3 e4 e5 e6
  obtain ⟨q1,q2,q3⟩:=rf_iff.1 h3
  obtain ⟨a1,a2,a3⟩:=(zM hV).2 s x _ h0 hw q1
  obtain ⟨b1,b2,b3⟩:=YH a2 a3
  have hm:zq [60,61] [60,61] (ye (yz V s).2).2=(ye (yz V s).2).2:=rfl
  obtain ⟨d1,d2,d3⟩:=rd_number.2 _ k _ b2 b3 q2
  obtain ⟨c1,c2⟩:=(YG hV).2 _ t d2 d3 q3
  unfold xo
  simp only [a1,b1,hm,d1,c1]
  exact ⟨trivial,c2⟩
theorem tb_iff {V:List Vr} {xs:List Int} {r:List (List Int)}:fault ⟨8,0,[],0,0,0,0,xs,[],r⟩ (V.length:Int)=0↔(1<=xs.length/\xs.length<=8/\∀ a∈xs,inV V a)/\1<=r.length/\r.length<=64/\∀ l∈r,l.length=xs.length/\∀ a∈l,numB a=true:=by
 rw [fault_iff]
 constructor
 ·rintro ⟨_,_,_,h4,h5,_,h7⟩
  simp only [manyBad,Bool.or_eq_false_iff,Bool.and_eq_false_iff] at h4
  have h4':=zX (h4.1.1.1.2.resolve_left (by decide))
  have h4r:=zX (h4.1.2.resolve_left (by decide))
  have h4l:=h4.2
  simp only [Bool.not_eq_false',List.all_eq_true,beq_iff_eq] at h4l
  simp only [placesB,Bool.and_eq_true] at h5
  simp only [numsB,Bool.and_eq_true,List.all_eq_true] at h7
  exact ⟨⟨h4'.1,h4'.2,all_in.1 h5.2⟩,h4r.1,h4r.2,fun l hl=>⟨h4l l hl,h7.2 l hl⟩⟩
 ·rintro ⟨⟨h1,h2,h3⟩,h4,h5,h6⟩
  have h8:plB (V.length:Int) 0=true:=pl_in.2 (Zv h1 h3)
  refine ⟨rfl,rfl,rfl,?_,?_,rfl,?_⟩
  ·unfold manyBad mostXs
   have:(r.all fun l=>l.length==xs.length)=true:=by rw [List.all_eq_true];intro l hl;rw [beq_iff_eq];exact (h6 l hl).1
   simp only [if_true,xr ⟨h1,h2⟩,xr ⟨h4,h5⟩,this]
   rfl
  ·unfold placesB
   simp only [h8,all_in.2 h3]
   rfl
  ·unfold numsB
   have:(r.all fun l=>l.all numB)=true:=by rw [List.all_eq_true];intro l hl;rw [List.all_eq_true];exact (h6 l hl).2
   simp only [this]
   rfl
theorem KE {r:List (List Int)} (h:1<=r.length):r.flatMap rowW=[58] :: (r.flatMap rowW).tail:=by
 cases r with
 | nil=>simp at h
 | cons a l=>simp [rowW]
theorem KF (V:List Vr):∀ (k:Nat) (xs:List Int) (s:St),xs.length<=(yQ V k xs s).1.length
  | 0, xs, s => by
    unfold yQ
    split
    · exact Nat.le_refl _
    · split <;> exact Nat.le_refl _
  | k + 1, xs, s => by
    unfold yQ
    split
    · exact Nat.le_refl _
    · rename_i p _
      split
      · exact Nat.le_refl _
      · have:=KF V k (xs++[(yE V p.1 p.2).1]) (yE V p.1 p.2).2
        simp at this
        omega
theorem y5g {V:List Vr} (hV:PV V):RdE (fTable V) (cnR V 8) (fun y=>conR V y.c):=by
 refine ⟨fun s h0=>?_,fun s y h0 hw hy=>?_⟩
 ·have hn:1<=(zB V s).1.length:=KF V 7 [(yz V s).1] (yz V s).2
  obtain ⟨h1,h2,h3⟩:=(Ks hn).1 _ h0
  obtain ⟨h4,h5,h6⟩:=(Kl hV).1 _ h1
  refine ⟨h4,⟨rfl,rfl,tb_iff.2 ⟨h5,h2⟩⟩,?_⟩
  rw [h6,h3]
  show _=(zB V s).1.map (nm V)++(zU (zB V s).1.length (zB V s).2).1.flatMap rowW
  rw [KE h2.1]
  simp
 ·obtain ⟨v,kind,op,t,k,vv,x,yy,xs,tb,r⟩:=y
  obtain ⟨h1,h2,h3⟩:=hy
  simp only at h1 h2 h3
  subst h1;subst h2
  obtain ⟨p1,p2,p3,p4,p5,p6,_,p8,_⟩:=xA h3
  have e1:=p1 rfl;have e2:=p2 rfl;have e3:=p3 rfl;have e4:=p4 rfl;have e5:=p5 rfl;have e6:=p6 rfl;have e7:=p8 rfl
  simp only at e1 e2 e3 e4 e5 e6 e7
  subst e1 e2 e3 e4 e5 e6 e7
  obtain ⟨q1,q2⟩:=tb_iff.1 h3
  have hw':words s.1=(xs.map (nm V)++[[58]])++(r.flatMap rowW).tail:=by
   rw [hw]
   show xs.map (nm V)++r.flatMap rowW=_
   rw [KE q2.1]
   simp
  obtain ⟨a1,a2,a3⟩:=(Kl hV).2 s xs _ h0 hw' q1
  obtain ⟨c1,c2⟩:=(Ks q1.1).2 _ r a2 a3 q2
  unfold fTable
  simp only [a1,c1]
  exact ⟨trivial,c2⟩
theorem ct_iff {V:List Vr} {o k v:Int} {xs:List Int}:fault ⟨9,o,[],k,v,0,0,xs,[],[]⟩ (V.length:Int)=0↔(1<=o/\o<=3)/\numB k=true/\numB v=true/\1<=xs.length/\xs.length<=64/\∀ a∈xs,inV V a:=by
 rw [fault_iff]
 constructor
 ·rintro ⟨h1,_,_,h4,h5,_,h7⟩
  have h1':1<=o/\o<=3:=by
   simp only [kindBad,fOp,Bool.or_eq_false_iff,Bool.and_eq_false_iff,decide_eq_false_iff_not] at h1
   have:=h1.2.resolve_left (by decide)
   omega
  simp only [manyBad,Bool.or_eq_false_iff,Bool.and_eq_false_iff] at h4
  have h4':=zX (h4.1.1.1.2.resolve_left (by decide))
  simp only [placesB,Bool.and_eq_true] at h5
  simp only [numsB,Bool.and_eq_true] at h7
  exact ⟨h1',h7.1.1.1,h7.1.1.2,h4'.1,h4'.2,all_in.1 h5.2⟩
 ·rintro ⟨h1,h2,h2',h3,h4,h5⟩
  have h8:plB (V.length:Int) 0=true:=pl_in.2 (Zv h3 h5)
  refine ⟨?_,rfl,rfl,?_,?_,rfl,?_⟩
  ·unfold kindBad
   rw [decide_eq_false (by omega:¬ ((9:Int)<1∨9<(9:Int))),decide_eq_false (by omega:¬ (o<1∨3<o))]
   rfl
  ·unfold manyBad mostXs
   simp only [if_neg (by decide:¬ (9:Int)=8),xr ⟨h3,h4⟩]
   rfl
  ·unfold placesB
   simp only [h8,all_in.2 h5]
   rfl
  ·unfold numsB
   simp only [h2,h2']
   rfl
theorem y5h {V:List Vr} (hV:PV V):RdE (Yc V) (cnR V 9) (fun y=>conR V y.c):=by
 refine ⟨fun s h0=>?_,fun s y h0 hw hy=>?_⟩
 ·obtain ⟨h1,h2,h3⟩:=(YF hV).1 _ h0
  obtain ⟨h4,h5,h6⟩:=rd_number.1 _ h1
  obtain ⟨h7,h8,h9⟩:=rd_number.1 _ h4
  obtain ⟨h10,h11,h12⟩:=rd_op.1 _ h7
  exact ⟨h10,⟨rfl,rfl,ct_iff.2 ⟨h11,h8,h5,h2⟩⟩,by rw [h12,h9,h6,h3];rfl⟩
 ·obtain ⟨v,kind,op,t,k,vv,x,yy,xs,tb,r⟩:=y
  obtain ⟨h1,h2,h3⟩:=hy
  simp only at h1 h2 h3
  subst h1;subst h2
  obtain ⟨_,_,_,p4,p5,p6,_,p8,p9⟩:=xA h3
  have e1:=p4 rfl;have e2:=p5 rfl;have e3:=p6 rfl;have e4:=p8 rfl;have e5:=p9 rfl
  simp only at e1 e2 e3 e4 e5
  subst e1 e2 e3 e4 e5
  obtain ⟨q1,q2,q3,q4⟩:=ct_iff.1 h3
  obtain ⟨a1,a2,a3⟩:=rd_op.2 s op _ h0 hw q1
  obtain ⟨b1,b2,b3⟩:=rd_number.2 _ k _ a2 a3 q2
  obtain ⟨d1,d2,d3⟩:=rd_number.2 _ vv _ b2 b3 q3
  obtain ⟨c1,c2⟩:=(YF hV).2 _ xs d2 d3 q4
  unfold Yc
  simp only [a1,b1,d1,c1]
  exact ⟨trivial,c2⟩
theorem KG {V:List Vr} (hV:PV V) {k:Nat} (h1:1<=k) (h9:k<=9):RdE (zt V k) (cnR V (k:Int)) (fun y=>conR V y.c):=by
 rcases (by omega:k=1∨k=2∨k=3∨k=4∨k=5∨k=6∨k=7∨k=8∨k=9) with rfl | rfl | rfl | rfl | rfl | rfl | rfl | rfl | rfl
 ·exact y5b hV
 ·exact y5c hV
 ·exact y5d hV
 ·exact y5e hV
 ·exact KD hV 5 (.inl rfl)
 ·exact KD hV 6 (.inr rfl)
 ·exact y5f hV
 ·exact y5g hV
 ·exact y5h hV
end Go.Proofs.YthohnmplbjhjaaaGreatDoor
