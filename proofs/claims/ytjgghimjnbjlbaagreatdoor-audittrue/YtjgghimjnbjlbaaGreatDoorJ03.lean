/-
  Put together: MdMath, MdVMath, AuMath.
-/

namespace Md
structure Cn where
  kind:Int
  op:Int
  terms:List (Int × Int)
  k:Int
  v:Int
  x:Int
  y:Int
  xs:List Int
  table:List Int
  rows:List (List Int)
def numB (n:Int):Bool:=decide (-1000000000<=n/\n<=1000000000)
def plB (n x:Int):Bool:=decide (0<=x/\x<n)
def cfB (c:Int):Bool:=decide (c≠0/\-1000000<=c/\c<=1000000)
def fewB (n most:Nat):Bool:=decide (n<1∨most<n)
def fOp (k:Int):Bool:=k==1||k==9
def fTerms (k:Int):Bool:=k==1||k==7
def fK (k:Int):Bool:=k==1||k==2||k==7||k==9
def fV (k:Int):Bool:=k==9
def fX (k:Int):Bool:=k==2||k==4||k==7
def fY (k:Int):Bool:=k==2||k==4||k==5||k==6
def fXs (k:Int):Bool:=k==3||k==5||k==6||k==8||k==9
def fTable (k:Int):Bool:=k==4
def fRows (k:Int):Bool:=k==8
def kindBad (kind op:Int):Bool:=decide (kind<1∨9<kind)||(fOp kind&&decide (op<1∨3<op))
def plainBad (c:Cn):Bool:=
  (!fOp c.kind&&c.op != 0)||(!fK c.kind&&c.k != 0)||(!fV c.kind&&c.v != 0)||(!fX c.kind&&c.x != 0)||(!fY c.kind&&c.y != 0)
def listBad (c:Cn):Bool:=
  (!fTerms c.kind&&decide (0<c.terms.length))||(!fXs c.kind&&decide (0<c.xs.length))||(!fTable c.kind&&decide (0<c.table.length))||(!fRows c.kind&&decide (0<c.rows.length))
def mostXs (k:Int):Nat:=if k=8 then 8 else 64
def manyBad (c:Cn):Bool:=
  (fTerms c.kind&&fewB c.terms.length 64)||(fXs c.kind&&fewB c.xs.length (mostXs c.kind))||(fTable c.kind&&fewB c.table.length 64)||(fRows c.kind&&fewB c.rows.length 64)||!(c.rows.all fun r=>r.length==c.xs.length)
def placesB (c:Cn) (n:Int):Bool:=plB n c.x&&plB n c.y&&c.terms.all (fun t=>plB n t.2)&&c.xs.all (plB n)
def coefsB (t:List (Int × Int)):Bool:=t.all fun t=>cfB t.1
def numsB (c:Cn):Bool:=numB c.k&&numB c.v&&c.table.all numB&&c.rows.all (fun r=>r.all numB)
def fault (c:Cn) (n:Int):Int:=
  if kindBad c.kind c.op then 43 else if plainBad c||listBad c then 48 else if manyBad c then 47 else if !placesB c n then 44 else if !coefsB c.terms then 45 else if !numsB c then 46 else 0
def val (vs:List Int) (x:Int):Int:=vs.getD x.toNat 0
def sum (t:List (Int × Int)) (vs:List Int):Int:=t.foldl (fun n t=>n+t.1 * val vs t.2) 0
def cmpB (op a b:Int):Bool:=if op=1 then decide (a<=b) else if op=2 then decide (a=b) else decide (b<=a)
def diffB (l:List Int):Bool:=decide (l.Pairwise (·≠·))
def linB (c:Cn) (vs:List Int):Bool:=cmpB c.op (sum c.terms vs) c.k
def neB (c:Cn) (vs:List Int):Bool:=decide (val vs c.x≠val vs c.y+c.k)
def adB (c:Cn) (vs:List Int):Bool:=diffB (c.xs.map (val vs))
def elB (c:Cn) (vs:List Int):Bool:=decide (0<=val vs c.x/\val vs c.x<c.table.length/\val vs c.y=c.table.getD (val vs c.x).toNat 0)
def mxB (c:Cn) (vs:List Int):Bool:=c.xs.all (fun x=>decide (val vs x<=val vs c.y))&&c.xs.any (fun x=>decide (val vs x=val vs c.y))
def mnB (c:Cn) (vs:List Int):Bool:=c.xs.all (fun x=>decide (val vs c.y<=val vs x))&&c.xs.any (fun x=>decide (val vs x=val vs c.y))
def rfB (c:Cn) (vs:List Int):Bool:=if sum c.terms vs<=c.k then decide (val vs c.x=1) else decide (val vs c.x=0)
def tbB (c:Cn) (vs:List Int):Bool:=c.rows.any fun r=>decide (c.xs.map (val vs)=r)
def ctB (c:Cn) (vs:List Int):Bool:=cmpB c.op ((c.xs.countP fun x=>decide (val vs x=c.v):Nat):Int) c.k
def hold (c:Cn) (vs:List Int):Bool:=
  if c.kind=1 then linB c vs else if c.kind=2 then neB c vs else if c.kind=3 then adB c vs else if c.kind=4 then elB c vs else if c.kind=5 then mxB c vs else if c.kind=6 then mnB c vs
  else if c.kind=7 then rfB c vs else if c.kind=8 then tbB c vs else ctB c vs
def holds (c:Cn) (vs:List Int):Bool:=decide (fault c vs.length=0)&&vs.all numB&&hold c vs
structure Fit (c:Cn) (n:Nat):Prop where
  kind:1<=c.kind/\c.kind<=9
  op:fOp c.kind=true->1<=c.op/\c.op<=3
  x:0<=c.x/\c.x<n
  y:0<=c.y/\c.y<n
  tx:∀ t∈c.terms,0<=t.2/\t.2<n
  xs:∀ x∈c.xs,0<=x/\x<n
  tc:∀ t∈c.terms,-1000000<=t.1/\t.1<=1000000
  tl:c.terms.length<=64
  xl:c.xs.length<=64
  xp:fXs c.kind=true->0<c.xs.length
  bl:c.table.length<=64
  rl:c.rows.length<=64
  rr:∀ r∈c.rows,r.length=c.xs.length
  k:-1000000000<=c.k/\c.k<=1000000000
  v:-1000000000<=c.v/\c.v<=1000000000
theorem fit_of {c:Cn} {n:Nat} (h:fault c n=0):Fit c n:=by
  unfold fault at h
  split at h
  · cases h
  rename_i h1
  split at h
  · cases h
  rename_i h2
  split at h
  · cases h
  rename_i h3
  split at h
  · cases h
  rename_i h4
  split at h
  · cases h
  rename_i h5
  split at h
  · cases h
  rename_i h6
  clear h;simp only [kindBad,Bool.or_eq_true,Bool.and_eq_true,decide_eq_true_eq,not_or,not_and] at h1;simp only [listBad,plainBad,Bool.or_eq_true,Bool.and_eq_true,Bool.not_eq_true',decide_eq_true_eq,not_or,not_and] at h2;simp only [manyBad,Bool.or_eq_true,Bool.and_eq_true,fewB,decide_eq_true_eq,not_or,not_and,Bool.not_eq_true',Bool.not_eq_false,List.all_eq_true,beq_iff_eq] at h3;simp only [placesB,plB,Bool.and_eq_true,decide_eq_true_eq,List.all_eq_true,Bool.not_eq_true',Bool.not_eq_false] at h4;simp only [coefsB,cfB,decide_eq_true_eq,List.all_eq_true,Bool.not_eq_true',Bool.not_eq_false] at h5;simp only [numsB,numB,Bool.and_eq_true,decide_eq_true_eq,List.all_eq_true,Bool.not_eq_true',Bool.not_eq_false] at h6;obtain ⟨⟨⟨m1,m2⟩,m3⟩,m4⟩:=h3.1;obtain ⟨⟨⟨l1,l2⟩,l3⟩,l4⟩:=h2.2
  refine ⟨by omega,fun ho=>by have:=h1.2 ho;omega,h4.1.1.1,h4.1.1.2,h4.1.2,h4.2,fun t ht=>(h5 t ht).2,?_,?_,?_,?_,?_,h3.2,h6.1.1.1,h6.1.1.2⟩
  · cases hf:fTerms c.kind
    · have:=l1 hf;omega
    · have:=m1 hf;omega
  · cases hf:fXs c.kind
    · have:=l2 hf;omega
    · have h:=m2 hf
      unfold mostXs at h
      split at h <;> omega
  · intro hf
    have:=m2 hf;omega
  · cases hf:fTable c.kind
    · have:=l3 hf;omega
    · have:=m3 hf;omega
  · cases hf:fRows c.kind
    · have:=l4 hf;omega
    · have:=m4 hf;omega
theorem all_next {α:Type} {p:α->Bool} {l:List α} {k:Nat} (h:(l.take k).all p=true) (hk:k<l.length) (hp:p l[k]=true):(l.take (k+1)).all p=true:=by
  rw [List.take_succ_eq_append_getElem hk,List.all_append,h];simp [hp]
theorem all_stop {α:Type} {p:α->Bool} {l:List α} {k:Nat} (hk:k<l.length) (hp:p l[k]=false):l.all p=false:=by
  rw [List.all_eq_false];exact ⟨l[k],List.getElem_mem hk,by simp [hp]⟩
theorem all_done {α:Type} {p:α->Bool} {l:List α} {k:Nat} (h:(l.take k).all p=true) (hk:l.length<=k):l.all p=true:=by
  rwa [List.take_of_length_le hk] at h
theorem any_next {α:Type} {p:α->Bool} {l:List α} {k:Nat} (hk:k<l.length):(l.take (k+1)).any p=((l.take k).any p||p l[k]):=by
  rw [List.take_succ_eq_append_getElem hk,List.any_append];simp
theorem any_stop {α:Type} {p:α->Bool} {l:List α} {k:Nat} (hk:k<l.length) (hp:p l[k]=true):l.any p=true:=by
  rw [List.any_eq_true];exact ⟨l[k],List.getElem_mem hk,hp⟩
theorem any_done {α:Type} {p:α->Bool} {l:List α} {k:Nat} {b:Bool} (h:(l.take k).any p=b) (hk:l.length<=k):l.any p=b:=by
  rwa [List.take_of_length_le hk] at h
theorem countP_next {α:Type} {p:α->Bool} {l:List α} {k:Nat} (hk:k<l.length):(l.take (k+1)).countP p=(l.take k).countP p+if p l[k]=true then 1 else 0:=by
  rw [List.take_succ_eq_append_getElem hk,List.countP_append];simp [List.countP_cons]
theorem countP_le_take {α:Type} (p:α->Bool) (l:List α) (k:Nat):(l.take k).countP p<=k:=Nat.le_trans List.countP_le_length (List.length_take_le _ _)
theorem val_mem {vs:List Int} (h:vs.all numB=true) (x:Int):-1000000000<=val vs x/\val vs x<=1000000000:=by
  unfold val
  by_cases hx:x.toNat<vs.length
  · rw [List.getD_eq_getElem?_getD,List.getElem?_eq_getElem hx]
    have:=List.all_eq_true.1 h _ (List.getElem_mem hx);simpa [numB] using this
  · rw [List.getD_eq_getElem?_getD,List.getElem?_eq_none (by omega)]
    simp
theorem val_get {vs:List Int} {m:Nat} (h:m<vs.length):val vs (m:Int)=vs[m]:=by
  unfold val;rw [List.getD_eq_getElem?_getD,Int.toNat_natCast,List.getElem?_eq_getElem h];rfl
theorem sum_next {t:List (Int × Int)} {vs:List Int} {k:Nat} (hk:k<t.length):sum (t.take (k+1)) vs=sum (t.take k) vs+t[k].1 * val vs t[k].2:=by
  rw [List.take_succ_eq_append_getElem hk];unfold sum;rw [List.foldl_append];rfl
theorem mul_bd {c v:Int} (h1:-1000000<=c) (h2:c<=1000000) (h3:-1000000000<=v) (h4:v<=1000000000):-1000000000000000<=c * v/\c * v<=1000000000000000:=by
  have e:(c * v).natAbs<=1000000 * 1000000000:=by
    rw [Int.natAbs_mul];exact Nat.mul_le_mul (by omega) (by omega)
  omega
theorem sum_bd {t:List (Int × Int)} {vs:List Int} (hv:vs.all numB=true) (ht:∀ x∈t,-1000000<=x.1/\x.1<=1000000) (k:Nat) (hk:k<=t.length):-(1000000000000000 * (k:Int))<=sum (t.take k) vs/\sum (t.take k) vs<=1000000000000000 * (k:Int):=by
  induction k with
  | zero=>simp [sum]
  | succ k ih =>
    have hlt:k<t.length:=by omega
    have hm:=mul_bd (ht _ (List.getElem_mem hlt)).1 (ht _ (List.getElem_mem hlt)).2 (val_mem hv t[k].2).1 (val_mem hv t[k].2).2;have:=ih (by omega);rw [sum_next hlt];omega
theorem diff_stop {l:List Int} {i j:Nat} (hi:i<l.length) (hj:j<i) (h:l[j]=l[i]):diffB l=false:=by
  unfold diffB;rw [decide_eq_false_iff_not,List.pairwise_iff_getElem];exact fun hp=>hp j i (by omega) hi hj h
theorem diff_done {l:List Int} (h:∀ i (hi:i<l.length),∀ j (hj:j<i),l[j]≠l[i]):diffB l=true:=by
  unfold diffB;rw [decide_eq_true_eq,List.pairwise_iff_getElem];exact fun j i _ hi hj=>h i hi j hj
theorem mx_is {c:Cn} {vs:List Int} {g:Int} (h1:∀ x∈c.xs,val vs x<=g) (h2:∃ x∈c.xs,val vs x=g):mxB c vs=decide (val vs c.y=g):=by
  unfold mxB;rw [Bool.eq_iff_iff,Bool.and_eq_true,List.all_eq_true,List.any_eq_true];simp only [decide_eq_true_eq];obtain ⟨x0,hx0,e0⟩:=h2
  constructor
  · rintro ⟨ha,x,hx,hy⟩
    have:=ha x0 hx0;have:=h1 x hx;omega
  · intro h
    exact ⟨fun x hx=>by have:=h1 x hx;omega,x0,hx0,by omega⟩
theorem mn_is {c:Cn} {vs:List Int} {g:Int} (h1:∀ x∈c.xs,g<=val vs x) (h2:∃ x∈c.xs,val vs x=g):mnB c vs=decide (val vs c.y=g):=by
  unfold mnB;rw [Bool.eq_iff_iff,Bool.and_eq_true,List.all_eq_true,List.any_eq_true];simp only [decide_eq_true_eq];obtain ⟨x0,hx0,e0⟩:=h2
  constructor
  · rintro ⟨ha,x,hx,hy⟩
    have:=ha x0 hx0;have:=h1 x hx;omega
  · intro h
    exact ⟨fun x hx=>by have:=h1 x hx;omega,x0,hx0,by omega⟩
end Md

namespace Md
def ltrI (n:Int):Bool:=decide ((97<=n/\n<=122)∨(65<=n/\n<=90)∨n=95)
def digI (n:Int):Bool:=decide (48<=n/\n<=57)
def byteI (c:UInt8):Int:=(c.toNat:Int)
def wordB (c:UInt8):Bool:=ltrI (byteI c)||digI (byteI c)
def nameB (s:List UInt8):Bool:=decide (1<=s.length/\s.length<=16)&&!digI (byteI (s.headD 0))&&s.all wordB
structure Vr where
  name:ByteArray
  lo:Int
  hi:Int
structure Mo where
  vars:List Vr
  cons:List Cn
  has:Bool
  goal:List (Int × Int)
def boundsB (lo hi:Int):Bool:=numB lo&&numB hi&&decide (lo<=hi/\hi-lo<64)
def seenB (ahead:List Vr) (s:ByteArray):Bool:=ahead.any fun v=>v.name.toList==s.toList
def varFault (v:Vr) (ahead:List Vr):Int:=if !nameB v.name.data.toList||seenB ahead v.name then 41 else if !boundsB v.lo v.hi then 42 else 0
def vFault (l:List Vr) (i:Nat):Int:=match l[i]? with | some v=>varFault v (l.take i) | none=>0
def cFault (l:List Cn) (n:Int) (i:Nat):Int:=match l[i]? with | some c=>fault c n | none=>0
def goalFault (m:Mo):Int:=
  if m.has=false then (if 0<m.goal.length then 48 else 0) else if fewB m.goal.length 64 then 47 else if !(m.goal.all fun t=>plB m.vars.length t.2) then 44 else if !coefsB m.goal then 45 else 0
def firstBad (n:Nat) (f:Nat->Int):Option Nat:=(List.range n).find? fun i=>f i != 0
def check (m:Mo):Int × Int:=
  if fewB m.vars.length 32 then (0,40) else
  match firstBad m.vars.length (vFault m.vars) with
  | some i=>((i:Int),vFault m.vars i)
  | none =>
    if 64<m.cons.length then ((m.vars.length:Int),49) else
    match firstBad m.cons.length (cFault m.cons m.vars.length) with
    | some i=>((m.vars.length:Int)+(i:Int),cFault m.cons m.vars.length i)
    | none=>if goalFault m=0 then (0,0) else ((m.vars.length:Int)+(m.cons.length:Int),goalFault m)
theorem firstBad_some {n:Nat} {f:Nat->Int} {i:Nat} (hi:i<n) (hb:f i≠0) (h:∀ j,j<i->f j=0):firstBad n f=some i:=by
  unfold firstBad;rw [List.find?_range_eq_some];exact ⟨by simpa using hb,by simpa using hi,fun j hj=>by simpa using h j hj⟩
theorem firstBad_none {n:Nat} {f:Nat->Int} (h:∀ j,j<n->f j=0):firstBad n f=none:=by
  unfold firstBad;rw [List.find?_eq_none];intro j hj;simpa using h j (by simpa using hj)
theorem firstBad_none_iff {n:Nat} {f:Nat->Int}:firstBad n f=none->∀ j,j<n->f j=0:=by
  unfold firstBad;rw [List.find?_eq_none];intro h j hj;simpa using h j (by simpa using hj)
theorem vFault_get {l:List Vr} {i:Nat} (h:i<l.length):vFault l i=varFault l[i] (l.take i):=by unfold vFault;rw [List.getElem?_eq_getElem h]
theorem cFault_get {l:List Cn} {n:Int} {i:Nat} (h:i<l.length):cFault l n i=fault l[i] n:=by unfold cFault;rw [List.getElem?_eq_getElem h]
structure Right (m:Mo):Prop where
  nv:1<=m.vars.length/\m.vars.length<=32
  var:∀ v∈m.vars,nameB v.name.data.toList=true/\boundsB v.lo v.hi=true
  nc:m.cons.length<=64
  con:∀ c∈m.cons,fault c m.vars.length=0
  goal:goalFault m=0
theorem right_of {m:Mo} (h:(check m).2=0):Right m:=by
  unfold check at h
  split at h
  · cases h
  rename_i h1
  have h1':¬ (m.vars.length<1∨32<m.vars.length):=by simpa [fewB] using h1
  split at h
  · rename_i i hi
    unfold firstBad at hi;have:=List.find?_some hi;simp at this;exact absurd h this
  rename_i h2
  split at h
  · cases h
  rename_i h3
  split at h
  · rename_i i hi
    unfold firstBad at hi;have:=List.find?_some hi;simp at this;exact absurd h this
  rename_i h4
  have h5:goalFault m=0:=by
    split at h
    · assumption
    · exact h
  refine ⟨by omega,fun v hv=>?_,by omega,fun c hc=>?_,h5⟩
  · obtain ⟨i,hi,rfl⟩:=List.getElem_of_mem hv
    have:=firstBad_none_iff h2 i hi;rw [vFault_get hi] at this;unfold varFault at this
    split at this
    · cases this
    rename_i a
    split at this
    · cases this
    rename_i b
    simp at a b;exact ⟨a.1,b⟩
  · obtain ⟨i,hi,rfl⟩:=List.getElem_of_mem hc
    have:=firstBad_none_iff h4 i hi
    rwa [cFault_get hi] at this
theorem bounds_of {lo hi:Int} (h:boundsB lo hi=true):(-1000000000<=lo/\lo<=1000000000)/\(-1000000000<=hi/\hi<=1000000000)/\lo<=hi/\hi-lo<64:=by
  simp [boundsB,numB] at h;omega
theorem goal_of {m:Mo} (h:goalFault m=0):(m.has=false->m.goal=[])/\m.goal.length<=64/\(∀ t∈m.goal,0<=t.2/\t.2<m.vars.length)/\∀ t∈m.goal,t.1≠0/\-1000000<=t.1/\t.1<=1000000:=by
  unfold goalFault at h
  split at h
  · split at h
    · cases h
    · rename_i h1 h2
      have:m.goal=[]:=List.length_eq_zero_iff.1 (by omega);rw [this];simp
  rename_i h0
  split at h
  · cases h
  rename_i h1
  split at h
  · cases h
  rename_i h2
  split at h
  · cases h
  rename_i h3
  simp only [fewB,decide_eq_true_eq] at h1;simp only [plB,Bool.not_eq_true',Bool.not_eq_false,List.all_eq_true,decide_eq_true_eq] at h2;simp only [coefsB,cfB,Bool.not_eq_true',Bool.not_eq_false,List.all_eq_true,decide_eq_true_eq] at h3;exact ⟨fun h=>absurd h h0,by omega,h2,h3⟩
def prod:List Vr->Int->Int->Option Int
  | [],_,n=>some n
  | v :: l,most,n=>if most.tdiv (v.hi-v.lo+1)<n then none else prod l most (n * (v.hi-v.lo+1))
def product (m:Mo) (most:Int):Int × Bool:=
  if (check m).2=0 then (match prod m.vars most 1 with | some n=>(n,true) | none=>(0,false)) else (0,false)
def insideB:List Vr->List Int->Bool
  | [],[]=>true
  | v :: l,x :: xs=>decide (v.lo<=x/\x<=v.hi)&&insideB l xs
  | _,_=>false
def solution (m:Mo) (vs:List Int):Bool:=decide ((check m).2=0)&&insideB m.vars vs&&m.cons.all fun c=>hold c vs
def worth (m:Mo) (vs:List Int):Int:=if (check m).2=0/\vs.length=m.vars.length/\vs.all numB=true then sum m.goal vs else 0
end Md

namespace Go.Proofs.YtjgghimjnbjlbaaGreatDoor
def losL (vs:List Md.Vr):List Int:=vs.map (·.lo)
def hiAt (vs:List Md.Vr) (k:Nat):Int:=(vs[k]?.map (·.hi)).getD 0
def advT (vs:List Md.Vr) (x:List Int):Nat->Option (List Int)
  | 0=>none
  | k+1=>if x.getD k 0<hiAt vs k then some (x.take k++(x.getD k 0+1) :: (losL vs).drop (k+1)) else advT vs x k
def advL (vs:List Md.Vr) (x:List Int):Option (List Int):=advT vs x vs.length
def blkL (r:List (List Int)) (a:Int):Nat->List (List Int)
  | 0=>[]
  | n+1=>r.map (a :: ·)++blkL r (a+1) n
def allV:List Md.Vr->List (List Int)
  | []=>[[]]
  | v :: vs=>blkL (allV vs) v.lo (v.hi-v.lo+1).toNat
theorem XX (v:Md.Vr) (vs:List Md.Vr) (a:Int) (x:List Int):∀ k,k<=vs.length->advT (v :: vs) (a :: x) (k+1)=(match advT vs x k with | some x'=>some (a :: x') | none=>if a<v.hi then some ((a+1) :: losL vs) else none)
  | 0, _ => by
    show (if a<v.hi then some ([]++(a+1) :: (losL (v :: vs)).drop 1) else none)=_;rfl
  | k + 1, h => by
    have ih:=XX v vs a x k (by omega);show (if x.getD k 0<hiAt vs k then some ((a :: x).take (k+1)++(x.getD k 0+1) :: (losL (v :: vs)).drop (k+2)) else advT (v :: vs) (a :: x) (k+1))=_;rw [ih];show _=(match (if x.getD k 0<hiAt vs k then some (x.take k++(x.getD k 0+1) :: (losL vs).drop (k+1)) else advT vs x k) with | some x'=>some (a :: x') | none=>if a<v.hi then some ((a+1) :: losL vs) else none)
    split
    · rfl
    · rfl
theorem XY (v:Md.Vr) (vs:List Md.Vr) (a:Int) (x:List Int):advL (v :: vs) (a :: x)=(match advL vs x with | some x'=>some (a :: x') | none=>if a<v.hi then some ((a+1) :: losL vs) else none):=
  XX v vs a x vs.length (Nat.le_refl _)
theorem y1F (vs:List Md.Vr) (h:∀ v∈vs,v.lo<=v.hi):(allV vs)[0]?=some (losL vs)/\∀ i x,(allV vs)[i]?=some x->advL vs x=(allV vs)[i+1]?:=by
  induction vs with
  | nil =>
    refine ⟨rfl,fun i x hx=>?_⟩
    match i,hx with
    | 0,_=>rfl
    | i+1,hx=>simp [allV] at hx
  | cons v vs ih =>
    obtain ⟨ih0,ih1⟩:=ih fun u hu=>h u (List.mem_cons_of_mem _ hu)
    have hv:=h v (by simp);have hpos:0<(allV vs).length:=by
      rcases Nat.eq_zero_or_pos (allV vs).length with e | e
      · rw [List.length_eq_zero_iff.1 e] at ih0;simp at ih0
      · exact e
    have key:∀ (n:Nat) (a:Int),a+(n:Int)=v.hi+1->(0<n->(blkL (allV vs) a n)[0]?=some (a :: losL vs))/\∀ i x,(blkL (allV vs) a n)[i]?=some x->advL (v :: vs) x=(blkL (allV vs) a n)[i+1]?:=by
      intro n
      induction n with
      | zero =>
        intro a _;exact ⟨fun h0=>absurd h0 (Nat.lt_irrefl _),fun i x hx=>by simp [blkL] at hx⟩
      | succ n ihn =>
        intro a ha;obtain ⟨h0,h1⟩:=ihn (a+1) (by omega);have e:blkL (allV vs) a (n+1)=(allV vs).map (a :: ·)++blkL (allV vs) (a+1) n:=rfl;have first:(blkL (allV vs) a (n+1))[0]?=some (a :: losL vs):=by
          rw [e,List.getElem?_append_left (by rw [List.length_map];exact hpos),List.getElem?_map,ih0];rfl
        refine ⟨fun _=>first,fun i x hx=>?_⟩;rw [e] at hx ⊢
        by_cases hi:i<(allV vs).length
        · rw [List.getElem?_append_left (by rw [List.length_map];exact hi),List.getElem?_map] at hx
          obtain ⟨y,hy,rfl⟩:=Option.map_eq_some_iff.1 hx;have hn:=ih1 i y hy;rw [XY,hn]
          by_cases hi1:i+1<(allV vs).length
          · rw [List.getElem?_append_left (by rw [List.length_map];exact hi1),List.getElem?_map,List.getElem?_eq_getElem hi1]
            rfl
          · rw [List.getElem?_eq_none (by omega),List.getElem?_append_right (by rw [List.length_map];omega),List.length_map,show i+1-(allV vs).length=0 from by omega]
            rcases Nat.eq_zero_or_pos n with hn0 | hn0
            · subst hn0
              show (if a<v.hi then _ else none)=_;rw [if_neg (by omega)];rfl
            · rw [h0 hn0]
              show (if a<v.hi then _ else none)=_;rw [if_pos (by omega)]
        · rw [List.getElem?_append_right (by rw [List.length_map];omega),List.length_map] at hx
          rw [h1 _ x hx,List.getElem?_append_right (by rw [List.length_map];omega),List.length_map,show i+1-(allV vs).length=i-(allV vs).length+1 from by omega]
    have hk:=key (v.hi-v.lo+1).toNat v.lo (by omega);exact ⟨hk.1 (by omega),hk.2⟩
theorem Zk (vs:List Md.Vr):∀ x∈allV vs,x.length=vs.length:=by
  induction vs with
  | nil=>intro x hx;simp [allV] at hx;subst hx;rfl
  | cons v vs ih =>
    have key:∀ (n:Nat) (a:Int),∀ x∈blkL (allV vs) a n,x.length=vs.length+1:=by
      intro n
      induction n with
      | zero=>intro a x hx;simp [blkL] at hx
      | succ n ihn =>
        intro a x hx;rcases List.mem_append.1 hx with hx | hx
        · obtain ⟨y,hy,rfl⟩:=List.mem_map.1 hx
          rw [List.length_cons,ih y hy]
        · exact ihn _ x hx
    exact key _ _
end Go.Proofs.YtjgghimjnbjlbaaGreatDoor
