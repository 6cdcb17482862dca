/-
  Put together: MdMath, MdVMath.
-/

namespace Md
structure Cn where
 kind:Int
 op:Int
 terms:List (Int × Int)
 k:Int
 v:Int
 x:Int
 y:Int
 xs:List Int
 table:List Int
 rows:List (List Int)
def numB (n:Int):Bool:=decide (-1000000000<=n/\n<=1000000000)
def plB (n x:Int):Bool:=decide (0<=x/\x<n)
def cfB (c:Int):Bool:=decide (c≠0/\-1000000<=c/\c<=1000000)
def fewB (n most:Nat):Bool:=decide (n<1∨most<n)
def fOp (k:Int):Bool:=k==1||k==9
def fTerms (k:Int):Bool:=k==1||k==7
def fK (k:Int):Bool:=k==1||k==2||k==7||k==9
def fV (k:Int):Bool:=k==9
def fX (k:Int):Bool:=k==2||k==4||k==7
def fY (k:Int):Bool:=k==2||k==4||k==5||k==6
def fXs (k:Int):Bool:=k==3||k==5||k==6||k==8||k==9
def fTable (k:Int):Bool:=k==4
def fRows (k:Int):Bool:=k==8
def kindBad (kind op:Int):Bool:=decide (kind<1∨9<kind)||(fOp kind&&decide (op<1∨3<op))
def plainBad (c:Cn):Bool:=
 (!fOp c.kind&&c.op != 0)||(!fK c.kind&&c.k != 0)||(!fV c.kind&&c.v != 0)||(!fX c.kind&&c.x != 0)||(!fY c.kind&&c.y != 0)
def listBad (c:Cn):Bool:=
 (!fTerms c.kind&&decide (0<c.terms.length))||(!fXs c.kind&&decide (0<c.xs.length))||(!fTable c.kind&&decide (0<c.table.length))||(!fRows c.kind&&decide (0<c.rows.length))
def mostXs (k:Int):Nat:=if k=8 then 8 else 64
def manyBad (c:Cn):Bool:=
 (fTerms c.kind&&fewB c.terms.length 64)||(fXs c.kind&&fewB c.xs.length (mostXs c.kind))||(fTable c.kind&&fewB c.table.length 64)||(fRows c.kind&&fewB c.rows.length 64)||!(c.rows.all fun r=>r.length==c.xs.length)
def placesB (c:Cn) (n:Int):Bool:=plB n c.x&&plB n c.y&&c.terms.all (fun t=>plB n t.2)&&c.xs.all (plB n)
def coefsB (t:List (Int × Int)):Bool:=t.all fun t=>cfB t.1
def numsB (c:Cn):Bool:=numB c.k&&numB c.v&&c.table.all numB&&c.rows.all (fun r=>r.all numB)
def fault (c:Cn) (n:Int):Int:=
 if kindBad c.kind c.op then 43 else if plainBad c||listBad c then 48 else if manyBad c then 47 else if !placesB c n then 44 else if !coefsB c.terms then 45 else if !numsB c then 46 else 0
structure Fit (c:Cn) (n:Nat):Prop where
 kind:1<=c.kind/\c.kind<=9
 op:fOp c.kind=true->1<=c.op/\c.op<=3
 x:0<=c.x/\c.x<n
 y:0<=c.y/\c.y<n
 tx:∀ t∈c.terms,0<=t.2/\t.2<n
 xs:∀ x∈c.xs,0<=x/\x<n
 tc:∀ t∈c.terms,-1000000<=t.1/\t.1<=1000000
 tl:c.terms.length<=64
 xl:c.xs.length<=64
 xp:fXs c.kind=true->0<c.xs.length
 bl:c.table.length<=64
 rl:c.rows.length<=64
 rr:∀ r∈c.rows,r.length=c.xs.length
 k:-1000000000<=c.k/\c.k<=1000000000
 v:-1000000000<=c.v/\c.v<=1000000000
theorem fit_of {c:Cn} {n:Nat} (h:fault c n=0):Fit c n:=by
 unfold fault at h
 split at h
 ·cases h
 rename_i h1
 split at h
 ·cases h
 rename_i h2
 split at h
 ·cases h
 rename_i h3
 split at h
 ·cases h
 rename_i h4
 split at h
 ·cases h
 rename_i h5
 split at h
 ·cases h
 rename_i h6
 clear h
 simp only [kindBad,Bool.or_eq_true,Bool.and_eq_true,decide_eq_true_eq,not_or,not_and] at h1
 simp only [listBad,plainBad,Bool.or_eq_true,Bool.and_eq_true,Bool.not_eq_true',decide_eq_true_eq,not_or,not_and] at h2
 simp only [manyBad,Bool.or_eq_true,Bool.and_eq_true,fewB,decide_eq_true_eq,not_or,not_and,Bool.not_eq_true',Bool.not_eq_false,List.all_eq_true,beq_iff_eq] at h3
 simp only [placesB,plB,Bool.and_eq_true,decide_eq_true_eq,List.all_eq_true,Bool.not_eq_true',Bool.not_eq_false] at h4
 simp only [coefsB,cfB,decide_eq_true_eq,List.all_eq_true,Bool.not_eq_true',Bool.not_eq_false] at h5
 simp only [numsB,numB,Bool.and_eq_true,decide_eq_true_eq,List.all_eq_true,Bool.not_eq_true',Bool.not_eq_false] at h6
 obtain ⟨⟨⟨m1,m2⟩,m3⟩,m4⟩:=h3.1
 obtain ⟨⟨⟨l1,l2⟩,l3⟩,l4⟩:=h2.2
 refine ⟨by omega,fun ho=>by have:=h1.2 ho;omega,h4.1.1.1,h4.1.1.2,h4.1.2,h4.2,fun t ht=>(h5 t ht).2,?_,?_,?_,?_,?_,h3.2,h6.1.1.1,h6.1.1.2⟩
 ·cases hf:fTerms c.kind
  ·have:=l1 hf;omega
  ·have:=m1 hf;omega
 ·cases hf:fXs c.kind
  ·have:=l2 hf;omega
  ·have h:=m2 hf
   unfold mostXs at h
   split at h <;> omega
 ·intro hf
  have:=m2 hf;omega
 ·cases hf:fTable c.kind
  ·have:=l3 hf;omega
  ·have:=m3 hf;omega
 ·cases hf:fRows c.kind
  ·have:=l4 hf;omega
  ·have:=m4 hf;omega
theorem all_next {α:Type} {p:α->Bool} {l:List α} {k:Nat} (h:(l.take k).all p=true) (hk:k<l.length) (hp:p l[k]=true):(l.take (k+1)).all p=true:=by
 rw [List.take_succ_eq_append_getElem hk,List.all_append,h];simp [hp]
theorem all_stop {α:Type} {p:α->Bool} {l:List α} {k:Nat} (hk:k<l.length) (hp:p l[k]=false):l.all p=false:=by
 rw [List.all_eq_false];exact ⟨l[k],List.getElem_mem hk,by simp [hp]⟩
theorem all_done {α:Type} {p:α->Bool} {l:List α} {k:Nat} (h:(l.take k).all p=true) (hk:l.length<=k):l.all p=true:=by
 rwa [List.take_of_length_le hk] at h
theorem any_next {α:Type} {p:α->Bool} {l:List α} {k:Nat} (hk:k<l.length):(l.take (k+1)).any p=((l.take k).any p||p l[k]):=by
 rw [List.take_succ_eq_append_getElem hk,List.any_append];simp
theorem any_stop {α:Type} {p:α->Bool} {l:List α} {k:Nat} (hk:k<l.length) (hp:p l[k]=true):l.any p=true:=by
 rw [List.any_eq_true];exact ⟨l[k],List.getElem_mem hk,hp⟩
theorem any_done {α:Type} {p:α->Bool} {l:List α} {k:Nat} {b:Bool} (h:(l.take k).any p=b) (hk:l.length<=k):l.any p=b:=by
 rwa [List.take_of_length_le hk] at h
end Md

namespace Md
def ltrI (n:Int):Bool:=decide ((97<=n/\n<=122)∨(65<=n/\n<=90)∨n=95)
def digI (n:Int):Bool:=decide (48<=n/\n<=57)
def byteI (c:UInt8):Int:=(c.toNat:Int)
def wordB (c:UInt8):Bool:=ltrI (byteI c)||digI (byteI c)
def nameB (s:List UInt8):Bool:=decide (1<=s.length/\s.length<=16)&&!digI (byteI (s.headD 0))&&s.all wordB
structure Vr where
 name:ByteArray
 lo:Int
 hi:Int
structure Mo where
 vars:List Vr
 cons:List Cn
 has:Bool
 goal:List (Int × Int)
def boundsB (lo hi:Int):Bool:=numB lo&&numB hi&&decide (lo<=hi/\hi-lo<64)
def seenB (ahead:List Vr) (s:ByteArray):Bool:=ahead.any fun v=>v.name.toList==s.toList
def varFault (v:Vr) (ahead:List Vr):Int:=if !nameB v.name.data.toList||seenB ahead v.name then 41 else if !boundsB v.lo v.hi then 42 else 0
def vFault (l:List Vr) (i:Nat):Int:=match l[i]? with | some v=>varFault v (l.take i) | none=>0
def cFault (l:List Cn) (n:Int) (i:Nat):Int:=match l[i]? with | some c=>fault c n | none=>0
def goalFault (m:Mo):Int:=
 if m.has=false then (if 0<m.goal.length then 48 else 0) else if fewB m.goal.length 64 then 47 else if !(m.goal.all fun t=>plB m.vars.length t.2) then 44 else if !coefsB m.goal then 45 else 0
def xk (n:Nat) (f:Nat->Int):Option Nat:=(List.range n).find? fun i=>f i != 0
def check (m:Mo):Int × Int:=
  if fewB m.vars.length 32 then (0,40) else
  match xk m.vars.length (vFault m.vars) with
  | some i=>((i:Int),vFault m.vars i)
  | none =>
    if 64<m.cons.length then ((m.vars.length:Int),49) else
    match xk m.cons.length (cFault m.cons m.vars.length) with
    | some i=>((m.vars.length:Int)+(i:Int),cFault m.cons m.vars.length i)
    | none=>if goalFault m=0 then (0,0) else ((m.vars.length:Int)+(m.cons.length:Int),goalFault m)
theorem firstBad_some {n:Nat} {f:Nat->Int} {i:Nat} (hi:i<n) (hb:f i≠0) (h:∀ j,j<i->f j=0):xk n f=some i:=by
 unfold xk
 rw [List.find?_range_eq_some]
 exact ⟨by simpa using hb,by simpa using hi,fun j hj=>by simpa using h j hj⟩
theorem firstBad_none {n:Nat} {f:Nat->Int} (h:∀ j,j<n->f j=0):xk n f=none:=by
 unfold xk
 rw [List.find?_eq_none]
 intro j hj
 simpa using h j (by simpa using hj)
theorem ZY {n:Nat} {f:Nat->Int}:xk n f=none->∀ j,j<n->f j=0:=by
 unfold xk
 rw [List.find?_eq_none]
 intro h j hj
 simpa using h j (by simpa using hj)
theorem vFault_get {l:List Vr} {i:Nat} (h:i<l.length):vFault l i=varFault l[i] (l.take i):=by unfold vFault;rw [List.getElem?_eq_getElem h]
theorem cFault_get {l:List Cn} {n:Int} {i:Nat} (h:i<l.length):cFault l n i=fault l[i] n:=by unfold cFault;rw [List.getElem?_eq_getElem h]
structure Right (m:Mo):Prop where
 nv:1<=m.vars.length/\m.vars.length<=32
 var:∀ v∈m.vars,nameB v.name.data.toList=true/\boundsB v.lo v.hi=true
 nc:m.cons.length<=64
 con:∀ c∈m.cons,fault c m.vars.length=0
 goal:goalFault m=0
theorem right_of {m:Mo} (h:(check m).2=0):Right m:=by
 unfold check at h
 split at h
 ·cases h
 rename_i h1
 have h1':¬ (m.vars.length<1∨32<m.vars.length):=by simpa [fewB] using h1
 split at h
 ·rename_i i hi
  unfold xk at hi
  have:=List.find?_some hi
  simp at this
  exact absurd h this
 rename_i h2
 split at h
 ·cases h
 rename_i h3
 split at h
 ·rename_i i hi
  unfold xk at hi
  have:=List.find?_some hi
  simp at this
  exact absurd h this
 rename_i h4
 have h5:goalFault m=0:=by
  split at h
  ·assumption
  ·exact h
 refine ⟨by omega,fun v hv=>?_,by omega,fun c hc=>?_,h5⟩
 ·obtain ⟨i,hi,rfl⟩:=List.getElem_of_mem hv
  have:=ZY h2 i hi
  rw [vFault_get hi] at this
  unfold varFault at this
  split at this
  ·cases this
  rename_i a
  split at this
  ·cases this
  rename_i b
  simp at a b
  exact ⟨a.1,b⟩
 ·obtain ⟨i,hi,rfl⟩:=List.getElem_of_mem hc
  have:=ZY h4 i hi
  rwa [cFault_get hi] at this
theorem bounds_of {lo hi:Int} (h:boundsB lo hi=true):(-1000000000<=lo/\lo<=1000000000)/\(-1000000000<=hi/\hi<=1000000000)/\lo<=hi/\hi-lo<64:=by
 simp [boundsB,numB] at h
 omega
theorem goal_of {m:Mo} (h:goalFault m=0):(m.has=false->m.goal=[])/\m.goal.length<=64/\(∀ t∈m.goal,0<=t.2/\t.2<m.vars.length)/\∀ t∈m.goal,t.1≠0/\-1000000<=t.1/\t.1<=1000000:=by
 unfold goalFault at h
 split at h
 ·split at h
  ·cases h
  ·rename_i h1 h2
   have:m.goal=[]:=List.length_eq_zero_iff.1 (by omega)
   rw [this];simp
 rename_i h0
 split at h
 ·cases h
 rename_i h1
 split at h
 ·cases h
 rename_i h2
 split at h
 ·cases h
 rename_i h3
 simp only [fewB,decide_eq_true_eq] at h1
 simp only [plB,Bool.not_eq_true',Bool.not_eq_false,List.all_eq_true,decide_eq_true_eq] at h2
 simp only [coefsB,cfB,Bool.not_eq_true',Bool.not_eq_false,List.all_eq_true,decide_eq_true_eq] at h3
 exact ⟨fun h=>absurd h h0,by omega,h2,h3⟩
def varAt (l:List Vr) (x:Int):Vr:=l.getD x.toNat ⟨⟨#[]⟩,0,0⟩
end Md
