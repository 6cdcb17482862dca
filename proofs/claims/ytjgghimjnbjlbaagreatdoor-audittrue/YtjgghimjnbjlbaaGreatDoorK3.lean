/-
  Put together: Math, RefOf.
-/
import Derived.Lib.ItoaNum
import Derived.Test.YtjgghimjnbjlbaaGreatDoorJ04
namespace Go.Proofs.YtjgghimjnbjlbaaGreatDoor
namespace Bn
open Go
def xU:Nat->Nat->List Nat
  | 0,_=>[]
  | f+1,m=>if m=0 then [] else m % 1000000000 :: xU f (m / 1000000000)
def yj (m:Nat):List Nat:=xU m m
theorem Zu:∀ (f m:Nat),m<=f->xU f m=xU m m
  | 0, m, h => by
    have:m=0:=by omega
    subst this;rfl
  | f + 1, m, h => by
    cases m with
    | zero=>simp [xU]
    | succ k =>
      simp only [xU];rw [if_neg (by omega),if_neg (by omega),Zu f _ (by omega),Zu k _ (by omega)]
theorem limbs_zero:yj 0=[]:=rfl
theorem limbs_pos {m:Nat} (h:0<m):yj m=m % 1000000000 :: yj (m / 1000000000):=by
  unfold yj
  cases m with
  | zero=>omega
  | succ k =>
    simp only [xU];rw [if_neg (by omega),Zu k _ (by omega)]
def val:List Nat->Nat
  | []=>0
  | d :: l=>d+1000000000 * val l
theorem val_append (a b:List Nat):val (a++b)=val a+1000000000 ^ a.length * val b:=by
  induction a with
  | nil=>simp [val]
  | cons d l ih=>simp only [List.cons_append,val,ih,List.length_cons,Nat.pow_succ];rw [Nat.mul_add,Nat.add_assoc];congr 2;rw [Nat.mul_left_comm,Nat.mul_assoc]
theorem Qs:∀ (f m:Nat),m<=f->val (yj m)=m
  | 0, m, h => by
    have:m=0:=by omega
    subst this;rfl
  | f + 1, m, h => by
    by_cases h0:m=0
    · subst h0;rfl
    · rw [limbs_pos (by omega)]
      simp only [val];rw [Qs f _ (by omega)];omega
theorem val_limbs' (m:Nat):val (yj m)=m:=Qs m m (Nat.le_refl _)
theorem Qt:∀ (f m:Nat),m<=f->∀ d∈yj m,d<1000000000
  | 0, m, h => by
    have:m=0:=by omega
    subst this;simp [limbs_zero]
  | f + 1, m, h => by
    by_cases h0:m=0
    · subst h0;simp [limbs_zero]
    · rw [limbs_pos (by omega)]
      intro d hd;rcases List.mem_cons.1 hd with rfl | hd
      · omega
      · exact Qt f _ (by omega) d hd
theorem limbs_lt' {m d:Nat} (h:d∈yj m):d<1000000000:=Qt m m (Nat.le_refl _) d h
theorem limbs_get_lt {m i:Nat} (h:i<(yj m).length):(yj m)[i]<1000000000:=limbs_lt' (List.getElem_mem h)
theorem limbs_eq_nil {m:Nat}:yj m=[]↔m=0:=by
  constructor
  · intro h;by_cases h0:m=0
    · exact h0
    · rw [limbs_pos (by omega)] at h;simp at h
  · rintro rfl;rfl
theorem Zv:∀ (i m:Nat),(yj m).drop i=yj (m / 1000000000 ^ i)
  | 0,m=>by simp
  | i + 1, m => by
    by_cases h0:m=0
    · subst h0;simp [limbs_zero]
    · rw [limbs_pos (by omega),List.drop_succ_cons,Zv i,Nat.div_div_eq_div_mul,Nat.pow_succ,Nat.mul_comm]
theorem limbs_length_le (m i:Nat):(yj m).length<=i↔m<1000000000 ^ i:=by
  have hp:0<1000000000 ^ i:=Nat.pow_pos (by omega);rw [<-List.drop_eq_nil_iff,Zv,limbs_eq_nil,Nat.div_eq_zero_iff];omega
theorem get_limbs {m i:Nat} (h:i<(yj m).length):(yj m)[i]=m / 1000000000 ^ i % 1000000000:=by
  have h1:(yj m).drop i=(yj m)[i] :: (yj m).drop (i+1):=List.drop_eq_getElem_cons h;rw [Zv] at h1;have hpos:0<m / 1000000000 ^ i:=by
    rcases Nat.eq_zero_or_pos (m / 1000000000 ^ i) with e | e
    · rw [e,limbs_zero] at h1;simp at h1;omega
    · exact e
  rw [limbs_pos hpos] at h1;injection h1 with a b;exact a.symm
theorem limbs_val:∀ l:List Nat,(∀ d∈l,d<1000000000)->l.getLast?≠some 0->yj (val l)=l
  | [],_,_=>rfl
  | d :: l, h, hl => by
    have hd:d<1000000000:=h d (by simp);have hl':l.getLast?≠some 0:=by
      cases l with
      | nil=>simp
      | cons a t=>simpa [List.getLast?_cons_cons] using hl
    have ih:=limbs_val l (fun x hx=>h x (by simp [hx])) hl';have hpos:0<val (d :: l):=by
      simp only [val]
      cases l with
      | nil =>
        simp at hl;omega
      | cons a t =>
        have:val (a :: t)≠0:=by
          intro e;rw [e] at ih;simp [limbs_zero] at ih
        omega
    rw [limbs_pos hpos];have e1:val (d :: l) % 1000000000=d:=by simp only [val];omega
    have e2:val (d :: l) / 1000000000=val l:=by simp only [val];omega
    rw [e1,e2,ih]
end Bn
end Go.Proofs.YtjgghimjnbjlbaaGreatDoor

namespace Go.Proofs.YtjgghimjnbjlbaaGreatDoor
open Go.RowKit
open Bn (yj)
theorem xK {w:World} {base:Nat} {e:TypeId} {v:Value} {n:Nat} {xs:List Value} (h:w.ownsRow base e 1 v n xs):∃ a cap,v=.slice a n cap:=by
  obtain ⟨_,h | ⟨g,cap,cur,hv,_⟩⟩:=h
  · exact ⟨none,0,by rw [h.1,h.2]⟩
  · exact ⟨_,cap,hv⟩
theorem y0i {P:Program} {ops:Array Oper} {rest:List Oper} {o:Oper} {a:Act} {Q:Exit->Act->World->Prop} (wr:World) (hgd:o.guard=none) (s x:Operand) (t:TypeId)
    (ho:o.op=.call { callee:=.builtin .append,args:=#[s,x],argTypes:=#[t,t] }) (base:Nat) (e:TypeId) (i:TypeInfo) (kd:IntKind) (bytes:Nat)
    (ht:P.underlying t=some (.slice e)) (hi:P.info? e=some i) (hz:i.zero=some (.int kd 0)) (hsize:i.size=1) (hby:i.bytes=bytes)
    (v:Value) (n:Nat) (xs:List Value) (hs:a.eval s=v) (hown:wr.ownsRow base e 1 v n xs) (c:Int) (bk:Nat) (hbk:wr.heap.size=bk) (hx:a.eval x=.slice (some ⟨bk,0,none⟩) 1 1)
    (hn:n<=1000000000) (hb8:bytes<=16) (hbase:base<=wr.heap.size)
    (h:∀ v' w',w'.ownsRow base e 1 v' (n+1) (xs++[.int kd c])->(wr.alloc (.cells #[.int kd c] e)).grownBy w' v.ownBlock->wpList P ops Q rest (a.put o.dst v') w'):wpList P ops Q (o :: rest) a (wr.alloc (.cells #[.int kd c] e)):=by
  subst hbk;refine wpList_append_own _ hgd s x t ho base e i (.int kd 0) 1 bytes ht hi hz hsize hby rfl (by decide) v n xs hs (hown.alloc _) ⟨wr.heap.size,0,none⟩ 1 1 [.int kd c] hx rfl ?_ ?_ ?_ ?_ ?_ ?_
  · intro j u hj
    match j,hj with
    | 0,hj=>simp at hj;subst hj;simp [Addr.add]
  · intro u hu;simp at hu;subst hu;rfl
  · unfold maxLen;omega
  · have:(n+1) * bytes<=(n+1) * 16:=Nat.mul_le_mul_left _ hb8
    omega
  · simp;omega
  · intro v' w' h1 h2 _
    exact h v' w' h1 h2
end Go.Proofs.YtjgghimjnbjlbaaGreatDoor
