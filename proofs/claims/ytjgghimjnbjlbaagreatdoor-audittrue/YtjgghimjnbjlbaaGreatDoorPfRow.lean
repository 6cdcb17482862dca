import Derived.Test.YtjgghimjnbjlbaaGreatDoorJ02
import Derived.Test.YtjgghimjnbjlbaaGreatDoorJ11
namespace Go.Proofs.YtjgghimjnbjlbaaGreatDoor
open Go.RowKit
theorem Ym {P:Program} {e:TypeId} {z:Value} {size bytes:Nat} (h:(P.info? e).map (fun i=>(i.zero,i.size,i.bytes))=some (some z,size,bytes)):∃ i0,P.info? e=some i0/\i0.zero=some z/\i0.size=size/\i0.bytes=bytes:=by
  cases hh:P.info? e with
  | none=>rw [hh] at h;cases h
  | some i0=>rw [hh] at h;simp at h;exact ⟨i0,rfl,h.1,h.2.1,h.2.2⟩
theorem ZU {P:Program} {ops:Array Oper} {rest:List Oper} {o:Oper} {a:Act} {Q:Exit->Act->World->Prop} (wr:World) (us:List Value) (size:Nat) (hsz0:us.length=size) (hsz1:0<size) (hgd:o.guard=none) (s x:Operand) (t e:TypeId) (z:Value) (bytes:Nat)
    (ho:o.op=.call { callee:=.builtin .append,args:=#[s,x],argTypes:=#[t,t] }) (ht:P.underlying t=some (.slice e)) (hinfo:(P.info? e).map (fun i=>(i.zero,i.size,i.bytes))=some (some z,size,bytes)) (hz1:z.cells.size=size)
    (base:Nat) (v:Value) (n:Nat) (xs:List Value) (hs:a.eval s=v) (hown:wr.ownsRow base e size v n xs) (hu:∀ u∈us,u.oneCell'=true)
    (bk:Nat) (hbk:wr.heap.size=bk) (hx:a.eval x=.slice (some ⟨bk,0,none⟩) 1 1) (h63:n+1<=maxLen) (hbytes:(n+1) * bytes<=140737488355328) (hbase:base<=wr.heap.size)
    (h:∀ v' w',w'.ownsRow base e size v' (n+1) (xs++us)->(wr.alloc (.cells us.toArray e)).grownBy w' v.ownBlock->(v'.ownBlock=v.ownBlock∨v'.ownBlock=some (wr.heap.size+1))->wpList P ops Q rest (a.put o.dst v') w'):wpList P ops Q (o :: rest) a (wr.alloc (.cells us.toArray e)):=by
  subst hbk;obtain ⟨i0,hi,hz0,hz1',hz2⟩:=Ym hinfo;have hsz:(wr.alloc (.cells us.toArray e)).heap.size=wr.heap.size+1:=by simp
  refine ZB _ hgd s x t ho base e i0 z size bytes ht hi hz0 hz1' hz2 hz1 hsz1 v n xs hs (hown.alloc _) ⟨wr.heap.size,0,none⟩ 1 1 us hx (by rw [hsz0,Nat.one_mul]) ?_ hu h63 hbytes (by rw [hsz];omega) ?_
  · intro j y hj
    rw [Kk,Nat.zero_add];have hn:(wr.alloc (.cells us.toArray e)).heap[wr.heap.size]?=some (.cells us.toArray e):=heap_alloc_new wr _;have hj2:us.toArray[j]?=some y:=by rw [List.getElem?_toArray];exact hj
    simp only [World.cell?,hn,hj2];rfl
  · intro v' w' h1 h2 h3
    rw [hsz] at h3;exact h v' w' h1 h2 h3
theorem yv {w:World} {B:Nat} {e:TypeId} {size:Nat} {v:Value} {n:Nat} {xs:List Value} (h:w.ownsRow B e size v n xs):∃ a cap,v=.slice a n cap:=by
  rcases h.2 with ⟨h1,h2⟩ | ⟨g,cap,cur,hv,_⟩
  · exact ⟨none,0,by rw [h1,h2]⟩
  · exact ⟨_,cap,hv⟩
theorem yN {w w':World} {B:Nat} {e:TypeId} {size:Nat} {v:Value} {n:Nat} {xs:List Value} (h:w.ownsRow B e size v n xs) (hk:∀ g,v.ownBlock=some g->w'.heap[g]?=w.heap[g]?):w'.ownsRow B e size v n xs:=by
  refine ⟨h.1,?_⟩;rcases h.2 with h1 | ⟨g,cap,cur,hv,hg,hc,h2⟩
  · exact .inl h1
  · exact .inr ⟨g,cap,cur,hv,hg,(hk g (by rw [hv];rfl)).trans hc,h2⟩
theorem Yn {w w':World} {B:Nat} {e:TypeId} {size:Nat} {v:Value} {n:Nat} {xs:List Value} (h:w.ownsRow B e size v n xs) (hb:Below w.heap.size w w'):w'.ownsRow B e size v n xs:=yN h fun g hg=>hb.block g (h.lt g hg).2
theorem yM {w:World} {B C:Nat} {e:TypeId} {size:Nat} {v:Value} {n:Nat} {xs:List Value} (h:w.ownsRow B e size v n xs) (hb:C<=B):w.ownsRow C e size v n xs:=by
  refine ⟨h.1,?_⟩;rcases h.2 with h1 | ⟨g,cap,cur,hv,hg,h2⟩
  · exact .inl h1
  · exact .inr ⟨g,cap,cur,hv,Nat.le_trans hb hg,h2⟩
theorem zD {w w':World} {B C b:Nat} {e:TypeId} {size:Nat} {v:Value} {n:Nat} {xs:List Value} (h:w.ownsRow C e size v n xs) (hs:SStp B (fun k=>k=b) w w') (hb:b<C):w'.ownsRow C e size v n xs:=
  yN h fun g hg=>hs.off.block g (h.lt g hg).2 fun e=>by have:=(h.lt g hg).1;omega
end Go.Proofs.YtjgghimjnbjlbaaGreatDoor
