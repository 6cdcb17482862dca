import Derived.Test.YtjgghimjnbjlbaaGreatDoorMdRegT
import Derived.Test.YtjgghimjnbjlbaaGreatDoorPfRow
import Derived.Deep.AppendLies
namespace Go.Proofs.YtjgghimjnbjlbaaGreatDoor
open Go.RowKit
def xw (w:World) (x:Value) (m:Nat) (size:Nat) (news:List Value):Prop:=
  ∃ a c,x=.slice a m c/\news.length=m * size/\(∀ u∈news,u.oneCell'=true)/\(a=none->m=0)/\∀ ad,a=some ad->∀ j u,news[j]?=some u->w.cell? (ad.add j)=some u
theorem y6q {P:Program} {ops:Array Oper} {o:Oper} {a:Act} {Q:Exit->Act->World->Prop} {K:Act->World->Prop} (w:World) (s x:Operand) (t e:TypeId) (z:Value) (size bytes:Nat)
    (ho:o.op=.call { callee:=.builtin .append,args:=#[s,x],argTypes:=#[t,t] }) (ht:P.underlying t=some (.slice e)) (hinfo:(P.info? e).map (fun i=>(i.zero,i.size,i.bytes))=some (some z,size,bytes)) (hzs:z.cells.size=size) (hsz:0<size)
    (base:Nat) (v xv:Value) (n m:Nat) (xs news:List Value) (hs:a.eval s=v) (hx:a.eval x=xv) (hown:w.ownsRow base e size v n xs) (hsrc:xw w xv m size news) (h63:n+m<=maxLen) (hbytes:(n+m) * bytes<=140737488355328) (hbase:base<=w.heap.size) (hw:Region.wanted o (yielded ops a.tmps)=true)
    (h:∀ v' w',w'.ownsRow base e size v' (n+m) (xs++news)->w.grownBy w' v.ownBlock->(v'.ownBlock=v.ownBlock∨v'.ownBlock=some w.heap.size)->K (a.put o.dst v') w'):if Region.wanted o (yielded ops a.tmps)=true then Oper.wp P o a w K Q else K (a.put o.dst undef) w:=by
  rw [if_pos hw];obtain ⟨i0,hi,hz0,hz1,hz2⟩:=Ym hinfo;obtain ⟨ad,c,rfl,hl,h1,hnil,hcells⟩:=hsrc
  cases ad with
  | none =>
    have hm:m=0:=hnil rfl;subst hm;have hn:news=[]:=List.length_eq_zero_iff.1 (by omega);subst hn;have hrun:(Builtin.append_ #[t,t] o.type #[v,.slice none 0 c]).run P w=.ok v w:=by
      rcases hown.2 with ⟨rfl,rfl⟩ | ⟨g,cap,cur,rfl,_,_,hnc,_⟩
      · simp [Builtin.append_,run_underlying ht,sizeOf,typeInfo,hi,Builtin.lenOf,Builtin.firstCells]
      · simp [Builtin.append_,run_underlying ht,sizeOf,typeInfo,hi,Builtin.lenOf,Builtin.firstCells,hnc,storeCells]
    unfold Oper.wp;simp [execOp,ho,resolve,invoke,builtin,hs,hx,hrun,Result.andThen];exact h v w (by simpa using hown) ⟨rfl,rfl,rfl,Nat.le_refl _,fun _ _ _=>rfl⟩ (.inl rfl)
  | some ad =>
    obtain ⟨v',w',hr,h2,h3,h4⟩:=ZA (P:=P) w base t o.type e i0 z size bytes ht hi hz0 hz1 hz2 hzs hsz v n xs hown ad m c news hl (hcells ad rfl) h1 h63 hbytes hbase;unfold Oper.wp execOp;simp only [ho,resolve,invoke,builtin,Sem.run_bind,Sem.run_pure,Result.andThen_ok,List.map_toArray,List.map_cons,List.map_nil,hs,hx,hr];exact h v' w' h2 h3 h4
theorem y6r {w:World} {b:Nat} {x y:Value} {t:TypeId} (h:w.heap[b]?=some (.cells #[x,y] t (0,0))) (h1:x.oneCell'=true) (h2:y.oneCell'=true):xw w (.slice (some ⟨b,0,none⟩) 1 1) 1 2 [x,y]:=
  ⟨_,_,rfl,rfl,(fun v hv=>by simp at hv;rcases hv with rfl | rfl <;> assumption),(fun e=>by cases e),fun ad e j v hj=>by
    injection e with e;subst e
    exact World.news_of_block h j v hj⟩
end Go.Proofs.YtjgghimjnbjlbaaGreatDoor
