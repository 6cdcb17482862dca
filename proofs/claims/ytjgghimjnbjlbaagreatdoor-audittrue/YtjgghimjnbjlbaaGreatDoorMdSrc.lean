import Derived.Test.YtjgghimjnbjlbaaGreatDoorJ04
import Derived.Test.YtjgghimjnbjlbaaGreatDoorJ19
import Derived.Laws.OwnMore
import Derived.Test.YtjgghimjnbjlbaaGreatDoorJ02
namespace Go.Proofs.YtjgghimjnbjlbaaGreatDoor
open Go.RowKit
def MSrc (w:World) (x:Value) (m:Nat) (size:Nat) (news:List Value):Prop:=
  ∃ a c,x=.slice a m c/\news.length=m * size/\(∀ u∈news,u.oneCell'=true)/\(a=none->m=0)/\∀ ad,a=some ad->∀ j u,news[j]?=some u->w.cell? (ad.add j)=some u
theorem y4k {P:Program} {w:World} {ops:Array Oper} {rest:List Oper} {o:Oper} {a:Act} {Q:Exit->Act->World->Prop} (hgd:o.guard=none) (s x:Operand) (t:TypeId)
    (ho:o.op=.call { callee:=.builtin .append,args:=#[s,x],argTypes:=#[t,t] })
    (base:Nat) (e:TypeId) (i:TypeInfo) (size c:Nat) (ht:P.underlying t=some (.slice e)) (hi:P.info? e=some i)
    (v:Value) (n:Nat) (xs:List Value) (hs:a.eval s=v) (hown:w.ownsRow base e size v n xs) (hx:a.eval x=.slice none 0 c)
    (h:wpList P ops Q rest (a.put o.dst v) w):wpList P ops Q (o :: rest) a w:=by
  refine wpList_plain hgd fun K hK=>?_
  have hrun:(Builtin.append_ #[t,t] o.type #[v,.slice none 0 c]).run P w=.ok v w:=by
    rcases hown.2 with ⟨rfl,rfl⟩ | ⟨g,cap,cur,rfl,_,_,hnc,_⟩
    · simp [Builtin.append_,run_underlying ht,sizeOf,typeInfo,hi,Builtin.lenOf,Builtin.firstCells]
    · simp [Builtin.append_,run_underlying ht,sizeOf,typeInfo,hi,Builtin.lenOf,Builtin.firstCells,hnc,storeCells]
  unfold Oper.wp;simp [execOp,ho,resolve,invoke,builtin,hs,hx,hrun,Result.andThen];exact hK _ _ h
theorem Kn {P:Program} {e:TypeId} {z:Value} {size bytes:Nat} (h:(P.info? e).map (fun i=>(i.zero,i.size,i.bytes))=some (some z,size,bytes)):∃ i0,P.info? e=some i0/\i0.zero=some z/\i0.size=size/\i0.bytes=bytes:=by
  cases hh:P.info? e with
  | none=>rw [hh] at h;cases h
  | some i0=>rw [hh] at h;simp at h;exact ⟨i0,rfl,h.1,h.2.1,h.2.2⟩
theorem Y5 {P:Program} {ops:Array Oper} {rest:List Oper} {o:Oper} {a:Act} {Q:Exit->Act->World->Prop} (w:World) (hgd:o.guard=none) (s x:Operand) (t e:TypeId) (z:Value) (size bytes:Nat)
    (ho:o.op=.call { callee:=.builtin .append,args:=#[s,x],argTypes:=#[t,t] }) (ht:P.underlying t=some (.slice e)) (hinfo:(P.info? e).map (fun i=>(i.zero,i.size,i.bytes))=some (some z,size,bytes)) (hzs:z.cells.size=size) (hsz:0<size)
    (base:Nat) (v xv:Value) (n m:Nat) (xs news:List Value) (hs:a.eval s=v) (hx:a.eval x=xv) (hown:w.ownsRow base e size v n xs) (hsrc:MSrc w xv m size news) (h63:n+m<=maxLen) (hbytes:(n+m) * bytes<=140737488355328) (hbase:base<=w.heap.size)
    (h:∀ v' w',w'.ownsRow base e size v' (n+m) (xs++news)->w.grownBy w' v.ownBlock->(v'.ownBlock=v.ownBlock∨v'.ownBlock=some w.heap.size)->wpList P ops Q rest (a.put o.dst v') w'):wpList P ops Q (o :: rest) a w:=by
  obtain ⟨i0,hi,hz0,hz1,hz2⟩:=Kn hinfo;obtain ⟨ad,c,rfl,hl,h1,hnil,hcells⟩:=hsrc
  cases ad with
  | none =>
    have hm:m=0:=hnil rfl;subst hm;have hn:news=[]:=List.length_eq_zero_iff.1 (by omega);subst hn;refine y4k hgd s x t ho base e i0 size c ht hi v n xs hs hown hx (h v w (by simpa using hown) ⟨rfl,rfl,rfl,Nat.le_refl _,fun _ _ _=>rfl⟩ (.inl rfl))
  | some ad=>exact Km w hgd s x t ho base e i0 z size bytes ht hi hz0 hz1 hz2 hzs hsz v n xs hs hown ad m c news hx hl (hcells ad rfl) h1 h63 hbytes hbase h
theorem MInts.src {w:World} {v:Value} {l:List Int} (h:MInts w v l):MSrc w v l.length 1 (l.map (.int .i64)):=by
  obtain ⟨a,cap,rfl,hm,hc⟩:=h;refine ⟨a,cap,rfl,by simp,fun u hu=>?_,fun ha=>?_,fun ad ha j u hj=>?_⟩
  · obtain ⟨n,_,rfl⟩:=List.mem_map.1 hu;rfl
  · rcases Nat.eq_zero_or_pos l.length with h | h
    · exact h
    · obtain ⟨b,off,hb,_⟩:=hc h
      rw [ha] at hb;cases hb
  · have hj':j<l.length:=by
      have:=List.getElem?_eq_some_iff.1 hj;obtain ⟨h1,_⟩:=this;simpa using h1
    obtain ⟨b,off,hb,hlt,hcell⟩:=hc (by omega);rw [ha] at hb;injection hb with hb;subst hb;rw [zx];rw [List.getElem?_map,List.getElem?_eq_getElem hj'] at hj;simp at hj;rw [<-hj];exact hcell j hj'
theorem x8 {w:World} {base:Nat} {e:TypeId} {size:Nat} {v:Value} {n:Nat} {xs:List Value} (h:w.ownsRow base e size v n xs):∃ a c,v=.slice a n c:=by
  rcases h.2 with ⟨rfl,rfl⟩ | ⟨g,cap,cur,rfl,_⟩
  · exact ⟨_,_,rfl⟩
  · exact ⟨_,_,rfl⟩
def zp (l:List (Int × Int)):List Value:=l.flatMap fun t=>[.int .i64 t.1,.int .i64 t.2]
theorem Ko (l:List (Int × Int)):(zp l).length=l.length * 2:=by
  induction l with
  | nil=>rfl
  | cons t l ih=>simp only [zp,List.flatMap_cons,List.length_append,List.length_cons] at *;rw [ih];simp;omega
theorem Zy (l:List (Int × Int)) (k:Nat) (hk:k<l.length):(zp l)[k * 2]?=some (.int .i64 l[k].1)/\(zp l)[k * 2+1]?=some (.int .i64 l[k].2):=by
  induction l generalizing k with
  | nil=>simp at hk
  | cons t l ih =>
    cases k with
    | zero=>exact ⟨rfl,rfl⟩
    | succ k =>
      have:=ih k (by simpa using hk);simp only [zp,List.flatMap_cons,List.getElem_cons_succ] at *;refine ⟨?_,?_⟩
      · rw [List.getElem?_append_right (by simp;omega),<-this.1];congr 1;simp;omega
      · rw [List.getElem?_append_right (by simp;omega),<-this.2];congr 1;simp;omega
theorem TermsAt.src {w:World} {v:Value} {l:List (Int × Int)} (h:TermsAt w v l):MSrc w v l.length 2 (zp l):=by
  obtain ⟨a,cap,rfl,hm,hc⟩:=h;refine ⟨a,cap,rfl,Ko l,fun u hu=>?_,fun ha=>?_,fun ad ha j u hj=>?_⟩
  · simp only [zp,List.mem_flatMap] at hu
    obtain ⟨t,_,hu⟩:=hu;simp only [List.mem_cons,List.not_mem_nil,or_false] at hu
    rcases hu with rfl | rfl <;> rfl
  · rcases Nat.eq_zero_or_pos l.length with h | h
    · exact h
    · obtain ⟨b,off,hb,_⟩:=hc h
      rw [ha] at hb;cases hb
  · have hj':j<l.length * 2:=by
      obtain ⟨h1,_⟩:=List.getElem?_eq_some_iff.1 hj
      rwa [Ko] at h1
    obtain ⟨b,off,hb,hlt,hcell⟩:=hc (by omega);rw [ha] at hb;injection hb with hb;subst hb;rw [zx];have hk:j / 2<l.length:=by omega
    have hg:=Zy l (j / 2) hk;have hcl:=hcell (j / 2) hk;rcases Nat.mod_two_eq_zero_or_one j with h0 | h0
    · have e:j / 2 * 2=j:=by omega
      rw [e] at hg hcl;rw [hg.1] at hj;rw [<-hj];exact hcl.1
    · have e:j / 2 * 2+1=j:=by omega
      have e2:off+j / 2 * 2+1=off+j:=by omega
      rw [e] at hg;rw [e2] at hcl;rw [hg.2] at hj;rw [<-hj];exact hcl.2
def zC (l:List Md.Vr):List Value:=l.flatMap fun t=>[.string t.name,.int .i64 t.lo,.int .i64 t.hi]
theorem Kp (l:List Md.Vr):(zC l).length=l.length * 3:=by
  induction l with
  | nil=>rfl
  | cons t l ih=>simp only [zC,List.flatMap_cons,List.length_append,List.length_cons] at *;rw [ih];simp;omega
theorem YP (l:List Md.Vr) (k:Nat) (hk:k<l.length):(zC l)[k * 3]?=some (.string l[k].name)/\(zC l)[k * 3+1]?=some (.int .i64 l[k].lo)/\(zC l)[k * 3+2]?=some (.int .i64 l[k].hi):=by
  induction l generalizing k with
  | nil=>simp at hk
  | cons t l ih =>
    cases k with
    | zero=>exact ⟨rfl,rfl,rfl⟩
    | succ k =>
      have:=ih k (by simpa using hk);simp only [zC,List.flatMap_cons,List.getElem_cons_succ] at *;refine ⟨?_,?_,?_⟩
      · rw [List.getElem?_append_right (by simp;omega),<-this.1];congr 1;simp;omega
      · rw [List.getElem?_append_right (by simp;omega),<-this.2.1];congr 1;simp;omega
      · rw [List.getElem?_append_right (by simp;omega),<-this.2.2];congr 1;simp;omega
theorem VarsAt.src {w:World} {v:Value} {l:List Md.Vr} (h:VarsAt w v l):MSrc w v l.length 3 (zC l):=by
  obtain ⟨a,cap,rfl,hm,_,hc⟩:=h;refine ⟨a,cap,rfl,Kp l,fun u hu=>?_,fun ha=>?_,fun ad ha j u hj=>?_⟩
  · simp only [zC,List.mem_flatMap] at hu
    obtain ⟨t,_,hu⟩:=hu;simp only [List.mem_cons,List.not_mem_nil,or_false] at hu
    rcases hu with rfl | rfl | rfl <;> rfl
  · rcases Nat.eq_zero_or_pos l.length with h | h
    · exact h
    · obtain ⟨b,off,hb,_⟩:=hc h
      rw [ha] at hb;cases hb
  · have hj':j<l.length * 3:=by
      obtain ⟨h1,_⟩:=List.getElem?_eq_some_iff.1 hj
      rwa [Kp] at h1
    obtain ⟨b,off,hb,hlt,hcell⟩:=hc (by omega);rw [ha] at hb;injection hb with hb;subst hb;rw [zx];have hk:j / 3<l.length:=by omega
    have hg:=YP l (j / 3) hk;have hcl:=hcell (j / 3) hk;have h3:j % 3=0∨j % 3=1∨j % 3=2:=by omega
    rcases h3 with h0 | h0 | h0
    · have e:j / 3 * 3=j:=by omega
      rw [e] at hg hcl;rw [hg.1] at hj;rw [<-hj];exact hcl.1
    · have e:j / 3 * 3+1=j:=by omega
      have e2:off+j / 3 * 3+1=off+j:=by omega
      rw [e] at hg;rw [e2] at hcl;rw [hg.2.1] at hj;rw [<-hj];exact hcl.2.1
    · have e:j / 3 * 3+2=j:=by omega
      have e2:off+j / 3 * 3+2=off+j:=by omega
      rw [e] at hg;rw [e2] at hcl;rw [hg.2.2] at hj;rw [<-hj];exact hcl.2.2
theorem y1e {P:Program} {ops:Array Oper} {rest:List Oper} {o:Oper} {a:Act} {Q:Exit->Act->World->Prop} (wr:World) (us:List Value) (size:Nat) (hsz0:us.length=size) (hsz1:0<size) (hgd:o.guard=none) (s x:Operand) (t e:TypeId) (z:Value) (bytes:Nat)
    (ho:o.op=.call { callee:=.builtin .append,args:=#[s,x],argTypes:=#[t,t] }) (ht:P.underlying t=some (.slice e)) (hinfo:(P.info? e).map (fun i=>(i.zero,i.size,i.bytes))=some (some z,size,bytes)) (hz1:z.cells.size=size)
    (base:Nat) (v:Value) (n:Nat) (xs:List Value) (hs:a.eval s=v) (hown:wr.ownsRow base e size v n xs) (hu:∀ u∈us,u.oneCell'=true)
    (bk:Nat) (hbk:wr.heap.size=bk) (hx:a.eval x=.slice (some ⟨bk,0,none⟩) 1 1) (h63:n+1<=maxLen) (hbytes:(n+1) * bytes<=140737488355328) (hbase:base<=wr.heap.size)
    (h:∀ v' w',w'.ownsRow base e size v' (n+1) (xs++us)->(wr.alloc (.cells us.toArray e)).grownBy w' v.ownBlock->(v'.ownBlock=v.ownBlock∨v'.ownBlock=some (wr.heap.size+1))->wpList P ops Q rest (a.put o.dst v') w'):wpList P ops Q (o :: rest) a (wr.alloc (.cells us.toArray e)):=by
  subst hbk;obtain ⟨i0,hi,hz0,hz1',hz2⟩:=Kn hinfo;have hsz:(wr.alloc (.cells us.toArray e)).heap.size=wr.heap.size+1:=by simp
  refine Km _ hgd s x t ho base e i0 z size bytes ht hi hz0 hz1' hz2 hz1 hsz1 v n xs hs (hown.alloc _) ⟨wr.heap.size,0,none⟩ 1 1 us hx (by rw [hsz0,Nat.one_mul]) ?_ hu h63 hbytes (by rw [hsz];omega) ?_
  · intro j y hj
    rw [zx,Nat.zero_add];have hn:(wr.alloc (.cells us.toArray e)).heap[wr.heap.size]?=some (.cells us.toArray e):=heap_alloc_new wr _;have hj2:us.toArray[j]?=some y:=by rw [List.getElem?_toArray];exact hj
    simp only [World.cell?,hn,hj2];rfl
  · intro v' w' h1 h2 h3
    rw [hsz] at h3;exact h v' w' h1 h2 h3
end Go.Proofs.YtjgghimjnbjlbaaGreatDoor
