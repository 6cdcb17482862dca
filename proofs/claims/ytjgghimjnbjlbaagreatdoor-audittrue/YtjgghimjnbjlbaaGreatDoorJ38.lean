/-
  Put together: PfGrow, PfCat.
-/
import Derived.Test.YtjgghimjnbjlbaaGreatDoorPfList
import Derived.Test.YtjgghimjnbjlbaaGreatDoorPfReg
import Derived.Shelf.Spec.SlicesGrow
import Derived.Test.YtjgghimjnbjlbaaGreatDoorJ04
namespace Go.Proofs.YtjgghimjnbjlbaaGreatDoor
open Go.RowKit Go.Shelf
def Tryz.growS_ren:Go.Shelf.Ren:=⟨fun | 4=>219 | n=>n,fun | 22=>60 | 25=>9 | 3=>3 | 4=>4 | 9=>9 | 20=>20 | 0=>0 | n=>n,fun | n=>n⟩
theorem Tryz.growS:Go.Proofs.Lays8.n4 Tryz.prog Tryz.growS_ren where
  mixed:=by kernel_rfl
  f4 := ⟨ "slices.Grow[[]string,string]", by decide, Tryz.func219.trans (congrArg some (by kernel_rfl))⟩
  t0:=Tryz.underlying0
  a0:=Tryz.isAgg0
  z0:=Tryz.sizeOf0
  v0:=Tryz.zeroValue0
  t3:=Tryz.underlying3
  a3:=Tryz.isAgg3
  z3:=Tryz.sizeOf3
  v3:=Tryz.zeroValue3
  t4:=Tryz.underlying4
  a4:=Tryz.isAgg4
  z4:=Tryz.sizeOf4
  v4:=Tryz.zeroValue4
  t9:=Tryz.underlying9
  a9:=Tryz.isAgg9
  z9:=Tryz.sizeOf9
  v9:=Tryz.zeroValue9
  t20:=Tryz.underlying20
  a20:=Tryz.isAgg20
  z20:=Tryz.sizeOf20
  v20:=Tryz.zeroValue20
  t22:=Tryz.underlying60
  a22:=Tryz.isAgg60
  z22:=Tryz.sizeOf60
  v22:=Tryz.zeroValue60
theorem y5l (n:Nat) (w:World) (hn:0<n) (hn2:n<=40000000):Calls Tryz.prog 219 #[.slice none 0 0,.int .i64 n] w fun e w'=>∃ v,e=.returned v/\w'.ownsRow w.heap.size 9 1 v 0 []/\Below w.heap.size w w':=by
  obtain ⟨i0,hi,hz0,hz1,hz2⟩:=Ym inf9;have h:=Any8.slices_Grow_grow Tryz.growS i0 (.string ⟨#[]⟩) hi hz0 (by rw [hz1];decide) none 0 0 n [] w (Nat.le_refl _) (by omega) (by rw [hz2];omega) (by omega) (by simp) (fun _=>rfl) (fun a ha=>by cases ha);refine h.mono ?_;rintro e w' ⟨rfl,rfl⟩;refine ⟨_,rfl,⟨rfl,.inr ⟨w.heap.size,_,_,rfl,Nat.le_refl _,heap_alloc_new w.drew _,by omega,grownCap_le_maxLen _ _ _ _ (by unfold maxLen;omega),?_,by simp⟩⟩,(Below.refl _ _).drew.alloc (Nat.le_refl _) _⟩;have hg:=grownCap_ge w (0+n) 0 (Tryz.growS_ren.t 25);rw [Array.size_append,Array.size_append,size_zeroCells,size_zeroCells];show 0+(0+n-0) * 1+(grownCap w (0+n) 0 _-(0+n)) * 1=grownCap w (0+n) 0 _ * 1;omega
end Go.Proofs.YtjgghimjnbjlbaaGreatDoor

namespace Go.Proofs.YtjgghimjnbjlbaaGreatDoor
open Go.RowKit
set_option maxRecDepth 10000
set_option maxHeartbeats 8000000
theorem KH {w:World} {C:Nat} {e:TypeId} {v:Value} {n:Nat} {xs:List Value} (h:w.ownsRow C e 1 v n xs) (h1:∀ u∈xs,u.oneCell'=true):xw w v n 1 xs:=by
  rcases h.2 with ⟨rfl,rfl⟩ | ⟨g,cap,cur,rfl,_,hg,_,_,_,ht⟩
  · exact ⟨none,0,rfl,h.1,h1,fun _=>rfl,fun ad e=>by cases e⟩
  · refine ⟨_,cap,rfl,h.1,h1,(fun e=>by cases e),fun ad e j u hj=>?_⟩
    injection e with e;subst e;refine World.news_of_block hg j u ?_;rw [<-ht,List.getElem?_take] at hj
    split at hj
    · exact hj
    · cases hj
theorem y5j {P:Program} {w:World} {ops:Array Oper} {rest:List Oper} {o:Oper} {a:Act} {Q:Exit->Act->World->Prop} (hgd:o.guard=none) (s x:Operand) (t:TypeId)
    (ho:o.op=.call { callee:=.builtin .append,args:=#[s,x],argTypes:=#[t,t] })
    (base:Nat) (e:TypeId) (i:TypeInfo) (size c:Nat) (ht:P.underlying t=some (.slice e)) (hi:P.info? e=some i)
    (v:Value) (n:Nat) (xs:List Value) (hs:a.eval s=v) (hown:w.ownsRow base e size v n xs) (hx:a.eval x=.slice none 0 c)
    (h:wpList P ops Q rest (a.put o.dst v) w):wpList P ops Q (o :: rest) a w:=by
  refine wpList_plain hgd fun K hK=>?_
  have hrun:(Builtin.append_ #[t,t] o.type #[v,.slice none 0 c]).run P w=.ok v w:=by
    rcases hown.2 with ⟨rfl,rfl⟩ | ⟨g,cap,cur,rfl,_,_,hnc,_⟩
    · simp [Builtin.append_,run_underlying ht,sizeOf,typeInfo,hi,Builtin.lenOf,Builtin.firstCells]
    · simp [Builtin.append_,run_underlying ht,sizeOf,typeInfo,hi,Builtin.lenOf,Builtin.firstCells,hnc,storeCells]
  unfold Oper.wp;simp [execOp,ho,resolve,invoke,builtin,hs,hx,hrun,Result.andThen];exact hK _ _ h
theorem KI {P:Program} {ops:Array Oper} {rest:List Oper} {o:Oper} {a:Act} {Q:Exit->Act->World->Prop} (w:World) (hgd:o.guard=none) (s x:Operand) (t e:TypeId) (z:Value) (size bytes:Nat)
    (ho:o.op=.call { callee:=.builtin .append,args:=#[s,x],argTypes:=#[t,t] }) (ht:P.underlying t=some (.slice e)) (hinfo:(P.info? e).map (fun i=>(i.zero,i.size,i.bytes))=some (some z,size,bytes)) (hzs:z.cells.size=size) (hsz:0<size)
    (base:Nat) (v xv:Value) (n m:Nat) (xs news:List Value) (hs:a.eval s=v) (hx:a.eval x=xv) (hown:w.ownsRow base e size v n xs) (hsrc:xw w xv m size news) (h63:n+m<=maxLen) (hbytes:(n+m) * bytes<=140737488355328) (hbase:base<=w.heap.size)
    (h:∀ v' w',w'.ownsRow base e size v' (n+m) (xs++news)->w.grownBy w' v.ownBlock->(v'.ownBlock=v.ownBlock∨v'.ownBlock=some w.heap.size)->wpList P ops Q rest (a.put o.dst v') w'):wpList P ops Q (o :: rest) a w:=by
  obtain ⟨i0,hi,hz0,hz1,hz2⟩:=Ym hinfo;obtain ⟨ad,c,rfl,hl,h1,hnil,hcells⟩:=hsrc
  cases ad with
  | none =>
    have hm:m=0:=hnil rfl;subst hm;have hn:news=[]:=List.length_eq_zero_iff.1 (by omega);subst hn;refine y5j hgd s x t ho base e i0 size c ht hi v n xs hs hown hx (h v w (by simpa using hown) ⟨rfl,rfl,rfl,Nat.le_refl _,fun _ _ _=>rfl⟩ (.inl rfl))
  | some ad=>exact ZB w hgd s x t ho base e i0 z size bytes ht hi hz0 hz1 hz2 hzs hsz v n xs hs hown ad m c news hx hl (hcells ad rfl) h1 h63 hbytes hbase h
theorem y5k {C p n1 n2:Nat} {V1 V2:Value} {xs1 xs2:List Value} (w:World) (hp:w.heap[p]?=some (.cells #[V1,V2] 60 (0,0))) (h1:w.ownsRow C 9 1 V1 n1 xs1) (h2:w.ownsRow C 9 1 V2 n2 xs2) (o1:∀ u∈xs1,u.oneCell'=true) (o2:∀ u∈xs2,u.oneCell'=true) (hn:0<n1) (hn1:n1<=9000000) (hn2:n2<=9000000):Calls Tryz.prog 194 #[.slice (some ⟨p,0,none⟩) 2 2] w fun e w'=>∃ v,e=.returned v/\w'.ownsRow w.heap.size 9 1 v (n1+n2) (xs1++xs2)/\Below w.heap.size w w':=by
  have HG:Hid (Calls Tryz.prog 219 #[.slice none 0 0,.int .i64 ((n1:Int)+n2)] w fun e w'=>∃ v,e=.returned v/\w'.ownsRow w.heap.size 9 1 v 0 []/\Below w.heap.size w w'):=by
    have:=y5l (n1+n2) w (by omega) (by omega);rw [Int.natCast_add] at this;exact this
  have hpl:p<w.heap.size:=(hLt hp);have HC:Hid (∀ w',Below w.heap.size w w'->w'.cell? ⟨p,0,none⟩=some V1/\w'.cell? ⟨p,1,none⟩=some V2/\xw w' V1 n1 1 xs1/\xw w' V2 n2 1 xs2):=fun w' hb=>by
    have g:=(hb.block p hpl).trans hp;exact ⟨yb g 0,yb g 1,KH (Yn h1 hb) o1,KH (Yn h2 hb) o2⟩
  have c0:=(HC.out w (Below.refl _ _)).1;have c1:=(HC.out w (Below.refl _ _)).2.1;obtain ⟨a1,k1,rfl⟩:=yv h1;obtain ⟨a2,k2,rfl⟩:=yv h2;have e1:wrap64 (n1:Int)=n1:=by unfold wrap64;omega
  have e2:wrap64 ((n1:Int)+n2)=(n1:Int)+n2:=by unfold wrap64;omega
  have e3:¬ (n1:Int)<0:=by omega
  have e4:¬ (n1:Int)+n2<0:=by omega
  clear hp h1 h2 o1 o2;go_enter Tryz.func194,Tryz.ntmps194;go_wp2_with fail
  go_loopg [3,5,11] 3 (fun g v3 v5 v11 wr=>∃ (u:Value),v5=u/\w=wr/\((g=3/\v3=.int .i64 0/\v11=.int .i64 0)∨(g=2/\v3=.int .i64 n1/\v11=.int .i64 1)∨(g=1/\v3=.int .i64 ((n1:Int)+n2)/\v11=.int .i64 2)))
  case atStart=>exact ⟨_,rfl,rfl,.inl ⟨rfl,rfl,rfl⟩⟩
  case round=>
    obtain ⟨u,rfl,rfl,⟨rfl,rfl,rfl⟩ | ⟨rfl,rfl,rfl⟩ | ⟨rfl,rfl,rfl⟩⟩:=hrel
    · go_wp2_with fail
      go_roundg 2
      case measure=>omega
      case rel=>exact ⟨_,rfl,rfl,.inr (.inl ⟨rfl,rfl,rfl⟩)⟩
    · go_wp2_with fail
      go_roundg 1
      case measure=>omega
      case rel=>exact ⟨_,rfl,rfl,.inr (.inr ⟨rfl,rfl,rfl⟩)⟩
    · clear c0 c1
      go_wp2_with fail
      refine cA HG.out ?_;rintro e w1 ⟨v0,rfl,h1,h2⟩;have H1:Hid (w1.ownsRow w.heap.size 9 1 v0 0 []/\Below w.heap.size w w1):=⟨h1,h2⟩;obtain ⟨va,vc,hvs⟩:=yv h1;subst hvs;clear h1 h2;go_wp2_with fail
      go_loopg [6,8,27] 3 (fun g v6 v8 v27 wr=>∃ (u:Value) (v:Value),v8=u/\v6=v/\Hid (Below w.heap.size w wr)/\((g=3/\Hid (wr.ownsRow w.heap.size 9 1 v 0 [])/\v27=.int .i64 0)∨(g=2/\Hid (wr.ownsRow w.heap.size 9 1 v n1 xs1)/\v27=.int .i64 1)∨(g=1/\Hid (wr.ownsRow w.heap.size 9 1 v (n1+n2) (xs1++xs2))/\v27=.int .i64 2)))
      case atStart=>exact ⟨_,_,rfl,rfl,H1.out.2,.inl ⟨rfl,H1.out.1,rfl⟩⟩
      case round=>
        clear H1;obtain ⟨u,v,rfl,rfl,HB,⟨rfl,HO,rfl⟩ | ⟨rfl,HO,rfl⟩ | ⟨rfl,HO,rfl⟩⟩:=hrel
        · obtain ⟨b1,b2,hvs⟩:=yv HO.out
          subst hvs;have c0:=(HC.out wr HB.out).1
          go_wp2_with (first
            | (at_builtin;refine KI wr rfl _ _ 60 9 (.string ⟨#[]⟩) 1 16 rfl un43 inf9 rfl (by decide) w.heap.size _ _ _ _ _ _ (by rfl) (by rfl) HO.out (HC.out wr HB.out).2.2.1 (by unfold maxLen;omega) (by omega) HB.out.size ?_;intro v3 w3 ho3 hg3 hn3;(have H3:Hid (Below w.heap.size w w3/\w3.ownsRow w.heap.size 9 1 v3 n1 xs1):=⟨HB.out.grown hg3 HB.out.size (fun k hk=>(HO.out.lt k hk).1),by rw [Nat.zero_add,List.nil_append] at ho3;exact ho3⟩);clear ho3 hg3 hn3))
          go_roundg 2
          case measure=>omega
          case rel=>exact ⟨_,_,rfl,rfl,H3.out.1,.inr (.inl ⟨rfl,H3.out.2,rfl⟩)⟩
        · obtain ⟨b1,b2,hvs⟩:=yv HO.out
          subst hvs;have c1:=(HC.out wr HB.out).2.1
          go_wp2_with (first
            | (at_builtin;refine KI wr rfl _ _ 60 9 (.string ⟨#[]⟩) 1 16 rfl un43 inf9 rfl (by decide) w.heap.size _ _ _ _ _ _ (by rfl) (by rfl) HO.out (HC.out wr HB.out).2.2.2 (by unfold maxLen;omega) (by omega) HB.out.size ?_;intro v3 w3 ho3 hg3 hn3;(have H3:Hid (Below w.heap.size w w3/\w3.ownsRow w.heap.size 9 1 v3 (n1+n2) (xs1++xs2)):=⟨HB.out.grown hg3 HB.out.size (fun k hk=>(HO.out.lt k hk).1),ho3⟩);clear ho3 hg3 hn3))
          go_roundg 1
          case measure=>omega
          case rel=>exact ⟨_,_,rfl,rfl,H3.out.1,.inr (.inr ⟨rfl,H3.out.2,rfl⟩)⟩
        · obtain ⟨b1,b2,hvs⟩:=yv HO.out
          subst hvs;go_wp2_with fail
          go_ret;exact ⟨_,rfl,HO.out,HB.out⟩
end Go.Proofs.YtjgghimjnbjlbaaGreatDoor
