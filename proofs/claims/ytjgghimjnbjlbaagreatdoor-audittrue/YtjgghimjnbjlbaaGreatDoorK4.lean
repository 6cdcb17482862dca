/-
  Put together: AtPush, AtLaw.
-/
import Derived.Test.YtjgghimjnbjlbaaGreatDoorJ04
import Derived.Test.YtjgghimjnbjlbaaGreatDoorJ48
import Derived.Test.YtjgghimjnbjlbaaGreatDoorJ43
import Derived.BigQuiet
import Derived.Test.YtjgghimjnbjlbaaGreatDoorJ53
import Derived.Test.YtjgghimjnbjlbaaGreatDoorJ19
import Derived.Deep.CutRange
namespace Go.Proofs.YtjgghimjnbjlbaaGreatDoor
open Go Go.RowKit
set_option maxRecDepth 10000
set_option maxHeartbeats 8000000
attribute [local go_sem] Oper.semAt_some
structure GvAt (M pw pn pl:Nat) (L:List (List Int)) (W:World):Prop where
  w:W.heap[pw]?=some (.cells #[.bool true] 4 (0,0))
  n:W.heap[pn]?=some (.cells #[.int .i64 0] 3 (0,0))
  l:∃ v us,W.heap[pl]?=some (.cells #[v] 30 (0,0))/\W.ownsRow M 27 1 v L.length us/\∀ (j:Nat) (u:Value),us[j]?=some u->∃ x:List Int,L[j]?=some x/\W.ownsRow M 3 1 u x.length (x.map (.int .i64))
theorem y1b {W:World} {B B':Nat} {v u:Value} {n m:Nat} {xs ys:List Value} (h:W.ownsRow B 27 1 v n xs) (k:W.ownsRow B' 3 1 u m ys) {g:Nat} (hv:v.ownBlock=some g) (hu:u.ownBlock=some g):False:=by
  rcases h.2 with ⟨rfl,_⟩ | ⟨g1,cap,cur,rfl,_,hg,_⟩
  · cases hv
  · rcases k.2 with ⟨rfl,_⟩ | ⟨g2,cap2,cur2,rfl,_,hg2,_⟩
    · cases hu
    · have e1:g1=g:=by simpa [Value.ownBlock] using hv
      have e2:g2=g:=by simpa [Value.ownBlock] using hu
      subst e1;subst e2;rw [hg] at hg2
      cases hg2
theorem GvAt.ofw {M pw pn pl:Nat} {L:List (List Int)} {W W':World} {U:Nat->Prop} (h:GvAt M pw pn pl L W) (hU:∀ k,U k->k<M/\k≠pw/\k≠pn/\k≠pl) (ho:Ofw U W W'):GvAt M pw pn pl L W':=by
  have nb:∀ {v:Value} {n e:Nat} {xs:List Value},W.ownsRow M e 1 v n xs->W'.ownsRow M e 1 v n xs:=fun h=>x7 h (fun g hg hk=>by have:=(h.lt g hg).1;have:=hU g hk;omega) ho
  obtain ⟨v,us,h1,h2,h3⟩:=h.l;refine ⟨(ho.block _ (hLt h.w) fun hk=>(hU _ hk).2.1 rfl).trans h.w,(ho.block _ (hLt h.n) fun hk=>(hU _ hk).2.2.1 rfl).trans h.n,v,us,(ho.block _ (hLt h1) fun hk=>(hU _ hk).2.2.2 rfl).trans h1,nb h2,fun j u hj=>?_⟩;obtain ⟨x,hx,hr⟩:=h3 j u hj;exact ⟨x,hx,nb hr⟩
theorem y1c {M pw pn pl:Nat} {L:List (List Int)} {x:List Int} {W W1 w7 W8:World} {v v0 v':Value} {us:List Value} (hG:GvAt M pw pn pl L W) (h1:W.setCell ⟨pw,0,none⟩ (.bool true)=W1) (hpM:pw<M/\pn<M/\pl<M) (hx:W.ownsRow M 3 1 v x.length (x.map (.int .i64))) (hl:W.heap[pl]?=some (.cells #[v0] 30 (0,0))) (hr:W.ownsRow M 27 1 v0 L.length us) (hus:∀ (j:Nat) (u:Value),us[j]?=some u->∃ x:List Int,L[j]?=some x/\W.ownsRow M 3 1 u x.length (x.map (.int .i64)))
    (ho:w7.ownsRow M 27 1 v' (L.length+1) (us++[v])) (hg:(W1.alloc (.cells [v].toArray 27)).grownBy w7 v0.ownBlock) (hn:v'.ownBlock=v0.ownBlock∨v'.ownBlock=some (W1.heap.size+1)) (h8:w7.setCell ⟨pl,0,none⟩ v'=W8):GvAt M pw pn pl (L++[x]) W8/\Ofw (fun k=>k=pw∨k=pl∨M<=k) W W8:=by
  have nw:pw≠pn:=fun e=>by have h1:=hG.w;rw [e,hG.n] at h1;cases h1
  have nl:pw≠pl:=fun e=>by have h1:=hG.w;rw [e,hl] at h1;cases h1
  have np:pl≠pn:=fun e=>by rw [e,hG.n] at hl;cases hl
  have o1:Ofw (fun k=>k=pw) W W1:=by rw [<-h1];exact Ofw.set (S:=fun k=>k=pw) _ rfl
  have s1:W1.heap.size=W.heap.size:=by rw [<-h1];simp
  have oA:Ofw (fun k=>k=pw) W (W1.alloc (.cells [v].toArray 27)):=o1.trans (Ofw.of_below ((Below.refl _ _).alloc (Nat.le_refl _) _));have rg:∀ g,v0.ownBlock=some g->M<=g:=fun g hg=>(hr.lt g hg).1
  have o7:Ofw (fun k=>k=pw∨v0.ownBlock=some k) W w7:=by
    refine (oA.less fun k hk=>.inl hk).trans ⟨hg.os,hg.tape,hg.output,hg.size,fun k hk hs=>hg.block k hk fun e=>hs (.inr e.symm)⟩
  have hl7:w7.heap[pl]?=some (.cells #[v0] 30 (0,0)):=(o7.block _ (hLt hl) (fun hk=>by
    rcases hk with hk | hk
    · exact nl hk.symm
    · have:=rg _ hk;omega)).trans hl
  have o8:Ofw (fun k=>k=pl) w7 W8:=by rw [<-h8];exact Ofw.set (S:=fun k=>k=pl) _ rfl
  have nb:∀ {u:Value} {m:Nat} {ys:List Value},W.ownsRow M 3 1 u m ys->W8.ownsRow M 3 1 u m ys:=fun h=>by
    refine x7 (x7 h (fun g hgu hk=>?_) o7) (fun g hgu hk=>?_) o8
    · rcases hk with hk | hk
      · have:=(h.lt g hgu).1;omega
      · exact y1b hr h hk hgu
    · have:=(h.lt g hgu).1;omega
  refine ⟨⟨?_,?_,v',us++[v],?_,?_,fun j u hj=>?_⟩,⟨o8.os.trans o7.os,o8.tape.trans o7.tape,o8.output.trans o7.output,Nat.le_trans o7.size o8.size,fun k hk hs=>?_⟩⟩
  · refine (o8.block _ (by have:=(hLt hG.w);have:=o7.size;omega) (fun e=>nl e)).trans ?_
    have hw1:W1.heap[pw]?=some (.cells #[.bool true] 4 (0,0)):=by
      rw [<-h1];have:=yB hG.w 0 (.bool true);simpa using this
    have hwl:=(hLt hw1);exact (hg.block pw (by simp;omega) (fun e=>by have:=rg pw e.symm;omega)).trans ((Below.heap_alloc _ _ _ hwl).trans hw1)
  · refine (o8.block _ (by have:=(hLt hG.n);have:=o7.size;omega) (fun e=>np e.symm)).trans ?_
    exact (o7.block _ (hLt hG.n) (fun hk=>by
      rcases hk with hk | hk
      · exact nw hk.symm
      · have:=rg _ hk;omega)).trans hG.n
  · rw [<-h8]
    have:=yB hl7 0 v';simpa using this
  · rw [List.length_append,List.length_singleton]
    exact x7 ho (fun g hgv hk=>by have:=(ho.lt g hgv).1;omega) o8
  · have hul:us.length=L.length:=by have:=hr.1;omega
    rcases Nat.lt_or_ge j us.length with h2 | h2
    · rw [List.getElem?_append_left h2] at hj
      obtain ⟨y,hy,hry⟩:=hus j u hj;exact ⟨y,by rw [List.getElem?_append_left (by omega)];exact hy,nb hry⟩
    · rw [List.getElem?_append_right h2] at hj
      have hj0:j-us.length=0:=by
        have:=(List.getElem?_eq_some_iff.1 hj).1;simp at this;omega
      rw [hj0] at hj;have hvu:v=u:=by simpa using hj
      refine ⟨x,?_,by rw [<-hvu];exact nb hx⟩;rw [List.getElem?_append_right (by omega),show j-L.length=0 by omega];rfl
  · have hk7:k<w7.heap.size:=Nat.lt_of_lt_of_le hk o7.size
    refine (o8.block k hk7 fun e=>hs (.inr (.inl e))).trans (o7.block k hk fun e=>?_);rcases e with e | e
    · exact hs (.inl e)
    · exact hs (.inr (.inr (rg _ e)))
theorem y1d (M pw pn pl:Nat) (L:List (List Int)) (x:List Int) (v:Value) (W:World) (hG:GvAt M pw pn pl L W) (hpM:pw<M/\pn<M/\pl<M) (hM:M<=W.heap.size) (hL:L.length<=100000) (hx:W.ownsRow M 3 1 v x.length (x.map (.int .i64))) :
    Calls Tryz.prog 27 #[v,.pointer (some ⟨pw,0,none⟩),.pointer (some ⟨pn,0,none⟩),.pointer (some ⟨pl,0,none⟩)] W fun e W'=>e=.returned (.bool true)/\GvAt M pw pn pl (L++[x]) W'/\Ofw (fun k=>k=pw∨k=pl∨M<=k) W W':=by
  obtain ⟨v0,us,hl,hr,hus⟩:=hG.l;obtain ⟨a0,c0,rfl⟩:=yv hr;obtain ⟨xa,xc,rfl⟩:=yv hx;have nw:pw≠pn:=fun e=>by have h1:=hG.w;rw [e,hG.n] at h1;cases h1
  have nl:pw≠pl:=fun e=>by have h1:=hG.w;rw [e,hl] at h1;cases h1
  obtain ⟨W1,hW1⟩:∃ W1,W.setCell ⟨pw,0,none⟩ (.bool true)=W1:=⟨_,rfl⟩;have k1:∀ k,k≠pw->W1.heap[k]?=W.heap[k]?:=fun k hk=>by rw [<-hW1];exact heap_setCell_other W ⟨pw,0,none⟩ k _ hk
  have hr1:W1.ownsRow M 27 1 (.slice a0 L.length c0) L.length us:=x7 (S:=fun k=>k=pw) hr (fun g hg hk=>by have:=(hr.lt g hg).1;omega) (by rw [<-hW1];exact Ofw.set (S:=fun k=>k=pw) _ rfl);have s1:W1.heap.size=W.heap.size:=by rw [<-hW1];simp
  have hn1:W1.heap[pn]?=some (.cells #[.int .i64 0] 3 (0,0)):=(k1 pn (fun e=>nw e.symm)).trans hG.n;have hl1:W1.heap[pl]?=some (.cells #[.slice a0 L.length c0] 30 (0,0)):=(k1 pl (fun e=>nl e.symm)).trans hl;have cw:=yb hG.w 0;have cn:=yb hG.n 0;have fw:=yl hG.w 0;have cl1:=yb hl1 0;dsimp at cw cn cl1;have HR1:Hid (W1.ownsRow M 27 1 (.slice a0 L.length c0) L.length us):=hr1;have HOne:Hid (∀ u∈([.slice xa x.length xc]:List Value),u.oneCell'=true):=fun u hu=>by rw [List.mem_singleton.1 hu];rfl
  have HE:Hid (∀ w7 v' W8,w7.ownsRow M 27 1 v' (L.length+1) (us++[.slice xa x.length xc])->(W1.alloc (.cells [.slice xa x.length xc].toArray 27)).grownBy w7 (Value.slice a0 L.length c0).ownBlock->(v'.ownBlock=(Value.slice a0 L.length c0).ownBlock∨v'.ownBlock=some (W1.heap.size+1))->w7.setCell ⟨pl,0,none⟩ v'=W8->GvAt M pw pn pl (L++[x]) W8/\Ofw (fun k=>k=pw∨k=pl∨M<=k) W W8):=fun w7 v' W8 h1 h2 h3 h4=>y1c hG hW1 hpM hx hl hr hus h1 h2 h3 h4
  have HP7:Hid (∀ w7,(W1.alloc (.cells [.slice xa x.length xc].toArray 27)).grownBy w7 (Value.slice a0 L.length c0).ownBlock->w7.heap[pl]?=some (.cells #[.slice a0 L.length c0] 30 (0,0))):=fun w7 hg=>by
    have hlt:=(hLt hl1);exact (hg.block pl (by simp;omega) (fun e=>by have:=(hr.lt pl e.symm).1;omega)).trans ((Below.heap_alloc _ _ _ hlt).trans hl1)
  have hM1:M<=W1.heap.size:=by omega
  clear hr hus hx hr1 hl hl1 hn1 k1 s1 nw nl hpM hM;go_enter Tryz.func27,Tryz.ntmps27;go_wp2_with (at_builtin;refine y1e W1 [.slice xa x.length xc] 1 rfl (by decide) rfl (.tmp 17) (.tmp 19) 30 27 (.slice none 0 0) 24 rfl XC XD rfl M _ _ _ (by rfl) HR1.out HOne.out _ rfl (by rfl) (by unfold maxLen;omega) (by omega) hM1 ?_;intro v7 w7 ho7 hg7 hn7;obtain ⟨a7,c7,rfl⟩:=x8 ho7;have hP7:=HP7.out w7 hg7;have y1:=yb hP7 0;have yf:=yl hP7 0;dsimp at y1;obtain ⟨W8,hW8⟩:∃ W8,w7.setCell ⟨pl,0,none⟩ (.slice a7 (L.length+1) c7)=W8:=⟨_,rfl⟩;have HF8:Hid (GvAt M pw pn pl (L++[x]) W8/\Ofw (fun k=>k=pw∨k=pl∨M<=k) W W8):=HE.out w7 _ W8 ho7 hg7 hn7 hW8;have n8:=yb HF8.out.1.n 0;dsimp at n8;clear ho7 hg7 hn7 hP7);go_ret;exact ⟨rfl,HF8.out⟩
theorem y1f (gf:Nat) (lb:Array Value) (W:World):(binOp .eql 34 (.func (.func gf) #[] lb) .nilFunc).run Tryz.prog W=.ok (.bool false) W:=by
  kernel_rfl
def GvO (S:List (List Int)) (w:World) (e:Ending) (W:World):Prop:=∃ v us,e=.returned (.tuple #[v,.bool true])/\Below w.heap.size w W/\W.ownsRow w.heap.size 27 1 v S.length us/\∀ (j:Nat) (u:Value),us[j]?=some u->∃ x:List Int,S[j]?=some x/\W.ownsRow w.heap.size 3 1 u x.length (x.map (.int .i64))
theorem y11 (m:Md.Mo) (w w2:World) (gf:Nat) (lb:Array Value) (hen:∀ args w,(callFunc gf args).run Tryz.prog w=.ok (.enter gf args) w) (hlen:(yt m).length<=100000)
    (hsq:∀ pw pn pl n W,3<=n->w2.heap.size<=W.heap.size->(∀ k,w.heap.size<=k->k<w2.heap.size->W.heap[k]?=w2.heap[k]?)->SeqF pw pn pl n gf lb (fun k=>W.heap.size<=k/\k<W.heap.size+5) (fun k=>(w.heap.size<=k/\k<w2.heap.size)∨(W.heap.size<=k/\k<W.heap.size+5)) (W.heap.size+5) (yt m) W) :
    Calls Tryz.prog 9 #[.func (.func gf) #[] lb,.int .i64 0] w2 (GvO (yt m) w2):=by
  obtain ⟨A1,hA1⟩:∃ A,w2.alloc (.cells #[.int .i64 0] 3)=A:=⟨_,rfl⟩;have z1:A1.heap.size=w2.heap.size+1:=by rw [<-hA1];exact Array.size_push _
  have b1:Below w2.heap.size w2 A1:=bAe hA1;have g1:A1.heap[w2.heap.size]?=some (.cells #[.int .i64 0] 3 (0,0)):=hAe hA1;obtain ⟨A2,hA2⟩:∃ A,A1.alloc (.cells #[.slice none 0 0] 30)=A:=⟨_,rfl⟩;have z2:A2.heap.size=w2.heap.size+2:=by
    have h:A2.heap.size=A1.heap.size+1:=by rw [<-hA2];exact Array.size_push _
    omega
  have b2:Below A1.heap.size A1 A2:=bAe hA2;have g2:A2.heap[w2.heap.size+1]?=some (.cells #[.slice none 0 0] 30 (0,0)):=by rw [<-hA2,<-z1];exact heap_alloc_new A1 _
  obtain ⟨A3,hA3⟩:∃ A,A2.alloc (.cells #[.bool false] 4)=A:=⟨_,rfl⟩;have z3:A3.heap.size=w2.heap.size+3:=by
    have h:A3.heap.size=A2.heap.size+1:=by rw [<-hA3];exact Array.size_push _
    omega
  have b3:Below A2.heap.size A2 A3:=bAe hA3;have g3:A3.heap[w2.heap.size+2]?=some (.cells #[.bool false] 4 (0,0)):=by rw [<-hA3,<-z2];exact heap_alloc_new A2 _
  obtain ⟨A4,hA4⟩:∃ A,A3.setCell ⟨w2.heap.size+2,0,none⟩ (.bool true)=A:=⟨_,rfl⟩;have z4:A4.heap.size=w2.heap.size+3:=by rw [<-hA4];simp [z3]
  have g4:A4.heap[w2.heap.size+2]?=some (.cells #[.bool true] 4 (0,0)):=by
    rw [<-hA4];have:=yB g3 0 (.bool true);simpa using this
  have k4:∀ k,k≠w2.heap.size+2->A4.heap[k]?=A3.heap[k]?:=fun k hk=>by rw [<-hA4];exact heap_setCell_other A3 _ k _ (by exact hk)
  have b13:Below w2.heap.size w2 A3:=ym (ym b1 b2) b3;have b4:Below w2.heap.size w2 A4:=by rw [<-hA4];exact b13.setCell (show w2.heap.size<=w2.heap.size+2 by omega) _
  have gn:A4.heap[w2.heap.size]?=some (.cells #[.int .i64 0] 3 (0,0)):=(k4 _ (by omega)).trans ((b3.block _ (by omega)).trans ((b2.block _ (by omega)).trans g1));have gl:A4.heap[w2.heap.size+1]?=some (.cells #[.slice none 0 0] 30 (0,0)):=(k4 _ (by omega)).trans ((b3.block _ (by omega)).trans g2);have c3:=yb g3 0;have f3:=yl g3 0;dsimp at c3;have hS:=hsq (w2.heap.size+2) w2.heap.size (w2.heap.size+1) 3 A4 (by decide) (by omega) (fun k _ h2=>b4.block k h2);rw [z4] at hS
  have hC:=callsIn_wide.1 (hS (fun pre W=>GvAt (w2.heap.size+3+5) (w2.heap.size+2) w2.heap.size (w2.heap.size+1) pre W/\Below w2.heap.size w2 W/\w2.heap.size+3<=W.heap.size)
    (fun pre A B hs ho=>⟨hs.1.ofw (fun k hk=>by omega) ho,hs.2.1.trans (ho.below (fun k hk=>by omega) (by have:=hs.2.2;omega)),Nat.le_trans hs.2.2 ho.size⟩)
    (fun pre x post v W hx hj hM ho=>(y1d _ _ _ _ pre x v W hj.1 ⟨by omega,by omega,by omega⟩ hM (by rw [hx,List.length_append] at hlen;omega) ho).mono fun e W' ⟨he,hg,hof⟩=>⟨he,⟨hg,hj.2.1.trans (hof.below (fun k hk=>by omega) (by have:=hj.2.2;omega)),Nat.le_trans hj.2.2 hof.size⟩,hof.size,fun k hk=>hof.block k (by have:=hj.2.2;omega) (by omega)⟩)
    ⟨⟨g4,gn,_,[],gl,World.ownsRow_nil _ _ _ _,fun j u h=>by cases h⟩,b4,by omega⟩)
  have HC:Hid (Calls Tryz.prog gf (#[.func (.func 27) #[] #[.pointer (some ⟨w2.heap.size+2,0,none⟩),.pointer (some ⟨w2.heap.size,0,none⟩),.pointer (some ⟨w2.heap.size+1,0,none⟩)]]++lb) A4 fun e W'=>(∃ v,e=.returned v)/\GvAt (w2.heap.size+3+5) (w2.heap.size+2) w2.heap.size (w2.heap.size+1) (yt m) W'/\Below w2.heap.size w2 W'/\w2.heap.size+3<=W'.heap.size):=hC;have hq:∀ W,(binOp .eql 34 (.func (.func gf) #[] lb) .nilFunc).run Tryz.prog W=.ok (.bool false) W:=fun W=>y1f gf lb W
  clear hC hS hsq z3 z4 b1 b2 b3 b4 b13 g1 g2 g3 g4 gn gl k4 hlen;go_enter Tryz.func9,Tryz.ntmps9;go_wp2_with fail
  refine mcA HC.out ?_;rintro e w5 ⟨⟨v5,rfl⟩,hg5,hb5,hz5⟩;obtain ⟨v6,us,hl,hr,hus⟩:=hg5.l;obtain ⟨a6,c6,rfl⟩:=yv hr;have cl:=yb hl 0;have cw:=yb hg5.w 0;dsimp at cl cw
  have HR:Hid (GvO (yt m) w2 (.returned (.tuple #[.slice a6 (yt m).length c6,.bool true])) w5):=⟨_,us,rfl,hb5,yM hr (by omega),fun j u hj=>by
    obtain ⟨x,hx,ho⟩:=hus j u hj
    exact ⟨x,hx,yM ho (by omega)⟩⟩
  have HW:Hid (∀ k,GvO (yt m) w2 (.returned (.tuple #[.slice a6 (yt m).length c6,.bool true])) (w5.drewN k)):=fun k=>by
    obtain ⟨v,us,h1,h2,h3,h4⟩:=HR.out;exact ⟨v,us,h1,Ye h2 k,h3,h4⟩
  clear hg5 hb5 hz5 hl hr hus HC hA1 hA2 hA3 hA4 z1 z2 c3 f3 HR;go_wp2_with fail
  go_quiet (fail)
  go_wp2_with fail
  go_ret2;exact HW.out _
end Go.Proofs.YtjgghimjnbjlbaaGreatDoor

namespace Go.Proofs.YtjgghimjnbjlbaaGreatDoor
open Go Go.RowKit
set_option maxRecDepth 10000
set_option maxHeartbeats 8000000
attribute [local go_sem] Oper.semAt_some
theorem xP {P:Program} {ops:Array Oper} {S:World->Prop} {o:Oper} {a:Act} (ty:TypeId) (x:Operand) (ho:o.op=.load ty x) (g:Nat) (hx:a.eval x=.pointer (some ⟨g,0,none⟩)) (t:TypeId) (cs:Array Value) (fr:Nat × Nat) (d:TypeDesc) (hS:∀ w,S w->w.heap[g]?=some (.cells cs t fr))
    (hu:P.underlying ty=some d) (hd:(match d with | .struct _ | .array _ _=>true | _=>false)=true) (hi:(P.info? ty).map (·.size)=some cs.size) (hw:Region.wanted o (yielded ops a.tmps)=true):YieldsIf P ops S o (.agg cs) a:=
  .inl ⟨hw,fun w h=>by
    have hg:=hS w h;unfold execOp
    simp only [ho,hx,Instr.loadAt,Instr.sureAddr,Sem.run_bind,Sem.run_pure,Result.andThen_ok,run_loadVar_row w g t ty cs fr d hg hu hd hi]⟩
theorem Yu {a b:Bool} (h:a=b):Value.bool a=Value.bool b:=by rw [h]
theorem xQ:(Tryz.prog.info? 26).map (·.size)=some 4:=by kernel_rfl
theorem Xn (m:Md.Mo):(yt m).length<=100000:=by
  unfold yt
  split
  · rename_i hp
    have h1:=Xo hp;have h2:(yI m).length<=(allV m.vars).length:=List.length_filter_le _ _;omega
  · exact Nat.zero_le _
theorem y0Y {m:Md.Mo} (h:(Md.product m 100000).2=false):yt m=[]:=by
  unfold yt;rw [if_neg (by rw [h];decide)]
structure TF (w:World) (N p:Nat) (m:Md.Mo) (vv vc vg:Value) (S:List (List Int)) (a5:Option Addr) (kd wo:Int) (vz:Value) (z:List Int) (vx:Value) (l:List Int) (wr:World):Prop where
  below:Below w.heap.size w wr
  mbox:wr.heap[N]?=some (.cells #[vv,vc,.bool m.has,vg] 26 (0,0))
  vbox:wr.heap[p]?=some (.cells #[.int .i64 kd,.int .i64 0,.int .i64 wo,.int .i64 0,vz] 39 (0,0))
  mo:MoAt wr m vv vc vg
  row:∀ j (h:j<S.length),∃ g u,a5=some ⟨g,0,none⟩/\wr.cell? ⟨g,j,none⟩=some u/\MInts wr u S[j]
  val:MInts wr vz z
  any:MInts wr vx l
theorem TF.next {w wr w2:World} {N p:Nat} {m:Md.Mo} {vv vc vg:Value} {S:List (List Int)} {a5:Option Addr} {kd wo:Int} {vz:Value} {z:List Int} {vx:Value} {l:List Int} (h:TF w N p m vv vc vg S a5 kd wo vz z vx l wr) (hb:Below wr.heap.size wr w2):TF w N p m vv vc vg S a5 kd wo vz z vx l w2:=by
  refine ⟨ym h.below hb,(hb.block _ (hLt h.mbox)).trans h.mbox,(hb.block _ (hLt h.vbox)).trans h.vbox,h.mo.below hb,fun j hj=>?_,h.val.below hb,h.any.below hb⟩;obtain ⟨g,u,e,hc,hm⟩:=h.row j hj;exact ⟨g,u,e,(hb.cell (p:=⟨g,j,none⟩) (World.block_lt_of_cell? wr _ hc)).trans hc,hm.below hb⟩
theorem y0Z {W:World} {B:Nat} {a5:Option Addr} {c5:Nat} {S:List (List Int)} {us:List Value} (hr:W.ownsRow B 27 1 (.slice a5 S.length c5) S.length us) (hus:∀ (j:Nat) (u:Value),us[j]?=some u->∃ x:List Int,S[j]?=some x/\W.ownsRow B 3 1 u x.length (x.map (.int .i64))):∀ j (h:j<S.length),∃ g u,a5=some ⟨g,0,none⟩/\W.cell? ⟨g,j,none⟩=some u/\MInts W u S[j]:=by
  intro j hj;have hul:us.length=S.length:=by have:=hr.1;omega
  rcases zZ hr with ⟨e,h0⟩ | ⟨g,cap,e,_,_,_,hc⟩
  · omega
  · injection e with e1 _ _
    obtain ⟨x,hx,ho⟩:=hus j us[j] (List.getElem?_eq_getElem (by omega));have hx':S[j]=x:=by rw [List.getElem?_eq_getElem hj] at hx;exact Option.some.inj hx
    refine ⟨g,us[j],e1,hc j _ (List.getElem?_eq_getElem (by omega)),?_⟩;rw [hx'];exact Yf ho
theorem y10 (m:Md.Mo) (vv vc vg vx:Value) (l:List Int) (w:World) (h:MoAt w m vv vc vg) (hx:MInts w vx l) (hg:Gl w):Calls Tryz.prog 3 #[yp m vv vc vg,vx] w fun e w'=>e=.returned (.bool true)/\Below w.heap.size w w':=by
  obtain ⟨va,vp,rfl,hvm⟩:=h.v.form;obtain ⟨ca,cp,rfl,hcm⟩:=h.c.form;obtain ⟨ga,gp,rfl,hgm⟩:=h.g.form;obtain ⟨xa,xc,rfl,hxm⟩:=hx.form;obtain ⟨W,hW⟩:∃ W,w.alloc (.cells #[.slice va m.vars.length vp,.slice ca m.cons.length cp,.bool m.has,.slice ga m.goal.length gp] 26)=W:=⟨_,rfl⟩;have hbW:Below w.heap.size w W:=bAe hW;have hN:W.heap[w.heap.size]?=some (.cells #[.slice va m.vars.length vp,.slice ca m.cons.length cp,.bool m.has,.slice ga m.goal.length gp] 26 (0,0)):=hAe hW;have hNl:w.heap.size<W.heap.size:=(hLt hN);have HB:Hid (Below w.heap.size w W):=hbW;have HM:Hid (∀ w',Below w.heap.size w w'->MoAt w' m (.slice va m.vars.length vp) (.slice ca m.cons.length cp) (.slice ga m.goal.length gp)):=fun w' hb=>h.below hb
  have HX:Hid (∀ w',Below w.heap.size w w'->MInts w' (.slice xa l.length xc) l):=fun w' hb=>hx.below hb
  have HN:Hid (∀ w',Below W.heap.size W w'->w'.heap[w.heap.size]?=some (.cells #[.slice va m.vars.length vp,.slice ca m.cons.length cp,.bool m.has,.slice ga m.goal.length gp] 26 (0,0))):=fun w' hb=>(hb.block _ hNl).trans hN
  have HG:Hid (∀ W,Below w.heap.size w W->Gl W):=fun W hb=>hg.next hb
  have HFew:Hid (Calls Tryz.prog 7 #[.agg #[.slice va m.vars.length vp,.slice ca m.cons.length cp,.bool m.has,.slice ga m.goal.length gp]] W fun e w'=>∃ b,e=.returned (.bool b)/\(b=true->zS m<=20000)/\Below W.heap.size W w'):=y0v m _ _ _ W (h.below hbW);obtain ⟨⟨p0,p1,p2,p3⟩,_⟩:=box4 hN;unfold yp;clear h hx hbW hN hNl hg hvm hcm hgm hxm;go_enter Tryz.func3,Tryz.ntmps3;go_wp2_with fail
  refine mcA HFew.out ?_;rintro e w1 ⟨bf,rfl,_,hb1⟩;have HT1:Hid (Below W.heap.size W w1):=hb1;clear hb1 HFew p0 p1 p2 p3 hW
  cases bf
  · go_wp2_with fail
    go_ret;exact ⟨rfl,HB.out.trans (HT1.out.mono HB.out.size)⟩
  have HK:Hid (Calls Tryz.prog 8 #[] w1 fun e w'=>e=.returned (.bool true)/\Below w1.heap.size w1 w'):=known_any w1 (HG.out w1 (HB.out.trans (HT1.out.mono HB.out.size)));go_wp2_with fail
  refine mcA HK.out ?_;rintro e w3 ⟨rfl,hb3⟩;have HT3:Hid (Below W.heap.size W w3):=HT1.out.trans (hb3.mono HT1.out.size);have HB3:Hid (Below w.heap.size w w3):=HB.out.trans (HT3.out.mono HB.out.size);clear hb3 HT1 HK HG;obtain ⟨⟨p0,p1,p2,p3⟩,_⟩:=box4 (HN.out w3 HT3.out);have HSl:Hid (Calls Tryz.prog 10 #[.agg #[.slice va m.vars.length vp,.slice ca m.cons.length cp,.bool m.has,.slice ga m.goal.length gp]] w3 (Xi w3 m)):=y0R m _ _ _ w3 (HM.out w3 HB3.out);go_wp2_with fail
  refine mcA HSl.out ?_;rintro e w4 ⟨gf,lb,rfl,hen,hb4,hsq⟩;have HGv:Hid (Calls Tryz.prog 9 #[.func (.func gf) #[] lb,.int .i64 0] w4 (GvO (yt m) w4)):=y11 m w3 w4 gf lb hen (Xn m) hsq;have HB4:Hid (Below w.heap.size w w4):=ym HB3.out hb4;have HT4:Hid (Below W.heap.size W w4):=ym HT3.out hb4;clear hb4 hsq hen HSl p0 p1 p2 p3;go_wp2_with fail
  refine mcA HGv.out ?_;rintro e w5 ⟨v5,us,rfl,hb5,hr5,hus5⟩;obtain ⟨a5,c5,rfl⟩:=yv hr5;obtain ⟨S,hS⟩:∃ S,yt m=S:=⟨_,rfl⟩;have HSe:Hid (yt m=S):=hS;have HSf:Hid (S.length<=100000):=by show _<=_;rw [<-hS];exact Xn m
  rw [hS] at hr5 hus5 ⊢;have HR5:Hid (∀ j (h:j<S.length),∃ g u,a5=some ⟨g,0,none⟩/\w5.cell? ⟨g,j,none⟩=some u/\MInts w5 u S[j]):=y0Z hr5 hus5;have HB5:Hid (Below w.heap.size w w5):=ym HB4.out hb5;have HT5:Hid (Below W.heap.size W w5):=ym HT4.out hb5;clear hb5 hr5 hus5 HGv HB4 HT4 HB3 HT3 hS;obtain ⟨⟨p0,p1,p2,p3⟩,_⟩:=box4 (HN.out w5 HT5.out);have HCn:Hid (Calls Tryz.prog 11 #[.agg #[.slice va m.vars.length vp,.slice ca m.cons.length cp,.bool m.has,.slice ga m.goal.length gp]] w5 fun e w'=>e=.returned (.tuple #[.int .i64 (S.length:Int),.bool (Md.product m 100000).2])/\Below w5.heap.size w5 w'):=by
    have:=Zh m _ _ _ w5 (HM.out w5 HB5.out);rw [HSe.out] at this;exact this
  go_wp2_with fail
  refine mcA HCn.out ?_;rintro e w6 ⟨rfl,hb6⟩;have HB6:Hid (Below w.heap.size w w6):=ym HB5.out hb6;have HT6:Hid (Below W.heap.size W w6):=ym HT5.out hb6;have HR6:Hid (∀ j (h:j<S.length),∃ g u,a5=some ⟨g,0,none⟩/\w6.cell? ⟨g,j,none⟩=some u/\MInts w6 u S[j]):=fun j hj=>by
    obtain ⟨g,u,e,hc,hm⟩:=HR5.out j hj;exact ⟨g,u,e,(hb6.cell (p:=⟨g,j,none⟩) (World.block_lt_of_cell? w5 _ hc)).trans hc,hm.below hb6⟩
  clear hb6 HCn HB5 HT5 HR5 p0 p1 p2 p3;obtain ⟨⟨p0,p1,p2,p3⟩,_⟩:=box4 (HN.out w6 HT6.out);have HAn:Hid (Calls Tryz.prog 12 #[.agg #[.slice va m.vars.length vp,.slice ca m.cons.length cp,.bool m.has,.slice ga m.goal.length gp]] w6 (AnO m w6)):=Zi m _ _ _ w6 (HM.out w6 HB6.out);have HAl:Hid (∀ w',Below w.heap.size w w'->Calls Tryz.prog 13 #[.agg #[.slice va m.vars.length vp,.slice ca m.cons.length cp,.bool m.has,.slice ga m.goal.length gp]] w' (AlO m w')):=fun w' hb=>Xp m _ _ _ w' (HM.out w' hb)
  go_wp2_with fail
  refine mcA HAn.out ?_;intro e w7 h7;obtain ⟨hb7,h7⟩:=h7;have HB7:Hid (Below w.heap.size w w7):=ym HB6.out hb7;have HT7:Hid (Below W.heap.size W w7):=ym HT6.out hb7;have HR7:Hid (∀ j (h:j<S.length),∃ g u,a5=some ⟨g,0,none⟩/\w7.cell? ⟨g,j,none⟩=some u/\MInts w7 u S[j]):=fun j hj=>by
    obtain ⟨g,u,e,hc,hm⟩:=HR6.out j hj;exact ⟨g,u,e,(hb7.cell (p:=⟨g,j,none⟩) (World.block_lt_of_cell? w6 _ hc)).trans hc,hm.below hb7⟩
  clear hb7 HAn HB6 HT6 HR6 p0 p1 p2 p3;rcases h7 with ⟨hp,rfl⟩ | ⟨hp,v7,B7,rfl,hB7,ho7⟩
  · have HP:Hid ((Md.product m 100000).2=false):=hp
    obtain rfl:S=[]:=by rw [<-HSe.out,y0Y hp]
    rw [hp];obtain ⟨X,hX⟩:∃ X,w7.alloc (.cells #[.int .i64 0,.int .i64 0,.int .i64 0,.int .i64 0,.slice none 0 0] 39)=X:=⟨_,rfl⟩;have hbX:Below w7.heap.size w7 X:=bAe hX;have hgX:X.heap[w7.heap.size]?=some (.cells #[.int .i64 0,.int .i64 0,.int .i64 0,.int .i64 0,.slice none 0 0] 39 (0,0)):=hAe hX;obtain ⟨X1,hX1⟩:∃ X1,X.setRow w7.heap.size #[.int .i64 0,.int .i64 0,.int .i64 0,.int .i64 0,.slice none 0 0]=X1:=⟨_,rfl⟩;have hg1:X1.heap[w7.heap.size]?=some (.cells #[.int .i64 0,.int .i64 0,.int .i64 0,.int .i64 0,.slice none 0 0] 39 (0,0)):=by rw [<-hX1];exact setRow_heap X _ _ _ _ _ hgX
    have hb1:Below w7.heap.size w7 X1:=by rw [<-hX1];exact hbX.trans ⟨rfl,rfl,rfl,by simp [World.setRow],fun k hk=>setRow_other X _ k _ (by omega)⟩
    have HGX:Hid (X.heap[w7.heap.size]?=some (.cells #[.int .i64 0,.int .i64 0,.int .i64 0,.int .i64 0,.slice none 0 0] 39 (0,0))):=hgX;have HG1:Hid (X1.heap[w7.heap.size]?=some (.cells #[.int .i64 0,.int .i64 0,.int .i64 0,.int .i64 0,.slice none 0 0] 39 (0,0))):=hg1;have HB8:Hid (Below w.heap.size w X1):=ym HB7.out hb1;obtain ⟨⟨p0,p1,p2,p3⟩,_⟩:=box4 (HN.out X1 (ym HT7.out hb1));clear hbX hgX hg1 hb1 hp HSe;go_wp2_with (refine wpList_store_row rfl 39 (.tmp 9) (.tmp 35) rfl w7.heap.size #[.int .i64 0,.int .i64 0,.int .i64 0,.int .i64 0,.slice none 0 0] (by rfl) (by rfl) 39 #[.int .i64 0,.int .i64 0,.int .i64 0,.int .i64 0,.slice none 0 0] HGX.out infV rfl (by simp [Value.oneCell']) ?_;rw [hX1]);refine mcA (HAl.out X1 HB8.out) ?_;intro e w8 h8;obtain ⟨hb8,h8⟩:=h8;rcases h8 with ⟨_,rfl⟩ | ⟨hp,_⟩
    rotate_left
    · rw [HP.out] at hp;cases hp
    obtain ⟨Y,hY⟩:∃ Y,w8.alloc (.cells #[.int .i64 0,.int .i64 0,.int .i64 0,.int .i64 0,.slice none 0 0] 39)=Y:=⟨_,rfl⟩;have hbY:Below w8.heap.size w8 Y:=bAe hY;have hgY:Y.heap[w8.heap.size]?=some (.cells #[.int .i64 0,.int .i64 0,.int .i64 0,.int .i64 0,.slice none 0 0] 39 (0,0)):=hAe hY;obtain ⟨Y1,hY1⟩:∃ Y1,Y.setRow w8.heap.size #[.int .i64 0,.int .i64 0,.int .i64 0,.int .i64 0,.slice none 0 0]=Y1:=⟨_,rfl⟩;have hb1:Below w8.heap.size w8 Y1:=by rw [<-hY1];exact hbY.trans ⟨rfl,rfl,rfl,by simp [World.setRow],fun k hk=>setRow_other Y _ k _ (by omega)⟩
    have HGY:Hid (Y.heap[w8.heap.size]?=some (.cells #[.int .i64 0,.int .i64 0,.int .i64 0,.int .i64 0,.slice none 0 0] 39 (0,0))):=hgY;have hg2:Y1.heap[w7.heap.size]?=some (.cells #[.int .i64 0,.int .i64 0,.int .i64 0,.int .i64 0,.slice none 0 0] 39 (0,0)):=by
      have h1:=(hb8.block _ (hLt HG1.out)).trans HG1.out;exact (hb1.block _ (hLt h1)).trans h1
    have c0:=yb hg2 0;dsimp at c0;have HB9:Hid (Below w.heap.size w Y1):=ym (ym HB8.out hb8) hb1;clear hbY hgY hb1 hg2 hb8 HG1 HP p0 p1 p2 p3 hX hX1;go_wp2_with (refine wpList_store_row rfl 39 (.tmp 11) (.tmp 40) rfl w8.heap.size #[.int .i64 0,.int .i64 0,.int .i64 0,.int .i64 0,.slice none 0 0] (by rfl) (by rfl) 39 #[.int .i64 0,.int .i64 0,.int .i64 0,.int .i64 0,.slice none 0 0] HGY.out infV rfl (by simp [Value.oneCell']) ?_;rw [hY1]);go_ret;exact ⟨rfl,HB9.out⟩
  obtain ⟨kd,hkd⟩:∃ k,(ansD m).1=k:=⟨_,rfl⟩;obtain ⟨wo,hwo⟩:∃ k,(ansD m).2.1=k:=⟨_,rfl⟩;obtain ⟨z,hz⟩:∃ k,(ansD m).2.2=k:=⟨_,rfl⟩;have HTr:Hid (TrueAt m S (kd,wo,z) l):=by
    have:=y12 m l hp;rw [HSe.out] at this;have e:ansD m=(kd,wo,z):=by rw [<-hkd,<-hwo,<-hz]
    rw [e] at this;exact this
  have HP:Hid ((Md.product m 100000).2=true):=hp;rw [hkd,hwo,hp];rw [hz] at ho7;obtain ⟨az,cz,rfl⟩:=yv ho7;have hmz:MInts w7 (.slice az z.length cz) z:=Yf ho7;dsimp only [vdC];obtain ⟨X,hX⟩:∃ X,w7.alloc (.cells #[.int .i64 0,.int .i64 0,.int .i64 0,.int .i64 0,.slice none 0 0] 39)=X:=⟨_,rfl⟩;have hbX:Below w7.heap.size w7 X:=bAe hX;have hgX:X.heap[w7.heap.size]?=some (.cells #[.int .i64 0,.int .i64 0,.int .i64 0,.int .i64 0,.slice none 0 0] 39 (0,0)):=hAe hX;obtain ⟨X1,hX1⟩:∃ X1,X.setRow w7.heap.size #[.int .i64 kd,.int .i64 0,.int .i64 wo,.int .i64 0,.slice az z.length cz]=X1:=⟨_,rfl⟩;have hg1:X1.heap[w7.heap.size]?=some (.cells #[.int .i64 kd,.int .i64 0,.int .i64 wo,.int .i64 0,.slice az z.length cz] 39 (0,0)):=by rw [<-hX1];exact setRow_heap X _ _ _ _ _ hgX
  have hb1:Below w7.heap.size w7 X1:=by rw [<-hX1];exact hbX.trans ⟨rfl,rfl,rfl,by simp [World.setRow],fun k hk=>setRow_other X _ k _ (by omega)⟩
  have HGX:Hid (X.heap[w7.heap.size]?=some (.cells #[.int .i64 0,.int .i64 0,.int .i64 0,.int .i64 0,.slice none 0 0] 39 (0,0))):=hgX;have HB8:Hid (Below w.heap.size w X1):=ym HB7.out hb1;obtain ⟨p,hpp⟩:∃ p,w7.heap.size=p:=⟨_,rfl⟩
  have HTF:Hid (TF w w.heap.size p m (.slice va m.vars.length vp) (.slice ca m.cons.length cp) (.slice ga m.goal.length gp) S a5 kd wo (.slice az z.length cz) z (.slice xa l.length xc) l X1):=⟨HB8.out,HN.out X1 (ym HT7.out hb1),by rw [<-hpp];exact hg1,HM.out X1 HB8.out,fun j hj=>by
    obtain ⟨g,u,e,hc,hm⟩:=HR7.out j hj
    exact ⟨g,u,e,(hb1.cell (p:=⟨g,j,none⟩) (World.block_lt_of_cell? w7 _ hc)).trans hc,hm.below hb1⟩,hmz.below hb1,HX.out X1 HB8.out⟩
  have HPp:Hid (w7.heap.size=p):=hpp;obtain ⟨⟨p0,p1,p2,p3⟩,_⟩:=box4 HTF.out.mbox;clear hbX hgX hg1 hb1 hp hmz ho7 hB7 hkd hwo hz hpp HR7 HT7 HB7 HN HX;go_wp2_with (refine wpList_store_row rfl 39 (.tmp 9) (.tmp 35) rfl w7.heap.size #[.int .i64 kd,.int .i64 0,.int .i64 wo,.int .i64 0,.slice az z.length cz] (by rfl) (by rfl) 39 #[.int .i64 0,.int .i64 0,.int .i64 0,.int .i64 0,.slice none 0 0] HGX.out infV rfl (by simp [Value.oneCell']) ?_;rw [hX1]);refine mcA (HAl.out X1 HB8.out) ?_;intro e w8 h8;obtain ⟨hb8,h8⟩:=h8;rcases h8 with ⟨hp,_⟩ | ⟨_,rfl⟩
  · rw [HP.out] at hp;cases hp
  have HTG:Hid (TF w w.heap.size p m (.slice va m.vars.length vp) (.slice ca m.cons.length cp) (.slice ga m.goal.length gp) S a5 kd wo (.slice az z.length cz) z (.slice xa l.length xc) l w8):=HTF.out.next hb8;rw [HPp.out];rw [HSe.out];clear hb8 HTF HAl HB8 HGX hX hX1 HPp HP HSe p0 p1 p2 p3;dsimp only [vdC];obtain ⟨Y,hY⟩:∃ Y,w8.alloc (.cells #[.int .i64 0,.int .i64 0,.int .i64 0,.int .i64 0,.slice none 0 0] 39)=Y:=⟨_,rfl⟩;have hbY:Below w8.heap.size w8 Y:=bAe hY;have hgY:Y.heap[w8.heap.size]?=some (.cells #[.int .i64 0,.int .i64 0,.int .i64 0,.int .i64 0,.slice none 0 0] 39 (0,0)):=hAe hY;obtain ⟨Y1,hY1⟩:∃ Y1,Y.setRow w8.heap.size #[.int .i64 6,.int .i64 0,.int .i64 0,.int .i64 (S.length:Int),.slice none 0 0]=Y1:=⟨_,rfl⟩
  have hg1:Y1.heap[w8.heap.size]?=some (.cells #[.int .i64 6,.int .i64 0,.int .i64 0,.int .i64 (S.length:Int),.slice none 0 0] 39 (0,0)):=by rw [<-hY1];exact setRow_heap Y _ _ _ _ _ hgY
  have hb1:Below w8.heap.size w8 Y1:=by rw [<-hY1];exact hbY.trans ⟨rfl,rfl,rfl,by simp [World.setRow],fun k hk=>setRow_other Y _ k _ (by omega)⟩
  have HGY:Hid (Y.heap[w8.heap.size]?=some (.cells #[.int .i64 0,.int .i64 0,.int .i64 0,.int .i64 0,.slice none 0 0] 39 (0,0))):=hgY;have HTH:Hid (TF w w.heap.size p m (.slice va m.vars.length vp) (.slice ca m.cons.length cp) (.slice ga m.goal.length gp) S a5 kd wo (.slice az z.length cz) z (.slice xa l.length xc) l Y1):=HTG.out.next hb1;have HSv:Hid (Calls Tryz.prog 14 #[.agg #[.int .i64 6,.int .i64 0,.int .i64 0,.int .i64 (S.length:Int),.slice none 0 0],.agg #[.int .i64 6,.int .i64 0,.int .i64 0,.int .i64 (S.length:Int),.slice none 0 0]] Y1 fun e w'=>e=.returned (.bool true)/\Below Y1.heap.size Y1 w'):=Yv 6 0 (S.length:Int) _ _ [] Y1 (Yw Y1) (Yw Y1);have e0:=yb hg1 0;have e1:=yb hg1 1;have e2:=yb hg1 2;have e3:=yb hg1 3;have e4:=yb hg1 4;dsimp at e0 e1 e2 e3 e4;clear hbY hgY hg1 hb1 HTG
  go_wp2_with (refine wpList_store_row rfl 39 (.tmp 11) (.tmp 40) rfl w8.heap.size #[.int .i64 6,.int .i64 0,.int .i64 0,.int .i64 (S.length:Int),.slice none 0 0] (by rfl) (by rfl) 39 #[.int .i64 0,.int .i64 0,.int .i64 0,.int .i64 0,.slice none 0 0] HGY.out infV rfl (by simp [Value.oneCell']) ?_;rw [hY1]);refine mcA HSv.out ?_;rintro e w9 ⟨rfl,hb9⟩;have HTI:Hid (TF w w.heap.size p m (.slice va m.vars.length vp) (.slice ca m.cons.length cp) (.slice ga m.goal.length gp) S a5 kd wo (.slice az z.length cz) z (.slice xa l.length xc) l w9):=HTH.out.next hb9;clear hb9 HTH HSv HGY hY hY1 e0 e1 e2 e3 e4;go_wp2_with fail
  go_loopw [13,14,15] (fun av mv iv wr=>∃ i:Nat,iv=.int .i64 (i:Int)/\i<=S.length/\Hid (av=.bool ((S.take i).any (·==z)))/\Hid (mv=.bool ((S.take i).any (·==l)))/\Hid (TF w w.heap.size p m (.slice va m.vars.length vp) (.slice ca m.cons.length cp) (.slice ga m.goal.length gp) S a5 kd wo (.slice az z.length cz) z (.slice xa l.length xc) l wr)) (fun _ _ iv _=>S.length-(intOf iv).toNat)
  case atStart=>exact ⟨0,rfl,Nat.zero_le _,rfl,rfl,HTI.out⟩
  case round=>
  obtain ⟨i,rfl,hi,HAv,HMv,HTf⟩:=hrel;clear HTI;obtain ⟨am,ham⟩:∃ b,(S.take i).any (·==z)=b:=⟨_,rfl⟩;obtain ⟨mn,hmn⟩:∃ b,(S.take i).any (·==l)=b:=⟨_,rfl⟩;have hav:=HAv.out;have hmv:=HMv.out;rw [ham] at hav;rw [hmn] at hmv;subst hav hmv;have HAm:Hid ((S.take i).any (·==z)=am):=ham;have HMn:Hid ((S.take i).any (·==l)=mn):=hmn;clear HAv HMv ham hmn
  by_cases hin:i<S.length
  · have hiI:(i:Int)<(S.length:Int):=by omega
    obtain ⟨x,hxS⟩:∃ x,S[i]=x:=⟨_,rfl⟩;have HAx:Hid (∀ y,(S.take (i+1)).any (·==y)=((S.take i).any (·==y)||(x==y))):=fun y=>by rw [y13 hin,hxS]
    have HSx:Hid (Md.solution m x=true):=by show _=_;rw [<-hxS];exact HTr.out.sol i hin
    have HWx:Hid (m.has=true->¬ Md.worth m x<wo):=fun hh=>by rw [<-hxS];exact HTr.out.least hh i hin
    have HPx:Hid (∀ k (hk:k<S.length),i=k+1->zm S[k] x=true):=fun k hk e=>by
      subst e;rw [<-hxS];exact HTr.out.rise k hin
    have HRx:Hid (∀ wr,TF w w.heap.size p m (.slice va m.vars.length vp) (.slice ca m.cons.length cp) (.slice ga m.goal.length gp) S a5 kd wo (.slice az z.length cz) z (.slice xa l.length xc) l wr->∃ g ua uc,a5=some ⟨g,0,none⟩/\wr.cell? ⟨g,i,none⟩=some (.slice ua x.length uc)/\MInts wr (.slice ua x.length uc) x):=fun wr h=>by
      obtain ⟨g,u,e1,e2,e3⟩:=h.row i hin;rw [hxS] at e3;obtain ⟨ua,uc,rfl,_⟩:=id e3;exact ⟨g,ua,uc,e1,e2,e3⟩
    clear hxS;go_upto_region 17 with fail
    go_cut [124] from 86 to 124 (fun v wx=>v=.bool false/\Hid (TF w w.heap.size p m (.slice va m.vars.length vp) (.slice ca m.cons.length cp) (.slice ga m.goal.length gp) S a5 kd wo (.slice az z.length cz) z (.slice xa l.length xc) l wx))
    case first=>
      obtain ⟨g,ua,uc,rfl,hc1,hm1⟩:=HRx.out wr HTf.out;have HC1:Hid (∀ w',Below wr.heap.size wr w'->w'.cell? ⟨g,i,none⟩=some (.slice ua x.length uc)/\MInts w' (.slice ua x.length uc) x):=fun w' hb=>⟨(hb.cell (p:=⟨g,i,none⟩) (World.block_lt_of_cell? wr _ hc1)).trans hc1,hm1.below hb⟩
      have HSol:Hid (∀ w',TF w w.heap.size p m (.slice va m.vars.length vp) (.slice ca m.cons.length cp) (.slice ga m.goal.length gp) S (some ⟨g,0,none⟩) kd wo (.slice az z.length cz) z (.slice xa l.length xc) l w'->MInts w' (.slice ua x.length uc) x->Calls Tryz.prog 15 #[.agg #[.slice va m.vars.length vp,.slice ca m.cons.length cp,.bool m.has,.slice ga m.goal.length gp],.slice ua x.length uc] w' fun e w''=>e=.returned (.bool true)/\Below w'.heap.size w' w''):=fun w' h hm=>by
        have:=Xq m _ _ _ _ x w' h.mo hm;rw [HSx.out] at this;exact this
      have HWo:Hid (∀ w',TF w w.heap.size p m (.slice va m.vars.length vp) (.slice ca m.cons.length cp) (.slice ga m.goal.length gp) S (some ⟨g,0,none⟩) kd wo (.slice az z.length cz) z (.slice xa l.length xc) l w'->MInts w' (.slice ua x.length uc) x->Calls Tryz.prog 17 #[.agg #[.slice va m.vars.length vp,.slice ca m.cons.length cp,.bool m.has,.slice ga m.goal.length gp],.slice ua x.length uc] w' fun e w''=>e=.returned (.int .i64 (Md.worth m x))/\Below w'.heap.size w' w''):=fun w' h hm=>Zj m _ _ _ _ x w' h.mo hm
      clear hc1 hm1
      by_cases hi0:0<i
      · obtain ⟨k,hk⟩:∃ k,i=k+1:=⟨i-1,by omega⟩
        have hkS:k<S.length:=by omega
        obtain ⟨y,hy⟩:∃ y,S[k]=y:=⟨_,rfl⟩;have hah:=HPx.out k hkS hk;rw [hy] at hah;obtain ⟨g',u',e1,hck,hmk⟩:=HTf.out.row k hkS;injection e1 with e1;injection e1 with e1;subst e1;rw [hy] at hmk;obtain ⟨ya,yc,rfl,_⟩:=id hmk;have HCk:Hid (∀ w',Below wr.heap.size wr w'->w'.cell? ⟨g,k,none⟩=some (.slice ya y.length yc)/\MInts w' (.slice ya y.length yc) y):=fun w' hb=>⟨(hb.cell (p:=⟨g,k,none⟩) (World.block_lt_of_cell? wr _ hck)).trans hck,hmk.below hb⟩
        have HAh:Hid (∀ w',Below wr.heap.size wr w'->Calls Tryz.prog 16 #[.slice ya y.length yc,.slice ua x.length uc] w' fun e w''=>e=.returned (.bool true)/\Below w'.heap.size w' w''):=fun w' hb=>by
          have:=y0X _ _ y x w' (HCk.out w' hb).2 (HC1.out w' hb).2;rw [hah] at this;exact this
        have hw1:wrap64 ((i:Int)-1)=(k:Int):=by unfold wrap64;have:=HSf.out;omega
        have hw2:IntKind.i64.wrap ((i:Int)-1)=(k:Int):=by rw [wr64];exact hw1
        have hkI:(k:Int)<(S.length:Int):=by omega
        have hi0I:(0:Int)<(i:Int):=by omega
        have hid:decide (0<i)=true:=decide_eq_true hi0;have hidI:decide ((0:Int)<(i:Int))=true:=decide_eq_true hi0I;have HKi:Hid (i=k+1):=hk;clear hk hy hah hck hmk hkS;rcases Bool.eq_false_or_eq_true m.has with hhas | hhas
        rotate_left
        · skip
          have HMb:Hid (∀ w',TF w w.heap.size p m (.slice va m.vars.length vp) (.slice ca m.cons.length cp) (.slice ga m.goal.length gp) S (some ⟨g,0,none⟩) kd wo (.slice az z.length cz) z (.slice xa l.length xc) l w'->w'.heap[w.heap.size]?=some (.cells #[.slice va m.vars.length vp,.slice ca m.cons.length cp,.bool false,.slice ga m.goal.length gp] 26 (0,0))):=fun w' T=>by
            have:=T.mbox;rw [hhas] at this;exact this
          have hSo:=HSol.out;rw [hhas] at hSo;have HSo:Hid (∀ w',TF w w.heap.size p m (.slice va m.vars.length vp) (.slice ca m.cons.length cp) (.slice ga m.goal.length gp) S (some ⟨g,0,none⟩) kd wo (.slice az z.length cz) z (.slice xa l.length xc) l w'->MInts w' (.slice ua x.length uc) x->Calls Tryz.prog 15 #[.agg #[.slice va m.vars.length vp,.slice ca m.cons.length cp,.bool false,.slice ga m.goal.length gp],.slice ua x.length uc] w' fun e w''=>e=.returned (.bool true)/\Below w'.heap.size w' w''):=hSo;clear hSo hhas HSol HWo;have HT0:Hid (TF w w.heap.size p m (.slice va m.vars.length vp) (.slice ca m.cons.length cp) (.slice ga m.goal.length gp) S (some ⟨g,0,none⟩) kd wo (.slice az z.length cz) z (.slice xa l.length xc) l wr.drew):=HTf.out.next (Below.refl _ _).drew;have HB0:Hid (Below wr.heap.size wr wr.drew):=(Below.refl _ _).drew
          refine zt (fun w'=>w'.heap[w.heap.size]?=some (.cells #[.slice va m.vars.length vp,.slice ca m.cons.length cp,.bool false,.slice ga m.goal.length gp] 26 (0,0))/\w'.cell? ⟨w.heap.size,2,none⟩=some (.bool false)/\w'.cell? ⟨g,i,none⟩=some (.slice ua x.length uc)/\w'.cell? ⟨p,2,none⟩=some (.int .i64 wo)/\w'.cell? ⟨g,k,none⟩=some (.slice ya y.length yc)) (fun _=>True) [] (by kernel_rfl) ⟨⟨HMb.out wr.drew HT0.out,yb (HMb.out wr.drew HT0.out) 2,(HC1.out wr.drew HB0.out).1,yb HT0.out.vbox 2,(HCk.out wr.drew HB0.out).1⟩,trivial⟩ (fun hHeld=>?_)
          refine zL (i:=0) (oi:=⟨some 86,.load 26 (.tmp 2),_,_,_,_⟩) (v:=.agg #[.slice va m.vars.length vp,.slice ca m.cons.length cp,.bool false,.slice ga m.goal.length gp]) rfl (by kernel_rfl) (by kernel_rfl) (by kernel_rfl) (by kernel_rfl) (fun _ _ _ h=>h) (xP 26 (.tmp 2) rfl w.heap.size (by rfl) 26 #[.slice va m.vars.length vp,.slice ca m.cons.length cp,.bool false,.slice ga m.goal.length gp] (0,0) _ (fun w h=>h.1) Tryz.underlying26 rfl xQ (by rfl)) (by assumption) ?rest_aa;try simp only [Act.put,q1,q2,q3]
          refine tB (i:=1) (oi:=⟨some 87,.move (.tmp 5),_,_,_,_⟩) (v:=?v_ab) ?hy_ab (by assumption) ?rest_ab
          case hy_ab=>(intro w hSw;(try dsimp only at hSw);go_simp;try (with_reducible rfl))
          try simp only [Act.put,q1,q2,q3]
          refine tB (i:=2) (oi:=⟨some 88,.move (.tmp 15),_,_,_,_⟩) (v:=?v_ac) ?hy_ac (by assumption) ?rest_ac
          case hy_ac=>(intro w hSw;(try dsimp only at hSw);go_simp;try (with_reducible rfl))
          try simp only [Act.put,q1,q2,q3]
          refine tB (i:=3) (oi:=⟨some 89,.indexAddr 30 (.tmp 87) (.tmp 88),_,_,_,_⟩) (v:=?v_ad) ?hy_ad (by assumption) ?rest_ad
          case hy_ad=>(intro w hSw;(try dsimp only at hSw);go_simp;try (with_reducible rfl))
          try simp only [Act.put,q1,q2,q3]
          refine tB (i:=4) (oi:=⟨some 90,.load 27 (.tmp 89),_,_,_,_⟩) (v:=?v_ae) ?hy_ae (by assumption) ?rest_ae
          case hy_ae=>(intro w hSw;(try dsimp only at hSw);go_simp;try (with_reducible rfl))
          try simp only [Act.put,q1,q2,q3]
          refine yF (i:=5) (o:=⟨some 91,.call { callee:=.value (.func 15),args:=#[(.tmp 86),(.tmp 90)],argTypes:=#[26,27] },_,_,_,_⟩) (by kernel_rfl) rfl (fun K hK=>?_);go_simp;refine mcA (HSo.out wr.drew HT0.out (HC1.out wr.drew HB0.out).2) ?_;rintro e u1 ⟨rfl,hb⟩;have HT1:Hid (TF w w.heap.size p m (.slice va m.vars.length vp) (.slice ca m.cons.length cp) (.slice ga m.goal.length gp) S (some ⟨g,0,none⟩) kd wo (.slice az z.length cz) z (.slice xa l.length xc) l u1):=HT0.out.next hb;have HB1:Hid (Below wr.heap.size wr u1):=ym HB0.out hb;clear hb;go_wp2_with fail
          refine hK.out _ _ ⟨⟨HMb.out u1 HT1.out,yb (HMb.out u1 HT1.out) 2,(HC1.out u1 HB1.out).1,yb HT1.out.vbox 2,(HCk.out u1 HB1.out).1⟩,fun _=>trivial⟩ ?_;have hHeld:=(⟨⟨HMb.out u1 HT1.out,yb (HMb.out u1 HT1.out) 2,(HC1.out u1 HB1.out).1,yb HT1.out.vbox 2,(HCk.out u1 HB1.out).1⟩,trivial⟩:(u1.heap[w.heap.size]?=some (.cells #[.slice va m.vars.length vp,.slice ca m.cons.length cp,.bool false,.slice ga m.goal.length gp] 26 (0,0))/\u1.cell? ⟨w.heap.size,2,none⟩=some (.bool false)/\u1.cell? ⟨g,i,none⟩=some (.slice ua x.length uc)/\u1.cell? ⟨p,2,none⟩=some (.int .i64 wo)/\u1.cell? ⟨g,k,none⟩=some (.slice ya y.length yc))/\True);clear hK K;try simp only [Act.put,q1,q2,q3]
          refine tB (i:=6) (oi:=⟨some 92,.unOp .not 4 (.tmp 91),_,_,_,_⟩) (v:=?v_af) ?hy_af (by assumption) ?rest_af
          case hy_af=>(intro w hSw;(try dsimp only at hSw);go_simp;try (with_reducible rfl))
          try simp only [Act.put,q1,q2,q3]
          refine tB (i:=7) (oi:=⟨some 93,.move (.tmp 92),_,_,_,_⟩) (v:=?v_ag) ?hy_ag (by assumption) ?rest_ag
          case hy_ag=>(intro w hSw;(try dsimp only at hSw);go_simp;try (with_reducible rfl))
          try simp only [Act.put,q1,q2,q3]
          refine tB (i:=8) (oi:=⟨some 94,.move (.tmp 15),_,_,_,_⟩) (v:=?v_ah) ?hy_ah (by assumption) ?rest_ah
          case hy_ah=>(intro w hSw;(try dsimp only at hSw);go_simp;try (with_reducible rfl))
          try simp only [Act.put,q1,q2,q3]
          refine tB (i:=9) (oi:=⟨some 95,.binOp .gtr 3 (.tmp 94) ((.const (.int .i64 0))) 3,_,_,_,_⟩) (v:=?v_ai) ?hy_ai (by assumption) ?rest_ai
          case hy_ai=>(intro w hSw;(try dsimp only at hSw);go_simp;try (with_reducible rfl))
          try simp only [Act.put,q1,q2,q3]
          refine tB (i:=10) (oi:=⟨some 96,.move (.tmp 95),_,_,_,_⟩) (v:=?v_cn) ?hy_cn (by assumption) ?rest_cn
          case hy_cn=>(intro w hSw;(try dsimp only at hSw);go_simp;try (with_reducible rfl))
          try simp only [Act.put,q1,q2,q3]
          refine tB (i:=11) (oi:=⟨some 97,.move (.tmp 5),_,_,_,_⟩) (v:=?v_co) ?hy_co (by assumption) ?rest_co
          case hy_co=>(intro w hSw;(try dsimp only at hSw);go_simp;try (with_reducible rfl))
          try simp only [Act.put,q1,q2,q3]
          refine tB (i:=12) (oi:=⟨some 98,.move (.tmp 15),_,_,_,_⟩) (v:=?v_cp) ?hy_cp (by assumption) ?rest_cp
          case hy_cp=>(intro w hSw;(try dsimp only at hSw);go_simp;try (with_reducible rfl))
          try simp only [Act.put,q1,q2,q3]
          refine tB (i:=13) (oi:=⟨some 99,.binOp .sub 3 (.tmp 98) ((.const (.int .i64 1))) 3,_,_,_,_⟩) (v:=?v_cq) ?hy_cq (by assumption) ?rest_cq
          case hy_cq=>(intro w hSw;(try dsimp only at hSw);go_simp;try (with_reducible rfl))
          try simp only [Act.put,q1,q2,q3]
          refine tB (i:=14) (oi:=⟨some 100,.indexAddr 30 (.tmp 97) (.tmp 99),_,_,_,_⟩) (v:=?v_cr) ?hy_cr (by assumption) ?rest_cr
          case hy_cr=>(intro w hSw;(try dsimp only at hSw);go_simp;try (with_reducible rfl))
          try simp only [Act.put,q1,q2,q3]
          refine tB (i:=15) (oi:=⟨some 101,.load 27 (.tmp 100),_,_,_,_⟩) (v:=?v_cs) ?hy_cs (by assumption) ?rest_cs
          case hy_cs=>(intro w hSw;(try dsimp only at hSw);go_simp;try (with_reducible rfl))
          try simp only [Act.put,q1,q2,q3]
          refine tB (i:=16) (oi:=⟨some 102,.move (.tmp 5),_,_,_,_⟩) (v:=?v_ct) ?hy_ct (by assumption) ?rest_ct
          case hy_ct=>(intro w hSw;(try dsimp only at hSw);go_simp;try (with_reducible rfl))
          try simp only [Act.put,q1,q2,q3]
          refine tB (i:=17) (oi:=⟨some 103,.move (.tmp 15),_,_,_,_⟩) (v:=?v_cu) ?hy_cu (by assumption) ?rest_cu
          case hy_cu=>(intro w hSw;(try dsimp only at hSw);go_simp;try (with_reducible rfl))
          try simp only [Act.put,q1,q2,q3]
          refine tB (i:=18) (oi:=⟨some 104,.indexAddr 30 (.tmp 102) (.tmp 103),_,_,_,_⟩) (v:=?v_cv) ?hy_cv (by assumption) ?rest_cv
          case hy_cv=>(intro w hSw;(try dsimp only at hSw);go_simp;try (with_reducible rfl))
          try simp only [Act.put,q1,q2,q3]
          refine tB (i:=19) (oi:=⟨some 105,.load 27 (.tmp 104),_,_,_,_⟩) (v:=?v_cw) ?hy_cw (by assumption) ?rest_cw
          case hy_cw=>(intro w hSw;(try dsimp only at hSw);go_simp;try (with_reducible rfl))
          try simp only [Act.put,q1,q2,q3]
          refine yF (i:=20) (o:=⟨some 106,.call { callee:=.value (.func 16),args:=#[(.tmp 101),(.tmp 105)],argTypes:=#[27,27] },_,_,_,_⟩) (by kernel_rfl) rfl (fun K hK=>?_);go_simp;refine mcA (HAh.out u1 HB1.out) ?_;rintro e u2 ⟨rfl,hb⟩;have HT2:Hid (TF w w.heap.size p m (.slice va m.vars.length vp) (.slice ca m.cons.length cp) (.slice ga m.goal.length gp) S (some ⟨g,0,none⟩) kd wo (.slice az z.length cz) z (.slice xa l.length xc) l u2):=HT1.out.next hb;have HB2:Hid (Below wr.heap.size wr u2):=ym HB1.out hb;clear hb;go_wp2_with fail
          refine hK.out _ _ ⟨⟨HMb.out u2 HT2.out,yb (HMb.out u2 HT2.out) 2,(HC1.out u2 HB2.out).1,yb HT2.out.vbox 2,(HCk.out u2 HB2.out).1⟩,fun _=>trivial⟩ ?_;have hHeld:=(⟨⟨HMb.out u2 HT2.out,yb (HMb.out u2 HT2.out) 2,(HC1.out u2 HB2.out).1,yb HT2.out.vbox 2,(HCk.out u2 HB2.out).1⟩,trivial⟩:(u2.heap[w.heap.size]?=some (.cells #[.slice va m.vars.length vp,.slice ca m.cons.length cp,.bool false,.slice ga m.goal.length gp] 26 (0,0))/\u2.cell? ⟨w.heap.size,2,none⟩=some (.bool false)/\u2.cell? ⟨g,i,none⟩=some (.slice ua x.length uc)/\u2.cell? ⟨p,2,none⟩=some (.int .i64 wo)/\u2.cell? ⟨g,k,none⟩=some (.slice ya y.length yc))/\True);clear hK K;try simp only [Act.put,q1,q2,q3]
          refine tB (i:=21) (oi:=⟨some 107,.unOp .not 4 (.tmp 106),_,_,_,_⟩) (v:=?v_cx) ?hy_cx (by assumption) ?rest_cx
          case hy_cx=>(intro w hSw;(try dsimp only at hSw);go_simp;try (with_reducible rfl))
          try simp only [Act.put,q1,q2,q3]
          refine tB (i:=22) (oi:=⟨some 108,.pick (.tmp 96) (.tmp 107) ((.const (.bool false))),_,_,_,_⟩) (v:=?v_cy) ?hy_cy (by assumption) ?rest_cy
          case hy_cy=>(intro w hSw;(try dsimp only at hSw);go_simp;try (with_reducible rfl))
          try simp only [Act.put,q1,q2,q3]
          refine tB (i:=23) (oi:=⟨some 109,.pick (.tmp 93) ((.const (.bool true))) (.tmp 108),_,_,_,_⟩) (v:=?v_cz) ?hy_cz (by assumption) ?rest_cz
          case hy_cz=>(intro w hSw;(try dsimp only at hSw);go_simp;try (with_reducible rfl))
          try simp only [Act.put,q1,q2,q3]
          refine tB (i:=24) (oi:=⟨some 110,.move (.tmp 109),_,_,_,_⟩) (v:=?v_c0) ?hy_c0 (by assumption) ?rest_c0
          case hy_c0=>(intro w hSw;(try dsimp only at hSw);go_simp;try (with_reducible rfl))
          try simp only [Act.put,q1,q2,q3]
          refine tB (i:=25) (oi:=⟨some 111,.fieldAddr 26 (.tmp 2) 2,_,_,_,_⟩) (v:=?v_c1) ?hy_c1 (by assumption) ?rest_c1
          case hy_c1=>(intro w hSw;(try dsimp only at hSw);go_simp;try (with_reducible rfl))
          try simp only [Act.put,q1,q2,q3]
          refine tB (i:=26) (oi:=⟨some 112,.load 4 (.tmp 111),_,_,_,_⟩) (v:=?v_c2) ?hy_c2 (by assumption) ?rest_c2
          case hy_c2=>(intro w hSw;(try dsimp only at hSw);go_simp;try (with_reducible rfl))
          try simp only [Act.put,q1,q2,q3]
          refine tB (i:=27) (oi:=⟨some 113,.move (.tmp 112),_,_,_,_⟩) (v:=?v_c3) ?hy_c3 (by assumption) ?rest_c3
          case hy_c3=>(intro w hSw;(try dsimp only at hSw);go_simp;try (with_reducible rfl))
          try simp only [Act.put,q1,q2,q3]
          refine tO (i:=28) (oi:=⟨some 114,.load 26 (.tmp 2),_,_,_,_⟩) (by assumption) ?rest_c4;try simp only [Act.put,q1,q2,q3]
          refine tO (i:=29) (oi:=⟨some 115,.move (.tmp 5),_,_,_,_⟩) (by assumption) ?rest_c5;try simp only [Act.put,q1,q2,q3]
          refine tO (i:=30) (oi:=⟨some 116,.move (.tmp 15),_,_,_,_⟩) (by assumption) ?rest_c6;try simp only [Act.put,q1,q2,q3]
          refine tO (i:=31) (oi:=⟨some 117,.indexAddr 30 (.tmp 115) (.tmp 116),_,_,_,_⟩) (by assumption) ?rest_c7;try simp only [Act.put,q1,q2,q3]
          refine tO (i:=32) (oi:=⟨some 118,.load 27 (.tmp 117),_,_,_,_⟩) (by assumption) ?rest_c8;try simp only [Act.put,q1,q2,q3]
          refine tO (i:=33) (oi:=⟨some 119,.call { callee:=.value (.func 17),args:=#[(.tmp 114),(.tmp 118)],argTypes:=#[26,27] },_,_,_,_⟩) (by assumption) ?rest_c9;try simp only [Act.put,q1,q2,q3]
          refine tO (i:=34) (oi:=⟨some 120,.fieldAddr 39 (.tmp 9) 2,_,_,_,_⟩) (by assumption) ?rest_da;try simp only [Act.put,q1,q2,q3]
          refine tO (i:=35) (oi:=⟨some 121,.load 3 (.tmp 120),_,_,_,_⟩) (by assumption) ?rest_db;try simp only [Act.put,q1,q2,q3]
          refine tO (i:=36) (oi:=⟨some 122,.binOp .lss 3 (.tmp 119) (.tmp 121) 3,_,_,_,_⟩) (by assumption) ?rest_dc;try simp only [Act.put,q1,q2,q3]
          refine tB (i:=37) (oi:=⟨some 123,.pick (.tmp 113) (.tmp 122) ((.const (.bool false))),_,_,_,_⟩) (v:=?v_dd) ?hy_dd (by assumption) ?rest_dd
          case hy_dd=>(intro w hSw;(try dsimp only at hSw);go_simp;try (with_reducible rfl))
          try simp only [Act.put,q1,q2,q3]
          refine tB (i:=38) (oi:=⟨some 124,.pick (.tmp 110) ((.const (.bool true))) (.tmp 123),_,_,_,_⟩) (v:=?v_de) ?hy_de (by assumption) ?rest_de
          case hy_de=>(intro w hSw;(try dsimp only at hSw);go_simp;try (with_reducible rfl))
          try simp only [Act.put,q1,q2,q3]
          refine zu (by kernel_rfl) ?_ _;go_wp2_with fail
          go_meet;refine ⟨?_,HT2.out⟩
          first | rfl | (simp;done)
        · skip
          have hnw:¬ Md.worth m x<wo:=HWx.out hhas;obtain ⟨wx,hwx⟩:∃ q,Md.worth m x=q:=⟨_,rfl⟩;rw [hwx] at hnw HWo;have hnd:decide (wx<wo)=false:=decide_eq_false hnw;clear hwx;have HMb:Hid (∀ w',TF w w.heap.size p m (.slice va m.vars.length vp) (.slice ca m.cons.length cp) (.slice ga m.goal.length gp) S (some ⟨g,0,none⟩) kd wo (.slice az z.length cz) z (.slice xa l.length xc) l w'->w'.heap[w.heap.size]?=some (.cells #[.slice va m.vars.length vp,.slice ca m.cons.length cp,.bool true,.slice ga m.goal.length gp] 26 (0,0))):=fun w' T=>by
            have:=T.mbox;rw [hhas] at this;exact this
          have hSo:=HSol.out;rw [hhas] at hSo;have HSo:Hid (∀ w',TF w w.heap.size p m (.slice va m.vars.length vp) (.slice ca m.cons.length cp) (.slice ga m.goal.length gp) S (some ⟨g,0,none⟩) kd wo (.slice az z.length cz) z (.slice xa l.length xc) l w'->MInts w' (.slice ua x.length uc) x->Calls Tryz.prog 15 #[.agg #[.slice va m.vars.length vp,.slice ca m.cons.length cp,.bool true,.slice ga m.goal.length gp],.slice ua x.length uc] w' fun e w''=>e=.returned (.bool true)/\Below w'.heap.size w' w''):=hSo;have hWo:=HWo.out;rw [hhas] at hWo
          have HWp:Hid (∀ w',TF w w.heap.size p m (.slice va m.vars.length vp) (.slice ca m.cons.length cp) (.slice ga m.goal.length gp) S (some ⟨g,0,none⟩) kd wo (.slice az z.length cz) z (.slice xa l.length xc) l w'->MInts w' (.slice ua x.length uc) x->Calls Tryz.prog 17 #[.agg #[.slice va m.vars.length vp,.slice ca m.cons.length cp,.bool true,.slice ga m.goal.length gp],.slice ua x.length uc] w' fun e w''=>e=.returned (.int .i64 wx)/\Below w'.heap.size w' w''):=hWo;clear hWo;clear hSo hhas HSol HWo;have HT0:Hid (TF w w.heap.size p m (.slice va m.vars.length vp) (.slice ca m.cons.length cp) (.slice ga m.goal.length gp) S (some ⟨g,0,none⟩) kd wo (.slice az z.length cz) z (.slice xa l.length xc) l wr.drew):=HTf.out.next (Below.refl _ _).drew;have HB0:Hid (Below wr.heap.size wr wr.drew):=(Below.refl _ _).drew
          refine zt (fun w'=>w'.heap[w.heap.size]?=some (.cells #[.slice va m.vars.length vp,.slice ca m.cons.length cp,.bool true,.slice ga m.goal.length gp] 26 (0,0))/\w'.cell? ⟨w.heap.size,2,none⟩=some (.bool true)/\w'.cell? ⟨g,i,none⟩=some (.slice ua x.length uc)/\w'.cell? ⟨p,2,none⟩=some (.int .i64 wo)/\w'.cell? ⟨g,k,none⟩=some (.slice ya y.length yc)) (fun _=>True) [] (by kernel_rfl) ⟨⟨HMb.out wr.drew HT0.out,yb (HMb.out wr.drew HT0.out) 2,(HC1.out wr.drew HB0.out).1,yb HT0.out.vbox 2,(HCk.out wr.drew HB0.out).1⟩,trivial⟩ (fun hHeld=>?_)
          refine zL (i:=0) (oi:=⟨some 86,.load 26 (.tmp 2),_,_,_,_⟩) (v:=.agg #[.slice va m.vars.length vp,.slice ca m.cons.length cp,.bool true,.slice ga m.goal.length gp]) rfl (by kernel_rfl) (by kernel_rfl) (by kernel_rfl) (by kernel_rfl) (fun _ _ _ h=>h) (xP 26 (.tmp 2) rfl w.heap.size (by rfl) 26 #[.slice va m.vars.length vp,.slice ca m.cons.length cp,.bool true,.slice ga m.goal.length gp] (0,0) _ (fun w h=>h.1) Tryz.underlying26 rfl xQ (by rfl)) (by assumption) ?rest_aj;try simp only [Act.put,q1,q2,q3]
          refine tB (i:=1) (oi:=⟨some 87,.move (.tmp 5),_,_,_,_⟩) (v:=?v_ak) ?hy_ak (by assumption) ?rest_ak
          case hy_ak=>(intro w hSw;(try dsimp only at hSw);go_simp;try (with_reducible rfl))
          try simp only [Act.put,q1,q2,q3]
          refine tB (i:=2) (oi:=⟨some 88,.move (.tmp 15),_,_,_,_⟩) (v:=?v_al) ?hy_al (by assumption) ?rest_al
          case hy_al=>(intro w hSw;(try dsimp only at hSw);go_simp;try (with_reducible rfl))
          try simp only [Act.put,q1,q2,q3]
          refine tB (i:=3) (oi:=⟨some 89,.indexAddr 30 (.tmp 87) (.tmp 88),_,_,_,_⟩) (v:=?v_am) ?hy_am (by assumption) ?rest_am
          case hy_am=>(intro w hSw;(try dsimp only at hSw);go_simp;try (with_reducible rfl))
          try simp only [Act.put,q1,q2,q3]
          refine tB (i:=4) (oi:=⟨some 90,.load 27 (.tmp 89),_,_,_,_⟩) (v:=?v_an) ?hy_an (by assumption) ?rest_an
          case hy_an=>(intro w hSw;(try dsimp only at hSw);go_simp;try (with_reducible rfl))
          try simp only [Act.put,q1,q2,q3]
          refine yF (i:=5) (o:=⟨some 91,.call { callee:=.value (.func 15),args:=#[(.tmp 86),(.tmp 90)],argTypes:=#[26,27] },_,_,_,_⟩) (by kernel_rfl) rfl (fun K hK=>?_);go_simp;refine mcA (HSo.out wr.drew HT0.out (HC1.out wr.drew HB0.out).2) ?_;rintro e u1 ⟨rfl,hb⟩;have HT1:Hid (TF w w.heap.size p m (.slice va m.vars.length vp) (.slice ca m.cons.length cp) (.slice ga m.goal.length gp) S (some ⟨g,0,none⟩) kd wo (.slice az z.length cz) z (.slice xa l.length xc) l u1):=HT0.out.next hb;have HB1:Hid (Below wr.heap.size wr u1):=ym HB0.out hb;clear hb;go_wp2_with fail
          refine hK.out _ _ ⟨⟨HMb.out u1 HT1.out,yb (HMb.out u1 HT1.out) 2,(HC1.out u1 HB1.out).1,yb HT1.out.vbox 2,(HCk.out u1 HB1.out).1⟩,fun _=>trivial⟩ ?_;have hHeld:=(⟨⟨HMb.out u1 HT1.out,yb (HMb.out u1 HT1.out) 2,(HC1.out u1 HB1.out).1,yb HT1.out.vbox 2,(HCk.out u1 HB1.out).1⟩,trivial⟩:(u1.heap[w.heap.size]?=some (.cells #[.slice va m.vars.length vp,.slice ca m.cons.length cp,.bool true,.slice ga m.goal.length gp] 26 (0,0))/\u1.cell? ⟨w.heap.size,2,none⟩=some (.bool true)/\u1.cell? ⟨g,i,none⟩=some (.slice ua x.length uc)/\u1.cell? ⟨p,2,none⟩=some (.int .i64 wo)/\u1.cell? ⟨g,k,none⟩=some (.slice ya y.length yc))/\True);clear hK K;try simp only [Act.put,q1,q2,q3]
          refine tB (i:=6) (oi:=⟨some 92,.unOp .not 4 (.tmp 91),_,_,_,_⟩) (v:=?v_ao) ?hy_ao (by assumption) ?rest_ao
          case hy_ao=>(intro w hSw;(try dsimp only at hSw);go_simp;try (with_reducible rfl))
          try simp only [Act.put,q1,q2,q3]
          refine tB (i:=7) (oi:=⟨some 93,.move (.tmp 92),_,_,_,_⟩) (v:=?v_ap) ?hy_ap (by assumption) ?rest_ap
          case hy_ap=>(intro w hSw;(try dsimp only at hSw);go_simp;try (with_reducible rfl))
          try simp only [Act.put,q1,q2,q3]
          refine tB (i:=8) (oi:=⟨some 94,.move (.tmp 15),_,_,_,_⟩) (v:=?v_aq) ?hy_aq (by assumption) ?rest_aq
          case hy_aq=>(intro w hSw;(try dsimp only at hSw);go_simp;try (with_reducible rfl))
          try simp only [Act.put,q1,q2,q3]
          refine tB (i:=9) (oi:=⟨some 95,.binOp .gtr 3 (.tmp 94) ((.const (.int .i64 0))) 3,_,_,_,_⟩) (v:=?v_ar) ?hy_ar (by assumption) ?rest_ar
          case hy_ar=>(intro w hSw;(try dsimp only at hSw);go_simp;try (with_reducible rfl))
          try simp only [Act.put,q1,q2,q3]
          refine tB (i:=10) (oi:=⟨some 96,.move (.tmp 95),_,_,_,_⟩) (v:=?v_df) ?hy_df (by assumption) ?rest_df
          case hy_df=>(intro w hSw;(try dsimp only at hSw);go_simp;try (with_reducible rfl))
          try simp only [Act.put,q1,q2,q3]
          refine tB (i:=11) (oi:=⟨some 97,.move (.tmp 5),_,_,_,_⟩) (v:=?v_dg) ?hy_dg (by assumption) ?rest_dg
          case hy_dg=>(intro w hSw;(try dsimp only at hSw);go_simp;try (with_reducible rfl))
          try simp only [Act.put,q1,q2,q3]
          refine tB (i:=12) (oi:=⟨some 98,.move (.tmp 15),_,_,_,_⟩) (v:=?v_dh) ?hy_dh (by assumption) ?rest_dh
          case hy_dh=>(intro w hSw;(try dsimp only at hSw);go_simp;try (with_reducible rfl))
          try simp only [Act.put,q1,q2,q3]
          refine tB (i:=13) (oi:=⟨some 99,.binOp .sub 3 (.tmp 98) ((.const (.int .i64 1))) 3,_,_,_,_⟩) (v:=?v_di) ?hy_di (by assumption) ?rest_di
          case hy_di=>(intro w hSw;(try dsimp only at hSw);go_simp;try (with_reducible rfl))
          try simp only [Act.put,q1,q2,q3]
          refine tB (i:=14) (oi:=⟨some 100,.indexAddr 30 (.tmp 97) (.tmp 99),_,_,_,_⟩) (v:=?v_dj) ?hy_dj (by assumption) ?rest_dj
          case hy_dj=>(intro w hSw;(try dsimp only at hSw);go_simp;try (with_reducible rfl))
          try simp only [Act.put,q1,q2,q3]
          refine tB (i:=15) (oi:=⟨some 101,.load 27 (.tmp 100),_,_,_,_⟩) (v:=?v_dk) ?hy_dk (by assumption) ?rest_dk
          case hy_dk=>(intro w hSw;(try dsimp only at hSw);go_simp;try (with_reducible rfl))
          try simp only [Act.put,q1,q2,q3]
          refine tB (i:=16) (oi:=⟨some 102,.move (.tmp 5),_,_,_,_⟩) (v:=?v_dl) ?hy_dl (by assumption) ?rest_dl
          case hy_dl=>(intro w hSw;(try dsimp only at hSw);go_simp;try (with_reducible rfl))
          try simp only [Act.put,q1,q2,q3]
          refine tB (i:=17) (oi:=⟨some 103,.move (.tmp 15),_,_,_,_⟩) (v:=?v_dm) ?hy_dm (by assumption) ?rest_dm
          case hy_dm=>(intro w hSw;(try dsimp only at hSw);go_simp;try (with_reducible rfl))
          try simp only [Act.put,q1,q2,q3]
          refine tB (i:=18) (oi:=⟨some 104,.indexAddr 30 (.tmp 102) (.tmp 103),_,_,_,_⟩) (v:=?v_dn) ?hy_dn (by assumption) ?rest_dn
          case hy_dn=>(intro w hSw;(try dsimp only at hSw);go_simp;try (with_reducible rfl))
          try simp only [Act.put,q1,q2,q3]
          refine tB (i:=19) (oi:=⟨some 105,.load 27 (.tmp 104),_,_,_,_⟩) (v:=?v_do) ?hy_do (by assumption) ?rest_do
          case hy_do=>(intro w hSw;(try dsimp only at hSw);go_simp;try (with_reducible rfl))
          try simp only [Act.put,q1,q2,q3]
          refine yF (i:=20) (o:=⟨some 106,.call { callee:=.value (.func 16),args:=#[(.tmp 101),(.tmp 105)],argTypes:=#[27,27] },_,_,_,_⟩) (by kernel_rfl) rfl (fun K hK=>?_);go_simp;refine mcA (HAh.out u1 HB1.out) ?_;rintro e u2 ⟨rfl,hb⟩;have HT2:Hid (TF w w.heap.size p m (.slice va m.vars.length vp) (.slice ca m.cons.length cp) (.slice ga m.goal.length gp) S (some ⟨g,0,none⟩) kd wo (.slice az z.length cz) z (.slice xa l.length xc) l u2):=HT1.out.next hb;have HB2:Hid (Below wr.heap.size wr u2):=ym HB1.out hb;clear hb;go_wp2_with fail
          refine hK.out _ _ ⟨⟨HMb.out u2 HT2.out,yb (HMb.out u2 HT2.out) 2,(HC1.out u2 HB2.out).1,yb HT2.out.vbox 2,(HCk.out u2 HB2.out).1⟩,fun _=>trivial⟩ ?_;have hHeld:=(⟨⟨HMb.out u2 HT2.out,yb (HMb.out u2 HT2.out) 2,(HC1.out u2 HB2.out).1,yb HT2.out.vbox 2,(HCk.out u2 HB2.out).1⟩,trivial⟩:(u2.heap[w.heap.size]?=some (.cells #[.slice va m.vars.length vp,.slice ca m.cons.length cp,.bool true,.slice ga m.goal.length gp] 26 (0,0))/\u2.cell? ⟨w.heap.size,2,none⟩=some (.bool true)/\u2.cell? ⟨g,i,none⟩=some (.slice ua x.length uc)/\u2.cell? ⟨p,2,none⟩=some (.int .i64 wo)/\u2.cell? ⟨g,k,none⟩=some (.slice ya y.length yc))/\True);clear hK K;try simp only [Act.put,q1,q2,q3]
          refine tB (i:=21) (oi:=⟨some 107,.unOp .not 4 (.tmp 106),_,_,_,_⟩) (v:=?v_dp) ?hy_dp (by assumption) ?rest_dp
          case hy_dp=>(intro w hSw;(try dsimp only at hSw);go_simp;try (with_reducible rfl))
          try simp only [Act.put,q1,q2,q3]
          refine tB (i:=22) (oi:=⟨some 108,.pick (.tmp 96) (.tmp 107) ((.const (.bool false))),_,_,_,_⟩) (v:=?v_dq) ?hy_dq (by assumption) ?rest_dq
          case hy_dq=>(intro w hSw;(try dsimp only at hSw);go_simp;try (with_reducible rfl))
          try simp only [Act.put,q1,q2,q3]
          refine tB (i:=23) (oi:=⟨some 109,.pick (.tmp 93) ((.const (.bool true))) (.tmp 108),_,_,_,_⟩) (v:=?v_dr) ?hy_dr (by assumption) ?rest_dr
          case hy_dr=>(intro w hSw;(try dsimp only at hSw);go_simp;try (with_reducible rfl))
          try simp only [Act.put,q1,q2,q3]
          refine tB (i:=24) (oi:=⟨some 110,.move (.tmp 109),_,_,_,_⟩) (v:=?v_ds) ?hy_ds (by assumption) ?rest_ds
          case hy_ds=>(intro w hSw;(try dsimp only at hSw);go_simp;try (with_reducible rfl))
          try simp only [Act.put,q1,q2,q3]
          refine tB (i:=25) (oi:=⟨some 111,.fieldAddr 26 (.tmp 2) 2,_,_,_,_⟩) (v:=?v_dt) ?hy_dt (by assumption) ?rest_dt
          case hy_dt=>(intro w hSw;(try dsimp only at hSw);go_simp;try (with_reducible rfl))
          try simp only [Act.put,q1,q2,q3]
          refine tB (i:=26) (oi:=⟨some 112,.load 4 (.tmp 111),_,_,_,_⟩) (v:=?v_du) ?hy_du (by assumption) ?rest_du
          case hy_du=>(intro w hSw;(try dsimp only at hSw);go_simp;try (with_reducible rfl))
          try simp only [Act.put,q1,q2,q3]
          refine tB (i:=27) (oi:=⟨some 113,.move (.tmp 112),_,_,_,_⟩) (v:=?v_dv) ?hy_dv (by assumption) ?rest_dv
          case hy_dv=>(intro w hSw;(try dsimp only at hSw);go_simp;try (with_reducible rfl))
          try simp only [Act.put,q1,q2,q3]
          refine zL (i:=28) (oi:=⟨some 114,.load 26 (.tmp 2),_,_,_,_⟩) (v:=.agg #[.slice va m.vars.length vp,.slice ca m.cons.length cp,.bool true,.slice ga m.goal.length gp]) rfl (by kernel_rfl) (by kernel_rfl) (by kernel_rfl) (by kernel_rfl) (fun _ _ _ h=>h) (xP 26 (.tmp 2) rfl w.heap.size (by rfl) 26 #[.slice va m.vars.length vp,.slice ca m.cons.length cp,.bool true,.slice ga m.goal.length gp] (0,0) _ (fun w h=>h.1) Tryz.underlying26 rfl xQ (by rfl)) (by assumption) ?rest_dw;try simp only [Act.put,q1,q2,q3]
          refine tB (i:=29) (oi:=⟨some 115,.move (.tmp 5),_,_,_,_⟩) (v:=?v_dx) ?hy_dx (by assumption) ?rest_dx
          case hy_dx=>(intro w hSw;(try dsimp only at hSw);go_simp;try (with_reducible rfl))
          try simp only [Act.put,q1,q2,q3]
          refine tB (i:=30) (oi:=⟨some 116,.move (.tmp 15),_,_,_,_⟩) (v:=?v_dy) ?hy_dy (by assumption) ?rest_dy
          case hy_dy=>(intro w hSw;(try dsimp only at hSw);go_simp;try (with_reducible rfl))
          try simp only [Act.put,q1,q2,q3]
          refine tB (i:=31) (oi:=⟨some 117,.indexAddr 30 (.tmp 115) (.tmp 116),_,_,_,_⟩) (v:=?v_dz) ?hy_dz (by assumption) ?rest_dz
          case hy_dz=>(intro w hSw;(try dsimp only at hSw);go_simp;try (with_reducible rfl))
          try simp only [Act.put,q1,q2,q3]
          refine tB (i:=32) (oi:=⟨some 118,.load 27 (.tmp 117),_,_,_,_⟩) (v:=?v_d0) ?hy_d0 (by assumption) ?rest_d0
          case hy_d0=>(intro w hSw;(try dsimp only at hSw);go_simp;try (with_reducible rfl))
          try simp only [Act.put,q1,q2,q3]
          refine tB (i:=34) (oi:=⟨some 120,.fieldAddr 39 (.tmp 9) 2,_,_,_,_⟩) (v:=?v_d1) ?hy_d1 (by assumption) ?rest_d1
          case hy_d1=>(intro w hSw;(try dsimp only at hSw);go_simp;try (with_reducible rfl))
          try simp only [Act.put,q1,q2,q3]
          refine tB (i:=35) (oi:=⟨some 121,.load 3 (.tmp 120),_,_,_,_⟩) (v:=?v_d2) ?hy_d2 (by assumption) ?rest_d2
          case hy_d2=>(intro w hSw;(try dsimp only at hSw);go_simp;try (with_reducible rfl))
          try simp only [Act.put,q1,q2,q3]
          refine yF (i:=33) (o:=⟨some 119,.call { callee:=.value (.func 17),args:=#[(.tmp 114),(.tmp 118)],argTypes:=#[26,27] },_,_,_,_⟩) (by kernel_rfl) rfl (fun K hK=>?_);go_simp;refine mcA (HWp.out u2 HT2.out (HC1.out u2 HB2.out).2) ?_;rintro e u3 ⟨rfl,hb⟩;have HT3:Hid (TF w w.heap.size p m (.slice va m.vars.length vp) (.slice ca m.cons.length cp) (.slice ga m.goal.length gp) S (some ⟨g,0,none⟩) kd wo (.slice az z.length cz) z (.slice xa l.length xc) l u3):=HT2.out.next hb;have HB3:Hid (Below wr.heap.size wr u3):=ym HB2.out hb;clear hb;go_wp2_with fail
          refine hK.out _ _ ⟨⟨HMb.out u3 HT3.out,yb (HMb.out u3 HT3.out) 2,(HC1.out u3 HB3.out).1,yb HT3.out.vbox 2,(HCk.out u3 HB3.out).1⟩,fun _=>trivial⟩ ?_;have hHeld:=(⟨⟨HMb.out u3 HT3.out,yb (HMb.out u3 HT3.out) 2,(HC1.out u3 HB3.out).1,yb HT3.out.vbox 2,(HCk.out u3 HB3.out).1⟩,trivial⟩:(u3.heap[w.heap.size]?=some (.cells #[.slice va m.vars.length vp,.slice ca m.cons.length cp,.bool true,.slice ga m.goal.length gp] 26 (0,0))/\u3.cell? ⟨w.heap.size,2,none⟩=some (.bool true)/\u3.cell? ⟨g,i,none⟩=some (.slice ua x.length uc)/\u3.cell? ⟨p,2,none⟩=some (.int .i64 wo)/\u3.cell? ⟨g,k,none⟩=some (.slice ya y.length yc))/\True);clear hK K;try simp only [Act.put,q1,q2,q3]
          refine tB (i:=36) (oi:=⟨some 122,.binOp .lss 3 (.tmp 119) (.tmp 121) 3,_,_,_,_⟩) (v:=?v_d3) ?hy_d3 (by assumption) ?rest_d3
          case hy_d3=>(intro w hSw;(try dsimp only at hSw);go_simp;try (with_reducible rfl))
          try simp only [Act.put,q1,q2,q3]
          refine tB (i:=37) (oi:=⟨some 123,.pick (.tmp 113) (.tmp 122) ((.const (.bool false))),_,_,_,_⟩) (v:=?v_d4) ?hy_d4 (by assumption) ?rest_d4
          case hy_d4=>(intro w hSw;(try dsimp only at hSw);go_simp;try (with_reducible rfl))
          try simp only [Act.put,q1,q2,q3]
          refine tB (i:=38) (oi:=⟨some 124,.pick (.tmp 110) ((.const (.bool true))) (.tmp 123),_,_,_,_⟩) (v:=?v_d5) ?hy_d5 (by assumption) ?rest_d5
          case hy_d5=>(intro w hSw;(try dsimp only at hSw);go_simp;try (with_reducible rfl))
          try simp only [Act.put,q1,q2,q3]
          refine zu (by kernel_rfl) ?_ _;go_wp2_with fail
          go_meet;refine ⟨?_,HT3.out⟩
          first | rfl | (simp;done)
      · have hi0I:¬ (0:Int)<(i:Int):=by omega
        have hid:decide (0<i)=false:=decide_eq_false hi0;have hidI:decide ((0:Int)<(i:Int))=false:=decide_eq_false hi0I;rcases Bool.eq_false_or_eq_true m.has with hhas | hhas
        rotate_left
        · skip
          have HMb:Hid (∀ w',TF w w.heap.size p m (.slice va m.vars.length vp) (.slice ca m.cons.length cp) (.slice ga m.goal.length gp) S (some ⟨g,0,none⟩) kd wo (.slice az z.length cz) z (.slice xa l.length xc) l w'->w'.heap[w.heap.size]?=some (.cells #[.slice va m.vars.length vp,.slice ca m.cons.length cp,.bool false,.slice ga m.goal.length gp] 26 (0,0))):=fun w' T=>by
            have:=T.mbox;rw [hhas] at this;exact this
          have hSo:=HSol.out;rw [hhas] at hSo;have HSo:Hid (∀ w',TF w w.heap.size p m (.slice va m.vars.length vp) (.slice ca m.cons.length cp) (.slice ga m.goal.length gp) S (some ⟨g,0,none⟩) kd wo (.slice az z.length cz) z (.slice xa l.length xc) l w'->MInts w' (.slice ua x.length uc) x->Calls Tryz.prog 15 #[.agg #[.slice va m.vars.length vp,.slice ca m.cons.length cp,.bool false,.slice ga m.goal.length gp],.slice ua x.length uc] w' fun e w''=>e=.returned (.bool true)/\Below w'.heap.size w' w''):=hSo;clear hSo hhas HSol HWo;have HT0:Hid (TF w w.heap.size p m (.slice va m.vars.length vp) (.slice ca m.cons.length cp) (.slice ga m.goal.length gp) S (some ⟨g,0,none⟩) kd wo (.slice az z.length cz) z (.slice xa l.length xc) l wr.drew):=HTf.out.next (Below.refl _ _).drew;have HB0:Hid (Below wr.heap.size wr wr.drew):=(Below.refl _ _).drew
          refine zt (fun w'=>w'.heap[w.heap.size]?=some (.cells #[.slice va m.vars.length vp,.slice ca m.cons.length cp,.bool false,.slice ga m.goal.length gp] 26 (0,0))/\w'.cell? ⟨w.heap.size,2,none⟩=some (.bool false)/\w'.cell? ⟨g,i,none⟩=some (.slice ua x.length uc)/\w'.cell? ⟨p,2,none⟩=some (.int .i64 wo)) (fun _=>True) [] (by kernel_rfl) ⟨⟨HMb.out wr.drew HT0.out,yb (HMb.out wr.drew HT0.out) 2,(HC1.out wr.drew HB0.out).1,yb HT0.out.vbox 2⟩,trivial⟩ (fun hHeld=>?_)
          refine zL (i:=0) (oi:=⟨some 86,.load 26 (.tmp 2),_,_,_,_⟩) (v:=.agg #[.slice va m.vars.length vp,.slice ca m.cons.length cp,.bool false,.slice ga m.goal.length gp]) rfl (by kernel_rfl) (by kernel_rfl) (by kernel_rfl) (by kernel_rfl) (fun _ _ _ h=>h) (xP 26 (.tmp 2) rfl w.heap.size (by rfl) 26 #[.slice va m.vars.length vp,.slice ca m.cons.length cp,.bool false,.slice ga m.goal.length gp] (0,0) _ (fun w h=>h.1) Tryz.underlying26 rfl xQ (by rfl)) (by assumption) ?rest_as;try simp only [Act.put,q1,q2,q3]
          refine tB (i:=1) (oi:=⟨some 87,.move (.tmp 5),_,_,_,_⟩) (v:=?v_at) ?hy_at (by assumption) ?rest_at
          case hy_at=>(intro w hSw;(try dsimp only at hSw);go_simp;try (with_reducible rfl))
          try simp only [Act.put,q1,q2,q3]
          refine tB (i:=2) (oi:=⟨some 88,.move (.tmp 15),_,_,_,_⟩) (v:=?v_au) ?hy_au (by assumption) ?rest_au
          case hy_au=>(intro w hSw;(try dsimp only at hSw);go_simp;try (with_reducible rfl))
          try simp only [Act.put,q1,q2,q3]
          refine tB (i:=3) (oi:=⟨some 89,.indexAddr 30 (.tmp 87) (.tmp 88),_,_,_,_⟩) (v:=?v_av) ?hy_av (by assumption) ?rest_av
          case hy_av=>(intro w hSw;(try dsimp only at hSw);go_simp;try (with_reducible rfl))
          try simp only [Act.put,q1,q2,q3]
          refine tB (i:=4) (oi:=⟨some 90,.load 27 (.tmp 89),_,_,_,_⟩) (v:=?v_aw) ?hy_aw (by assumption) ?rest_aw
          case hy_aw=>(intro w hSw;(try dsimp only at hSw);go_simp;try (with_reducible rfl))
          try simp only [Act.put,q1,q2,q3]
          refine yF (i:=5) (o:=⟨some 91,.call { callee:=.value (.func 15),args:=#[(.tmp 86),(.tmp 90)],argTypes:=#[26,27] },_,_,_,_⟩) (by kernel_rfl) rfl (fun K hK=>?_);go_simp;refine mcA (HSo.out wr.drew HT0.out (HC1.out wr.drew HB0.out).2) ?_;rintro e u1 ⟨rfl,hb⟩;have HT1:Hid (TF w w.heap.size p m (.slice va m.vars.length vp) (.slice ca m.cons.length cp) (.slice ga m.goal.length gp) S (some ⟨g,0,none⟩) kd wo (.slice az z.length cz) z (.slice xa l.length xc) l u1):=HT0.out.next hb;have HB1:Hid (Below wr.heap.size wr u1):=ym HB0.out hb;clear hb;go_wp2_with fail
          refine hK.out _ _ ⟨⟨HMb.out u1 HT1.out,yb (HMb.out u1 HT1.out) 2,(HC1.out u1 HB1.out).1,yb HT1.out.vbox 2⟩,fun _=>trivial⟩ ?_;have hHeld:=(⟨⟨HMb.out u1 HT1.out,yb (HMb.out u1 HT1.out) 2,(HC1.out u1 HB1.out).1,yb HT1.out.vbox 2⟩,trivial⟩:(u1.heap[w.heap.size]?=some (.cells #[.slice va m.vars.length vp,.slice ca m.cons.length cp,.bool false,.slice ga m.goal.length gp] 26 (0,0))/\u1.cell? ⟨w.heap.size,2,none⟩=some (.bool false)/\u1.cell? ⟨g,i,none⟩=some (.slice ua x.length uc)/\u1.cell? ⟨p,2,none⟩=some (.int .i64 wo))/\True);clear hK K;try simp only [Act.put,q1,q2,q3]
          refine tB (i:=6) (oi:=⟨some 92,.unOp .not 4 (.tmp 91),_,_,_,_⟩) (v:=?v_ax) ?hy_ax (by assumption) ?rest_ax
          case hy_ax=>(intro w hSw;(try dsimp only at hSw);go_simp;try (with_reducible rfl))
          try simp only [Act.put,q1,q2,q3]
          refine tB (i:=7) (oi:=⟨some 93,.move (.tmp 92),_,_,_,_⟩) (v:=?v_ay) ?hy_ay (by assumption) ?rest_ay
          case hy_ay=>(intro w hSw;(try dsimp only at hSw);go_simp;try (with_reducible rfl))
          try simp only [Act.put,q1,q2,q3]
          refine tB (i:=8) (oi:=⟨some 94,.move (.tmp 15),_,_,_,_⟩) (v:=?v_az) ?hy_az (by assumption) ?rest_az
          case hy_az=>(intro w hSw;(try dsimp only at hSw);go_simp;try (with_reducible rfl))
          try simp only [Act.put,q1,q2,q3]
          refine tB (i:=9) (oi:=⟨some 95,.binOp .gtr 3 (.tmp 94) ((.const (.int .i64 0))) 3,_,_,_,_⟩) (v:=?v_a0) ?hy_a0 (by assumption) ?rest_a0
          case hy_a0=>(intro w hSw;(try dsimp only at hSw);go_simp;try (with_reducible rfl))
          try simp only [Act.put,q1,q2,q3]
          refine tB (i:=10) (oi:=⟨some 96,.move (.tmp 95),_,_,_,_⟩) (v:=?v_d6) ?hy_d6 (by assumption) ?rest_d6
          case hy_d6=>(intro w hSw;(try dsimp only at hSw);go_simp;try (with_reducible rfl))
          try simp only [Act.put,q1,q2,q3]
          refine tO (i:=11) (oi:=⟨some 97,.move (.tmp 5),_,_,_,_⟩) (by assumption) ?rest_d7;try simp only [Act.put,q1,q2,q3]
          refine tO (i:=12) (oi:=⟨some 98,.move (.tmp 15),_,_,_,_⟩) (by assumption) ?rest_d8;try simp only [Act.put,q1,q2,q3]
          refine tO (i:=13) (oi:=⟨some 99,.binOp .sub 3 (.tmp 98) ((.const (.int .i64 1))) 3,_,_,_,_⟩) (by assumption) ?rest_d9;try simp only [Act.put,q1,q2,q3]
          refine tO (i:=14) (oi:=⟨some 100,.indexAddr 30 (.tmp 97) (.tmp 99),_,_,_,_⟩) (by assumption) ?rest_ea;try simp only [Act.put,q1,q2,q3]
          refine tO (i:=15) (oi:=⟨some 101,.load 27 (.tmp 100),_,_,_,_⟩) (by assumption) ?rest_eb;try simp only [Act.put,q1,q2,q3]
          refine tO (i:=16) (oi:=⟨some 102,.move (.tmp 5),_,_,_,_⟩) (by assumption) ?rest_ec;try simp only [Act.put,q1,q2,q3]
          refine tO (i:=17) (oi:=⟨some 103,.move (.tmp 15),_,_,_,_⟩) (by assumption) ?rest_ed;try simp only [Act.put,q1,q2,q3]
          refine tO (i:=18) (oi:=⟨some 104,.indexAddr 30 (.tmp 102) (.tmp 103),_,_,_,_⟩) (by assumption) ?rest_ee;try simp only [Act.put,q1,q2,q3]
          refine tO (i:=19) (oi:=⟨some 105,.load 27 (.tmp 104),_,_,_,_⟩) (by assumption) ?rest_ef;try simp only [Act.put,q1,q2,q3]
          refine tO (i:=20) (oi:=⟨some 106,.call { callee:=.value (.func 16),args:=#[(.tmp 101),(.tmp 105)],argTypes:=#[27,27] },_,_,_,_⟩) (by assumption) ?rest_eg;try simp only [Act.put,q1,q2,q3]
          refine tO (i:=21) (oi:=⟨some 107,.unOp .not 4 (.tmp 106),_,_,_,_⟩) (by assumption) ?rest_eh;try simp only [Act.put,q1,q2,q3]
          refine tB (i:=22) (oi:=⟨some 108,.pick (.tmp 96) (.tmp 107) ((.const (.bool false))),_,_,_,_⟩) (v:=?v_ei) ?hy_ei (by assumption) ?rest_ei
          case hy_ei=>(intro w hSw;(try dsimp only at hSw);go_simp;try (with_reducible rfl))
          try simp only [Act.put,q1,q2,q3]
          refine tB (i:=23) (oi:=⟨some 109,.pick (.tmp 93) ((.const (.bool true))) (.tmp 108),_,_,_,_⟩) (v:=?v_ej) ?hy_ej (by assumption) ?rest_ej
          case hy_ej=>(intro w hSw;(try dsimp only at hSw);go_simp;try (with_reducible rfl))
          try simp only [Act.put,q1,q2,q3]
          refine tB (i:=24) (oi:=⟨some 110,.move (.tmp 109),_,_,_,_⟩) (v:=?v_ek) ?hy_ek (by assumption) ?rest_ek
          case hy_ek=>(intro w hSw;(try dsimp only at hSw);go_simp;try (with_reducible rfl))
          try simp only [Act.put,q1,q2,q3]
          refine tB (i:=25) (oi:=⟨some 111,.fieldAddr 26 (.tmp 2) 2,_,_,_,_⟩) (v:=?v_el) ?hy_el (by assumption) ?rest_el
          case hy_el=>(intro w hSw;(try dsimp only at hSw);go_simp;try (with_reducible rfl))
          try simp only [Act.put,q1,q2,q3]
          refine tB (i:=26) (oi:=⟨some 112,.load 4 (.tmp 111),_,_,_,_⟩) (v:=?v_em) ?hy_em (by assumption) ?rest_em
          case hy_em=>(intro w hSw;(try dsimp only at hSw);go_simp;try (with_reducible rfl))
          try simp only [Act.put,q1,q2,q3]
          refine tB (i:=27) (oi:=⟨some 113,.move (.tmp 112),_,_,_,_⟩) (v:=?v_en) ?hy_en (by assumption) ?rest_en
          case hy_en=>(intro w hSw;(try dsimp only at hSw);go_simp;try (with_reducible rfl))
          try simp only [Act.put,q1,q2,q3]
          refine tO (i:=28) (oi:=⟨some 114,.load 26 (.tmp 2),_,_,_,_⟩) (by assumption) ?rest_eo;try simp only [Act.put,q1,q2,q3]
          refine tO (i:=29) (oi:=⟨some 115,.move (.tmp 5),_,_,_,_⟩) (by assumption) ?rest_ep;try simp only [Act.put,q1,q2,q3]
          refine tO (i:=30) (oi:=⟨some 116,.move (.tmp 15),_,_,_,_⟩) (by assumption) ?rest_eq;try simp only [Act.put,q1,q2,q3]
          refine tO (i:=31) (oi:=⟨some 117,.indexAddr 30 (.tmp 115) (.tmp 116),_,_,_,_⟩) (by assumption) ?rest_er;try simp only [Act.put,q1,q2,q3]
          refine tO (i:=32) (oi:=⟨some 118,.load 27 (.tmp 117),_,_,_,_⟩) (by assumption) ?rest_es;try simp only [Act.put,q1,q2,q3]
          refine tO (i:=33) (oi:=⟨some 119,.call { callee:=.value (.func 17),args:=#[(.tmp 114),(.tmp 118)],argTypes:=#[26,27] },_,_,_,_⟩) (by assumption) ?rest_et;try simp only [Act.put,q1,q2,q3]
          refine tO (i:=34) (oi:=⟨some 120,.fieldAddr 39 (.tmp 9) 2,_,_,_,_⟩) (by assumption) ?rest_eu;try simp only [Act.put,q1,q2,q3]
          refine tO (i:=35) (oi:=⟨some 121,.load 3 (.tmp 120),_,_,_,_⟩) (by assumption) ?rest_ev;try simp only [Act.put,q1,q2,q3]
          refine tO (i:=36) (oi:=⟨some 122,.binOp .lss 3 (.tmp 119) (.tmp 121) 3,_,_,_,_⟩) (by assumption) ?rest_ew;try simp only [Act.put,q1,q2,q3]
          refine tB (i:=37) (oi:=⟨some 123,.pick (.tmp 113) (.tmp 122) ((.const (.bool false))),_,_,_,_⟩) (v:=?v_ex) ?hy_ex (by assumption) ?rest_ex
          case hy_ex=>(intro w hSw;(try dsimp only at hSw);go_simp;try (with_reducible rfl))
          try simp only [Act.put,q1,q2,q3]
          refine tB (i:=38) (oi:=⟨some 124,.pick (.tmp 110) ((.const (.bool true))) (.tmp 123),_,_,_,_⟩) (v:=?v_ey) ?hy_ey (by assumption) ?rest_ey
          case hy_ey=>(intro w hSw;(try dsimp only at hSw);go_simp;try (with_reducible rfl))
          try simp only [Act.put,q1,q2,q3]
          refine zu (by kernel_rfl) ?_ _;go_wp2_with fail
          go_meet;refine ⟨?_,HT1.out⟩
          first | rfl | (simp;done)
        · skip
          have hnw:¬ Md.worth m x<wo:=HWx.out hhas;obtain ⟨wx,hwx⟩:∃ q,Md.worth m x=q:=⟨_,rfl⟩;rw [hwx] at hnw HWo;have hnd:decide (wx<wo)=false:=decide_eq_false hnw;clear hwx;have HMb:Hid (∀ w',TF w w.heap.size p m (.slice va m.vars.length vp) (.slice ca m.cons.length cp) (.slice ga m.goal.length gp) S (some ⟨g,0,none⟩) kd wo (.slice az z.length cz) z (.slice xa l.length xc) l w'->w'.heap[w.heap.size]?=some (.cells #[.slice va m.vars.length vp,.slice ca m.cons.length cp,.bool true,.slice ga m.goal.length gp] 26 (0,0))):=fun w' T=>by
            have:=T.mbox;rw [hhas] at this;exact this
          have hSo:=HSol.out;rw [hhas] at hSo;have HSo:Hid (∀ w',TF w w.heap.size p m (.slice va m.vars.length vp) (.slice ca m.cons.length cp) (.slice ga m.goal.length gp) S (some ⟨g,0,none⟩) kd wo (.slice az z.length cz) z (.slice xa l.length xc) l w'->MInts w' (.slice ua x.length uc) x->Calls Tryz.prog 15 #[.agg #[.slice va m.vars.length vp,.slice ca m.cons.length cp,.bool true,.slice ga m.goal.length gp],.slice ua x.length uc] w' fun e w''=>e=.returned (.bool true)/\Below w'.heap.size w' w''):=hSo;have hWo:=HWo.out;rw [hhas] at hWo
          have HWp:Hid (∀ w',TF w w.heap.size p m (.slice va m.vars.length vp) (.slice ca m.cons.length cp) (.slice ga m.goal.length gp) S (some ⟨g,0,none⟩) kd wo (.slice az z.length cz) z (.slice xa l.length xc) l w'->MInts w' (.slice ua x.length uc) x->Calls Tryz.prog 17 #[.agg #[.slice va m.vars.length vp,.slice ca m.cons.length cp,.bool true,.slice ga m.goal.length gp],.slice ua x.length uc] w' fun e w''=>e=.returned (.int .i64 wx)/\Below w'.heap.size w' w''):=hWo;clear hWo;clear hSo hhas HSol HWo;have HT0:Hid (TF w w.heap.size p m (.slice va m.vars.length vp) (.slice ca m.cons.length cp) (.slice ga m.goal.length gp) S (some ⟨g,0,none⟩) kd wo (.slice az z.length cz) z (.slice xa l.length xc) l wr.drew):=HTf.out.next (Below.refl _ _).drew;have HB0:Hid (Below wr.heap.size wr wr.drew):=(Below.refl _ _).drew
          refine zt (fun w'=>w'.heap[w.heap.size]?=some (.cells #[.slice va m.vars.length vp,.slice ca m.cons.length cp,.bool true,.slice ga m.goal.length gp] 26 (0,0))/\w'.cell? ⟨w.heap.size,2,none⟩=some (.bool true)/\w'.cell? ⟨g,i,none⟩=some (.slice ua x.length uc)/\w'.cell? ⟨p,2,none⟩=some (.int .i64 wo)) (fun _=>True) [] (by kernel_rfl) ⟨⟨HMb.out wr.drew HT0.out,yb (HMb.out wr.drew HT0.out) 2,(HC1.out wr.drew HB0.out).1,yb HT0.out.vbox 2⟩,trivial⟩ (fun hHeld=>?_)
          refine zL (i:=0) (oi:=⟨some 86,.load 26 (.tmp 2),_,_,_,_⟩) (v:=.agg #[.slice va m.vars.length vp,.slice ca m.cons.length cp,.bool true,.slice ga m.goal.length gp]) rfl (by kernel_rfl) (by kernel_rfl) (by kernel_rfl) (by kernel_rfl) (fun _ _ _ h=>h) (xP 26 (.tmp 2) rfl w.heap.size (by rfl) 26 #[.slice va m.vars.length vp,.slice ca m.cons.length cp,.bool true,.slice ga m.goal.length gp] (0,0) _ (fun w h=>h.1) Tryz.underlying26 rfl xQ (by rfl)) (by assumption) ?rest_a1;try simp only [Act.put,q1,q2,q3]
          refine tB (i:=1) (oi:=⟨some 87,.move (.tmp 5),_,_,_,_⟩) (v:=?v_a2) ?hy_a2 (by assumption) ?rest_a2
          case hy_a2=>(intro w hSw;(try dsimp only at hSw);go_simp;try (with_reducible rfl))
          try simp only [Act.put,q1,q2,q3]
          refine tB (i:=2) (oi:=⟨some 88,.move (.tmp 15),_,_,_,_⟩) (v:=?v_a3) ?hy_a3 (by assumption) ?rest_a3
          case hy_a3=>(intro w hSw;(try dsimp only at hSw);go_simp;try (with_reducible rfl))
          try simp only [Act.put,q1,q2,q3]
          refine tB (i:=3) (oi:=⟨some 89,.indexAddr 30 (.tmp 87) (.tmp 88),_,_,_,_⟩) (v:=?v_a4) ?hy_a4 (by assumption) ?rest_a4
          case hy_a4=>(intro w hSw;(try dsimp only at hSw);go_simp;try (with_reducible rfl))
          try simp only [Act.put,q1,q2,q3]
          refine tB (i:=4) (oi:=⟨some 90,.load 27 (.tmp 89),_,_,_,_⟩) (v:=?v_a5) ?hy_a5 (by assumption) ?rest_a5
          case hy_a5=>(intro w hSw;(try dsimp only at hSw);go_simp;try (with_reducible rfl))
          try simp only [Act.put,q1,q2,q3]
          refine yF (i:=5) (o:=⟨some 91,.call { callee:=.value (.func 15),args:=#[(.tmp 86),(.tmp 90)],argTypes:=#[26,27] },_,_,_,_⟩) (by kernel_rfl) rfl (fun K hK=>?_);go_simp;refine mcA (HSo.out wr.drew HT0.out (HC1.out wr.drew HB0.out).2) ?_;rintro e u1 ⟨rfl,hb⟩;have HT1:Hid (TF w w.heap.size p m (.slice va m.vars.length vp) (.slice ca m.cons.length cp) (.slice ga m.goal.length gp) S (some ⟨g,0,none⟩) kd wo (.slice az z.length cz) z (.slice xa l.length xc) l u1):=HT0.out.next hb;have HB1:Hid (Below wr.heap.size wr u1):=ym HB0.out hb;clear hb;go_wp2_with fail
          refine hK.out _ _ ⟨⟨HMb.out u1 HT1.out,yb (HMb.out u1 HT1.out) 2,(HC1.out u1 HB1.out).1,yb HT1.out.vbox 2⟩,fun _=>trivial⟩ ?_;have hHeld:=(⟨⟨HMb.out u1 HT1.out,yb (HMb.out u1 HT1.out) 2,(HC1.out u1 HB1.out).1,yb HT1.out.vbox 2⟩,trivial⟩:(u1.heap[w.heap.size]?=some (.cells #[.slice va m.vars.length vp,.slice ca m.cons.length cp,.bool true,.slice ga m.goal.length gp] 26 (0,0))/\u1.cell? ⟨w.heap.size,2,none⟩=some (.bool true)/\u1.cell? ⟨g,i,none⟩=some (.slice ua x.length uc)/\u1.cell? ⟨p,2,none⟩=some (.int .i64 wo))/\True);clear hK K;try simp only [Act.put,q1,q2,q3]
          refine tB (i:=6) (oi:=⟨some 92,.unOp .not 4 (.tmp 91),_,_,_,_⟩) (v:=?v_a6) ?hy_a6 (by assumption) ?rest_a6
          case hy_a6=>(intro w hSw;(try dsimp only at hSw);go_simp;try (with_reducible rfl))
          try simp only [Act.put,q1,q2,q3]
          refine tB (i:=7) (oi:=⟨some 93,.move (.tmp 92),_,_,_,_⟩) (v:=?v_a7) ?hy_a7 (by assumption) ?rest_a7
          case hy_a7=>(intro w hSw;(try dsimp only at hSw);go_simp;try (with_reducible rfl))
          try simp only [Act.put,q1,q2,q3]
          refine tB (i:=8) (oi:=⟨some 94,.move (.tmp 15),_,_,_,_⟩) (v:=?v_a8) ?hy_a8 (by assumption) ?rest_a8
          case hy_a8=>(intro w hSw;(try dsimp only at hSw);go_simp;try (with_reducible rfl))
          try simp only [Act.put,q1,q2,q3]
          refine tB (i:=9) (oi:=⟨some 95,.binOp .gtr 3 (.tmp 94) ((.const (.int .i64 0))) 3,_,_,_,_⟩) (v:=?v_a9) ?hy_a9 (by assumption) ?rest_a9
          case hy_a9=>(intro w hSw;(try dsimp only at hSw);go_simp;try (with_reducible rfl))
          try simp only [Act.put,q1,q2,q3]
          refine tB (i:=10) (oi:=⟨some 96,.move (.tmp 95),_,_,_,_⟩) (v:=?v_ez) ?hy_ez (by assumption) ?rest_ez
          case hy_ez=>(intro w hSw;(try dsimp only at hSw);go_simp;try (with_reducible rfl))
          try simp only [Act.put,q1,q2,q3]
          refine tO (i:=11) (oi:=⟨some 97,.move (.tmp 5),_,_,_,_⟩) (by assumption) ?rest_e0;try simp only [Act.put,q1,q2,q3]
          refine tO (i:=12) (oi:=⟨some 98,.move (.tmp 15),_,_,_,_⟩) (by assumption) ?rest_e1;try simp only [Act.put,q1,q2,q3]
          refine tO (i:=13) (oi:=⟨some 99,.binOp .sub 3 (.tmp 98) ((.const (.int .i64 1))) 3,_,_,_,_⟩) (by assumption) ?rest_e2;try simp only [Act.put,q1,q2,q3]
          refine tO (i:=14) (oi:=⟨some 100,.indexAddr 30 (.tmp 97) (.tmp 99),_,_,_,_⟩) (by assumption) ?rest_e3;try simp only [Act.put,q1,q2,q3]
          refine tO (i:=15) (oi:=⟨some 101,.load 27 (.tmp 100),_,_,_,_⟩) (by assumption) ?rest_e4;try simp only [Act.put,q1,q2,q3]
          refine tO (i:=16) (oi:=⟨some 102,.move (.tmp 5),_,_,_,_⟩) (by assumption) ?rest_e5;try simp only [Act.put,q1,q2,q3]
          refine tO (i:=17) (oi:=⟨some 103,.move (.tmp 15),_,_,_,_⟩) (by assumption) ?rest_e6;try simp only [Act.put,q1,q2,q3]
          refine tO (i:=18) (oi:=⟨some 104,.indexAddr 30 (.tmp 102) (.tmp 103),_,_,_,_⟩) (by assumption) ?rest_e7;try simp only [Act.put,q1,q2,q3]
          refine tO (i:=19) (oi:=⟨some 105,.load 27 (.tmp 104),_,_,_,_⟩) (by assumption) ?rest_e8;try simp only [Act.put,q1,q2,q3]
          refine tO (i:=20) (oi:=⟨some 106,.call { callee:=.value (.func 16),args:=#[(.tmp 101),(.tmp 105)],argTypes:=#[27,27] },_,_,_,_⟩) (by assumption) ?rest_e9;try simp only [Act.put,q1,q2,q3]
          refine tO (i:=21) (oi:=⟨some 107,.unOp .not 4 (.tmp 106),_,_,_,_⟩) (by assumption) ?rest_fa;try simp only [Act.put,q1,q2,q3]
          refine tB (i:=22) (oi:=⟨some 108,.pick (.tmp 96) (.tmp 107) ((.const (.bool false))),_,_,_,_⟩) (v:=?v_fb) ?hy_fb (by assumption) ?rest_fb
          case hy_fb=>(intro w hSw;(try dsimp only at hSw);go_simp;try (with_reducible rfl))
          try simp only [Act.put,q1,q2,q3]
          refine tB (i:=23) (oi:=⟨some 109,.pick (.tmp 93) ((.const (.bool true))) (.tmp 108),_,_,_,_⟩) (v:=?v_fc) ?hy_fc (by assumption) ?rest_fc
          case hy_fc=>(intro w hSw;(try dsimp only at hSw);go_simp;try (with_reducible rfl))
          try simp only [Act.put,q1,q2,q3]
          refine tB (i:=24) (oi:=⟨some 110,.move (.tmp 109),_,_,_,_⟩) (v:=?v_fd) ?hy_fd (by assumption) ?rest_fd
          case hy_fd=>(intro w hSw;(try dsimp only at hSw);go_simp;try (with_reducible rfl))
          try simp only [Act.put,q1,q2,q3]
          refine tB (i:=25) (oi:=⟨some 111,.fieldAddr 26 (.tmp 2) 2,_,_,_,_⟩) (v:=?v_fe) ?hy_fe (by assumption) ?rest_fe
          case hy_fe=>(intro w hSw;(try dsimp only at hSw);go_simp;try (with_reducible rfl))
          try simp only [Act.put,q1,q2,q3]
          refine tB (i:=26) (oi:=⟨some 112,.load 4 (.tmp 111),_,_,_,_⟩) (v:=?v_ff) ?hy_ff (by assumption) ?rest_ff
          case hy_ff=>(intro w hSw;(try dsimp only at hSw);go_simp;try (with_reducible rfl))
          try simp only [Act.put,q1,q2,q3]
          refine tB (i:=27) (oi:=⟨some 113,.move (.tmp 112),_,_,_,_⟩) (v:=?v_fg) ?hy_fg (by assumption) ?rest_fg
          case hy_fg=>(intro w hSw;(try dsimp only at hSw);go_simp;try (with_reducible rfl))
          try simp only [Act.put,q1,q2,q3]
          refine zL (i:=28) (oi:=⟨some 114,.load 26 (.tmp 2),_,_,_,_⟩) (v:=.agg #[.slice va m.vars.length vp,.slice ca m.cons.length cp,.bool true,.slice ga m.goal.length gp]) rfl (by kernel_rfl) (by kernel_rfl) (by kernel_rfl) (by kernel_rfl) (fun _ _ _ h=>h) (xP 26 (.tmp 2) rfl w.heap.size (by rfl) 26 #[.slice va m.vars.length vp,.slice ca m.cons.length cp,.bool true,.slice ga m.goal.length gp] (0,0) _ (fun w h=>h.1) Tryz.underlying26 rfl xQ (by rfl)) (by assumption) ?rest_fh;try simp only [Act.put,q1,q2,q3]
          refine tB (i:=29) (oi:=⟨some 115,.move (.tmp 5),_,_,_,_⟩) (v:=?v_fi) ?hy_fi (by assumption) ?rest_fi
          case hy_fi=>(intro w hSw;(try dsimp only at hSw);go_simp;try (with_reducible rfl))
          try simp only [Act.put,q1,q2,q3]
          refine tB (i:=30) (oi:=⟨some 116,.move (.tmp 15),_,_,_,_⟩) (v:=?v_fj) ?hy_fj (by assumption) ?rest_fj
          case hy_fj=>(intro w hSw;(try dsimp only at hSw);go_simp;try (with_reducible rfl))
          try simp only [Act.put,q1,q2,q3]
          refine tB (i:=31) (oi:=⟨some 117,.indexAddr 30 (.tmp 115) (.tmp 116),_,_,_,_⟩) (v:=?v_fk) ?hy_fk (by assumption) ?rest_fk
          case hy_fk=>(intro w hSw;(try dsimp only at hSw);go_simp;try (with_reducible rfl))
          try simp only [Act.put,q1,q2,q3]
          refine tB (i:=32) (oi:=⟨some 118,.load 27 (.tmp 117),_,_,_,_⟩) (v:=?v_fl) ?hy_fl (by assumption) ?rest_fl
          case hy_fl=>(intro w hSw;(try dsimp only at hSw);go_simp;try (with_reducible rfl))
          try simp only [Act.put,q1,q2,q3]
          refine tB (i:=34) (oi:=⟨some 120,.fieldAddr 39 (.tmp 9) 2,_,_,_,_⟩) (v:=?v_fm) ?hy_fm (by assumption) ?rest_fm
          case hy_fm=>(intro w hSw;(try dsimp only at hSw);go_simp;try (with_reducible rfl))
          try simp only [Act.put,q1,q2,q3]
          refine tB (i:=35) (oi:=⟨some 121,.load 3 (.tmp 120),_,_,_,_⟩) (v:=?v_fn) ?hy_fn (by assumption) ?rest_fn
          case hy_fn=>(intro w hSw;(try dsimp only at hSw);go_simp;try (with_reducible rfl))
          try simp only [Act.put,q1,q2,q3]
          refine yF (i:=33) (o:=⟨some 119,.call { callee:=.value (.func 17),args:=#[(.tmp 114),(.tmp 118)],argTypes:=#[26,27] },_,_,_,_⟩) (by kernel_rfl) rfl (fun K hK=>?_);go_simp;refine mcA (HWp.out u1 HT1.out (HC1.out u1 HB1.out).2) ?_;rintro e u3 ⟨rfl,hb⟩;have HT3:Hid (TF w w.heap.size p m (.slice va m.vars.length vp) (.slice ca m.cons.length cp) (.slice ga m.goal.length gp) S (some ⟨g,0,none⟩) kd wo (.slice az z.length cz) z (.slice xa l.length xc) l u3):=HT1.out.next hb;have HB3:Hid (Below wr.heap.size wr u3):=ym HB1.out hb;clear hb;go_wp2_with fail
          refine hK.out _ _ ⟨⟨HMb.out u3 HT3.out,yb (HMb.out u3 HT3.out) 2,(HC1.out u3 HB3.out).1,yb HT3.out.vbox 2⟩,fun _=>trivial⟩ ?_;have hHeld:=(⟨⟨HMb.out u3 HT3.out,yb (HMb.out u3 HT3.out) 2,(HC1.out u3 HB3.out).1,yb HT3.out.vbox 2⟩,trivial⟩:(u3.heap[w.heap.size]?=some (.cells #[.slice va m.vars.length vp,.slice ca m.cons.length cp,.bool true,.slice ga m.goal.length gp] 26 (0,0))/\u3.cell? ⟨w.heap.size,2,none⟩=some (.bool true)/\u3.cell? ⟨g,i,none⟩=some (.slice ua x.length uc)/\u3.cell? ⟨p,2,none⟩=some (.int .i64 wo))/\True);clear hK K;try simp only [Act.put,q1,q2,q3]
          refine tB (i:=36) (oi:=⟨some 122,.binOp .lss 3 (.tmp 119) (.tmp 121) 3,_,_,_,_⟩) (v:=?v_fo) ?hy_fo (by assumption) ?rest_fo
          case hy_fo=>(intro w hSw;(try dsimp only at hSw);go_simp;try (with_reducible rfl))
          try simp only [Act.put,q1,q2,q3]
          refine tB (i:=37) (oi:=⟨some 123,.pick (.tmp 113) (.tmp 122) ((.const (.bool false))),_,_,_,_⟩) (v:=?v_fp) ?hy_fp (by assumption) ?rest_fp
          case hy_fp=>(intro w hSw;(try dsimp only at hSw);go_simp;try (with_reducible rfl))
          try simp only [Act.put,q1,q2,q3]
          refine tB (i:=38) (oi:=⟨some 124,.pick (.tmp 110) ((.const (.bool true))) (.tmp 123),_,_,_,_⟩) (v:=?v_fq) ?hy_fq (by assumption) ?rest_fq
          case hy_fq=>(intro w hSw;(try dsimp only at hSw);go_simp;try (with_reducible rfl))
          try simp only [Act.put,q1,q2,q3]
          refine zu (by kernel_rfl) ?_ _;go_wp2_with fail
          go_meet;refine ⟨?_,HT3.out⟩
          first | rfl | (simp;done)
    case rest=>
    obtain ⟨rfl,HTf2⟩:=hcut;clear HTf HSx HWx HPx;rename World=>wy;go_upto_region 19 with fail
    go_cut [13] from 125 to 134 (fun v wx=>v=.bool ((S.take (i+1)).any (·==z))/\Hid (TF w w.heap.size p m (.slice va m.vars.length vp) (.slice ca m.cons.length cp) (.slice ga m.goal.length gp) S a5 kd wo (.slice az z.length cz) z (.slice xa l.length xc) l wx))
    case first=>
      obtain ⟨g,ua,uc,rfl,hc1,hm1⟩:=HRx.out wy HTf2.out;have hT0:TF w w.heap.size p m (.slice va m.vars.length vp) (.slice ca m.cons.length cp) (.slice ga m.goal.length gp) S (some ⟨g,0,none⟩) kd wo (.slice az z.length cz) z (.slice xa l.length xc) l wy.drew:=HTf2.out.next (Below.refl _ _).drew;have HT0:Hid (TF w w.heap.size p m (.slice va m.vars.length vp) (.slice ca m.cons.length cp) (.slice ga m.goal.length gp) S (some ⟨g,0,none⟩) kd wo (.slice az z.length cz) z (.slice xa l.length xc) l wy.drew):=hT0;have HCx:Hid (∀ w',Below wy.heap.size wy w'->w'.cell? ⟨g,i,none⟩=some (.slice ua x.length uc)):=fun w' hb=>(hb.cell (p:=⟨g,i,none⟩) (World.block_lt_of_cell? wy _ hc1)).trans hc1
      have HSi:Hid (Calls Tryz.prog 18 #[.slice ua x.length uc,.slice az z.length cz] wy.drew fun e w'=>e=.returned (.bool (x==z))/\Below wy.drew.heap.size wy.drew w'):=Xm _ _ x z wy.drew (hm1.below (Below.refl _ _).drew) hT0.val;have HRes:Hid ((S.take (i+1)).any (·==z)=(am||(x==z))):=by show _=_;rw [HAx.out z,HAm.out]
      obtain ⟨bq,hbq⟩:∃ b,(x==z)=b:=⟨_,rfl⟩;rw [hbq] at HSi HRes;clear hbq hc1 hm1 hT0
      cases am with
      | true =>
        refine zt (fun w'=>w'.cell? ⟨g,i,none⟩=some (.slice ua x.length uc)) (fun _=>True) [] (by kernel_rfl) ⟨HCx.out _ (Below.refl _ _).drew,trivial⟩ (fun hHeld=>?_);refine tB (i:=0) (oi:=⟨some 125,.move (.tmp 13),_,_,_,_⟩) (v:=?v_ba) ?hy_ba (by assumption) ?rest_ba
        case hy_ba=>(intro w hSw;(try dsimp only at hSw);go_simp;try (with_reducible rfl))
        try simp only [Act.put,q1,q2,q3]
        refine tB (i:=1) (oi:=⟨some 126,.move (.tmp 125),_,_,_,_⟩) (v:=?v_bb) ?hy_bb (by assumption) ?rest_bb
        case hy_bb=>(intro w hSw;(try dsimp only at hSw);go_simp;try (with_reducible rfl))
        try simp only [Act.put,q1,q2,q3]
        refine tO (i:=2) (oi:=⟨some 127,.move (.tmp 5),_,_,_,_⟩) (by assumption) ?rest_bc;try simp only [Act.put,q1,q2,q3]
        refine tO (i:=3) (oi:=⟨some 128,.move (.tmp 15),_,_,_,_⟩) (by assumption) ?rest_bd;try simp only [Act.put,q1,q2,q3]
        refine tO (i:=4) (oi:=⟨some 129,.indexAddr 30 (.tmp 127) (.tmp 128),_,_,_,_⟩) (by assumption) ?rest_be;try simp only [Act.put,q1,q2,q3]
        refine tO (i:=5) (oi:=⟨some 130,.load 27 (.tmp 129),_,_,_,_⟩) (by assumption) ?rest_bf;try simp only [Act.put,q1,q2,q3]
        refine tO (i:=6) (oi:=⟨some 131,.fieldAddr 39 (.tmp 9) 4,_,_,_,_⟩) (by assumption) ?rest_bg;try simp only [Act.put,q1,q2,q3]
        refine tO (i:=7) (oi:=⟨some 132,.load 27 (.tmp 131),_,_,_,_⟩) (by assumption) ?rest_bh;try simp only [Act.put,q1,q2,q3]
        refine tO (i:=8) (oi:=⟨some 133,.call { callee:=.value (.func 18),args:=#[(.tmp 130),(.tmp 132)],argTypes:=#[27,27] },_,_,_,_⟩) (by assumption) ?rest_bi;try simp only [Act.put,q1,q2,q3]
        refine tB (i:=9) (oi:=⟨some 134,.pick (.tmp 126) ((.const (.bool true))) (.tmp 133),_,_,_,_⟩) (v:=?v_bj) ?hy_bj (by assumption) ?rest_bj
        case hy_bj=>(intro w hSw;(try dsimp only at hSw);go_simp;try (with_reducible rfl))
        try simp only [Act.put,q1,q2,q3]
        refine tB (i:=10) (oi:=⟨some 13,.assign (.tmp 134),_,_,_,_⟩) (v:=?v_fr) ?hy_fr (by assumption) ?rest_fr
        case hy_fr=>(intro w hSw;(try dsimp only at hSw);go_simp;try (with_reducible rfl))
        try simp only [Act.put,q1,q2,q3]
        refine zu (by kernel_rfl) ?_ _;go_wp2_with fail
        go_meet;exact ⟨Yu HRes.out.symm,HT0.out⟩
      | false =>
        refine zt (fun w'=>w'.cell? ⟨g,i,none⟩=some (.slice ua x.length uc)/\w'.cell? ⟨p,4,none⟩=some (.slice az z.length cz)) (fun _=>True) [] (by kernel_rfl) ⟨⟨HCx.out _ (Below.refl _ _).drew,yb HT0.out.vbox 4⟩,trivial⟩ (fun hHeld=>?_);refine tB (i:=0) (oi:=⟨some 125,.move (.tmp 13),_,_,_,_⟩) (v:=?v_bk) ?hy_bk (by assumption) ?rest_bk
        case hy_bk=>(intro w hSw;(try dsimp only at hSw);go_simp;try (with_reducible rfl))
        try simp only [Act.put,q1,q2,q3]
        refine tB (i:=1) (oi:=⟨some 126,.move (.tmp 125),_,_,_,_⟩) (v:=?v_bl) ?hy_bl (by assumption) ?rest_bl
        case hy_bl=>(intro w hSw;(try dsimp only at hSw);go_simp;try (with_reducible rfl))
        try simp only [Act.put,q1,q2,q3]
        refine tB (i:=2) (oi:=⟨some 127,.move (.tmp 5),_,_,_,_⟩) (v:=?v_bm) ?hy_bm (by assumption) ?rest_bm
        case hy_bm=>(intro w hSw;(try dsimp only at hSw);go_simp;try (with_reducible rfl))
        try simp only [Act.put,q1,q2,q3]
        refine tB (i:=3) (oi:=⟨some 128,.move (.tmp 15),_,_,_,_⟩) (v:=?v_bn) ?hy_bn (by assumption) ?rest_bn
        case hy_bn=>(intro w hSw;(try dsimp only at hSw);go_simp;try (with_reducible rfl))
        try simp only [Act.put,q1,q2,q3]
        refine tB (i:=4) (oi:=⟨some 129,.indexAddr 30 (.tmp 127) (.tmp 128),_,_,_,_⟩) (v:=?v_bo) ?hy_bo (by assumption) ?rest_bo
        case hy_bo=>(intro w hSw;(try dsimp only at hSw);go_simp;try (with_reducible rfl))
        try simp only [Act.put,q1,q2,q3]
        refine tB (i:=5) (oi:=⟨some 130,.load 27 (.tmp 129),_,_,_,_⟩) (v:=?v_bp) ?hy_bp (by assumption) ?rest_bp
        case hy_bp=>(intro w hSw;(try dsimp only at hSw);go_simp;try (with_reducible rfl))
        try simp only [Act.put,q1,q2,q3]
        refine tB (i:=6) (oi:=⟨some 131,.fieldAddr 39 (.tmp 9) 4,_,_,_,_⟩) (v:=?v_bq) ?hy_bq (by assumption) ?rest_bq
        case hy_bq=>(intro w hSw;(try dsimp only at hSw);go_simp;try (with_reducible rfl))
        try simp only [Act.put,q1,q2,q3]
        refine tB (i:=7) (oi:=⟨some 132,.load 27 (.tmp 131),_,_,_,_⟩) (v:=?v_br) ?hy_br (by assumption) ?rest_br
        case hy_br=>(intro w hSw;(try dsimp only at hSw);go_simp;try (with_reducible rfl))
        try simp only [Act.put,q1,q2,q3]
        refine yF (i:=8) (o:=⟨some 133,.call { callee:=.value (.func 18),args:=#[(.tmp 130),(.tmp 132)],argTypes:=#[27,27] },_,_,_,_⟩) (by kernel_rfl) rfl (fun K hK=>?_);go_simp;refine mcA HSi.out ?_;rintro e u1 ⟨rfl,hb⟩;have HT1:Hid (TF w w.heap.size p m (.slice va m.vars.length vp) (.slice ca m.cons.length cp) (.slice ga m.goal.length gp) S (some ⟨g,0,none⟩) kd wo (.slice az z.length cz) z (.slice xa l.length xc) l u1):=HT0.out.next hb;have HB1:Hid (Below wy.heap.size wy u1):=ym (Below.refl _ _).drew hb;clear hb;go_wp2_with fail
        refine hK.out _ _ ⟨⟨HCx.out u1 HB1.out,yb HT1.out.vbox 4⟩,fun _=>trivial⟩ ?_;have hHeld:=(⟨⟨HCx.out u1 HB1.out,yb HT1.out.vbox 4⟩,trivial⟩:(u1.cell? ⟨g,i,none⟩=some (.slice ua x.length uc)/\u1.cell? ⟨p,4,none⟩=some (.slice az z.length cz))/\True);clear hK K;try simp only [Act.put,q1,q2,q3]
        refine tB (i:=9) (oi:=⟨some 134,.pick (.tmp 126) ((.const (.bool true))) (.tmp 133),_,_,_,_⟩) (v:=?v_bs) ?hy_bs (by assumption) ?rest_bs
        case hy_bs=>(intro w hSw;(try dsimp only at hSw);go_simp;try (with_reducible rfl))
        try simp only [Act.put,q1,q2,q3]
        refine tB (i:=10) (oi:=⟨some 13,.assign (.tmp 134),_,_,_,_⟩) (v:=?v_fs) ?hy_fs (by assumption) ?rest_fs
        case hy_fs=>(intro w hSw;(try dsimp only at hSw);go_simp;try (with_reducible rfl))
        try simp only [Act.put,q1,q2,q3]
        refine zu (by kernel_rfl) ?_ _;go_wp2_with fail
        go_meet;exact ⟨Yu HRes.out.symm,HT1.out⟩
    case rest=>
    obtain ⟨rfl,HTf3⟩:=hcut;clear HTf2;rename World=>wz;obtain ⟨g,ua,uc,e5,hc1,hm1⟩:=HRx.out wz HTf3.out;have HSi:Hid (Calls Tryz.prog 18 #[.slice ua x.length uc,.slice xa l.length xc] wz fun e w'=>e=.returned (.bool (x==l))/\Below wz.heap.size wz w'):=Xm _ _ x l wz hm1 HTf3.out.any;have HRes:Hid ((S.take (i+1)).any (·==l)=(mn||(x==l))):=by show _=_;rw [HAx.out l,HMn.out]
    obtain ⟨bq,hbq⟩:∃ b,(x==l)=b:=⟨_,rfl⟩;rw [hbq] at HSi HRes;subst e5;have hsf:S.length<=100000:=HSf.out;clear hbq hm1
    cases mn with
    | true =>
      go_wp2_with fail
      go_roundw
      case rel=>exact ⟨i+1,by go_num,by omega,rfl,Yu HRes.out.symm,HTf3.out⟩
      case measure=>simp [intOf];omega
    | false =>
      go_wp2_with (go_at_call 18;refine mcA HSi.out ?_;rintro e u1 ⟨rfl,hb⟩;(have HT1:Hid (TF w w.heap.size p m (.slice va m.vars.length vp) (.slice ca m.cons.length cp) (.slice ga m.goal.length gp) S (some ⟨g,0,none⟩) kd wo (.slice az z.length cz) z (.slice xa l.length xc) l u1):=HTf3.out.next hb);clear hb);go_roundw
      case rel=>exact ⟨i+1,by go_num,by omega,rfl,Yu HRes.out.symm,HT1.out⟩
      case measure=>simp [intOf];omega
  have hie:i=S.length:=by omega
  have hiI:¬ (i:Int)<(S.length:Int):=by omega
  have HAm2:Hid (am=decide (0<S.length)):=by
    have h1:=HAm.out;rw [hie,List.take_length] at h1;show _=_;rw [<-h1];exact HTr.out.among
  have HMn2:Hid (Md.solution m l=mn):=by
    have h1:=HMn.out;rw [hie,List.take_length] at h1;show _=_;rw [HTr.out.mine,h1]
  have HKd:Hid (decide (0<S.length)=(kd != 2)):=HTr.out.kind;have HFin:Hid (S.length=0∨(m.has=false/\kd=3)∨(m.has=true/\kd=4/\wo=Md.worth m z)):=HTr.out.fin;have HSl:Hid (Calls Tryz.prog 15 #[.agg #[.slice va m.vars.length vp,.slice ca m.cons.length cp,.bool m.has,.slice ga m.goal.length gp],.slice xa l.length xc] wr fun e w'=>e=.returned (.bool mn)/\Below wr.heap.size wr w'):=by
    have:=Xq m _ _ _ _ l wr HTf.out.mo HTf.out.any;rw [HMn2.out] at this;exact this
  obtain ⟨⟨p0,p1,p2,p3⟩,_⟩:=box4 HTf.out.mbox;clear HAm HMn hin hie;go_wp2_with fail
  refine mcA HSl.out ?_;rintro e u1 ⟨rfl,hb⟩;have HT1:Hid (TF w w.heap.size p m (.slice va m.vars.length vp) (.slice ca m.cons.length cp) (.slice ga m.goal.length gp) S a5 kd wo (.slice az z.length cz) z (.slice xa l.length xc) l u1):=HTf.out.next hb;have c0:=yb HT1.out.vbox 0;dsimp at c0;clear hb HSl HTf p0 p1 p2 p3;have hmm:(mn != mn)=false:=by simp
  by_cases hS0:S.length=0
  · have ham:am=false:=by rw [HAm2.out,hS0];rfl
    subst ham;have hk2:(kd != 2)=false:=by rw [<-HKd.out,hS0];rfl
    have hl0:(S.length:Int)=0:=by omega
    rw [hl0];go_wp2_with fail
    have HB1:Hid (Below w.heap.size w u1.drew):=HT1.out.below.drew;refine zt (fun _=>True) (fun _=>True) [] (by kernel_rfl) ⟨trivial,trivial⟩ (fun hHeld=>?_);refine tB (i:=0) (oi:=⟨some 163,.move (.tmp 7),_,_,_,_⟩) (v:=?v_bt) ?hy_bt (by assumption) ?rest_bt
    case hy_bt=>(intro w hSw;(try dsimp only at hSw);go_simp;try (with_reducible rfl))
    try simp only [Act.put,q1,q2,q3]
    refine tB (i:=1) (oi:=⟨some 164,.binOp .eql 3 (.tmp 163) ((.const (.int .i64 0))) 3,_,_,_,_⟩) (v:=?v_bu) ?hy_bu (by assumption) ?rest_bu
    case hy_bu=>(intro w hSw;(try dsimp only at hSw);go_simp;try (with_reducible rfl))
    try simp only [Act.put,q1,q2,q3]
    refine tB (i:=2) (oi:=⟨some 165,.move (.tmp 164),_,_,_,_⟩) (v:=?v_bv) ?hy_bv (by assumption) ?rest_bv
    case hy_bv=>(intro w hSw;(try dsimp only at hSw);go_simp;try (with_reducible rfl))
    try simp only [Act.put,q1,q2,q3]
    refine tO (i:=3) (oi:=⟨some 166,.fieldAddr 39 (.tmp 9) 0,_,_,_,_⟩) (by assumption) ?rest_bw;try simp only [Act.put,q1,q2,q3]
    refine tO (i:=4) (oi:=⟨some 167,.load 3 (.tmp 166),_,_,_,_⟩) (by assumption) ?rest_bx;try simp only [Act.put,q1,q2,q3]
    refine tO (i:=5) (oi:=⟨some 168,.binOp .eql 3 (.tmp 167) ((.const (.int .i64 3))) 3,_,_,_,_⟩) (by assumption) ?rest_by;try simp only [Act.put,q1,q2,q3]
    refine tO (i:=6) (oi:=⟨some 169,.move (.tmp 168),_,_,_,_⟩) (by assumption) ?rest_bz;try simp only [Act.put,q1,q2,q3]
    refine tO (i:=7) (oi:=⟨some 170,.fieldAddr 26 (.tmp 2) 2,_,_,_,_⟩) (by assumption) ?rest_b0;try simp only [Act.put,q1,q2,q3]
    refine tO (i:=8) (oi:=⟨some 171,.load 4 (.tmp 170),_,_,_,_⟩) (by assumption) ?rest_b1;try simp only [Act.put,q1,q2,q3]
    refine tO (i:=9) (oi:=⟨some 172,.unOp .not 4 (.tmp 171),_,_,_,_⟩) (by assumption) ?rest_b2;try simp only [Act.put,q1,q2,q3]
    refine tO (i:=10) (oi:=⟨some 173,.pick (.tmp 169) (.tmp 172) ((.const (.bool false))),_,_,_,_⟩) (by assumption) ?rest_ft;try simp only [Act.put,q1,q2,q3]
    refine tB (i:=11) (oi:=⟨some 174,.pick (.tmp 165) ((.const (.bool true))) (.tmp 173),_,_,_,_⟩) (v:=?v_fu) ?hy_fu (by assumption) ?rest_fu
    case hy_fu=>(intro w hSw;(try dsimp only at hSw);go_simp;try (with_reducible rfl))
    try simp only [Act.put,q1,q2,q3]
    refine tB (i:=12) (oi:=⟨some 175,.move (.tmp 174),_,_,_,_⟩) (v:=?v_fv) ?hy_fv (by assumption) ?rest_fv
    case hy_fv=>(intro w hSw;(try dsimp only at hSw);go_simp;try (with_reducible rfl))
    try simp only [Act.put,q1,q2,q3]
    refine tO (i:=13) (oi:=⟨some 176,.fieldAddr 39 (.tmp 9) 0,_,_,_,_⟩) (by assumption) ?rest_fw;try simp only [Act.put,q1,q2,q3]
    refine tO (i:=14) (oi:=⟨some 177,.load 3 (.tmp 176),_,_,_,_⟩) (by assumption) ?rest_fx;try simp only [Act.put,q1,q2,q3]
    refine tO (i:=15) (oi:=⟨some 178,.binOp .eql 3 (.tmp 177) ((.const (.int .i64 4))) 3,_,_,_,_⟩) (by assumption) ?rest_fy;try simp only [Act.put,q1,q2,q3]
    refine tO (i:=16) (oi:=⟨some 179,.move (.tmp 178),_,_,_,_⟩) (by assumption) ?rest_fz;try simp only [Act.put,q1,q2,q3]
    refine tO (i:=17) (oi:=⟨some 180,.fieldAddr 26 (.tmp 2) 2,_,_,_,_⟩) (by assumption) ?rest_f0;try simp only [Act.put,q1,q2,q3]
    refine tO (i:=18) (oi:=⟨some 181,.load 4 (.tmp 180),_,_,_,_⟩) (by assumption) ?rest_f1;try simp only [Act.put,q1,q2,q3]
    refine tO (i:=19) (oi:=⟨some 182,.pick (.tmp 179) (.tmp 181) ((.const (.bool false))),_,_,_,_⟩) (by assumption) ?rest_f2;try simp only [Act.put,q1,q2,q3]
    refine tO (i:=20) (oi:=⟨some 183,.move (.tmp 182),_,_,_,_⟩) (by assumption) ?rest_f3;try simp only [Act.put,q1,q2,q3]
    refine tO (i:=21) (oi:=⟨some 184,.fieldAddr 39 (.tmp 9) 2,_,_,_,_⟩) (by assumption) ?rest_f4;try simp only [Act.put,q1,q2,q3]
    refine tO (i:=22) (oi:=⟨some 185,.load 3 (.tmp 184),_,_,_,_⟩) (by assumption) ?rest_f5;try simp only [Act.put,q1,q2,q3]
    refine tO (i:=23) (oi:=⟨some 186,.load 26 (.tmp 2),_,_,_,_⟩) (by assumption) ?rest_f6;try simp only [Act.put,q1,q2,q3]
    refine tO (i:=24) (oi:=⟨some 187,.fieldAddr 39 (.tmp 9) 4,_,_,_,_⟩) (by assumption) ?rest_f7;try simp only [Act.put,q1,q2,q3]
    refine tO (i:=25) (oi:=⟨some 188,.load 27 (.tmp 187),_,_,_,_⟩) (by assumption) ?rest_f8;try simp only [Act.put,q1,q2,q3]
    refine tO (i:=26) (oi:=⟨some 189,.call { callee:=.value (.func 17),args:=#[(.tmp 186),(.tmp 188)],argTypes:=#[26,27] },_,_,_,_⟩) (by assumption) ?rest_f9;try simp only [Act.put,q1,q2,q3]
    refine tO (i:=27) (oi:=⟨some 190,.binOp .eql 3 (.tmp 185) (.tmp 189) 3,_,_,_,_⟩) (by assumption) ?rest_ga;try simp only [Act.put,q1,q2,q3]
    refine tO (i:=28) (oi:=⟨some 191,.pick (.tmp 183) (.tmp 190) ((.const (.bool false))),_,_,_,_⟩) (by assumption) ?rest_gb;try simp only [Act.put,q1,q2,q3]
    refine tB (i:=29) (oi:=⟨some 192,.pick (.tmp 175) ((.const (.bool true))) (.tmp 191),_,_,_,_⟩) (v:=?v_gc) ?hy_gc (by assumption) ?rest_gc
    case hy_gc=>(intro w hSw;(try dsimp only at hSw);go_simp;try (with_reducible rfl))
    try simp only [Act.put,q1,q2,q3]
    refine tB (i:=30) (oi:=⟨some 4,.assign (.tmp 192),_,_,_,_⟩) (v:=?v_gd) ?hy_gd (by assumption) ?rest_gd
    case hy_gd=>(intro w hSw;(try dsimp only at hSw);go_simp;try (with_reducible rfl))
    try simp only [Act.put,q1,q2,q3]
    refine zu (by kernel_rfl) ?_ _;go_wp2_with fail
    go_ret;exact ⟨rfl,HB1.out⟩
  have ham:am=true:=by rw [HAm2.out];exact decide_eq_true (by omega)
  subst ham;have hk2:(kd != 2)=true:=by rw [<-HKd.out];exact decide_eq_true (by omega)
  obtain ⟨n,hn⟩:∃ n:Int,(S.length:Int)=n:=⟨_,rfl⟩;have hn1:(0:Int)<n:=by omega
  have hn2:(n==0)=false:=by simp;omega
  rw [hn];clear hn HAm2 HKd;go_wp2_with fail
  rcases HFin.out with hz0 | ⟨hh,hk3⟩ | ⟨hh,hk4,hwz⟩
  · exact absurd hz0 hS0
  · subst hk3
    have hmb:=HT1.out.mbox;rw [hh] at hmb;have HB1:Hid (Below w.heap.size w u1.drew):=HT1.out.below.drew;refine zt (fun w'=>w'.cell? ⟨p,0,none⟩=some (.int .i64 3)/\w'.cell? ⟨w.heap.size,2,none⟩=some (.bool false)) (fun _=>True) [] (by kernel_rfl) ⟨⟨yb HT1.out.vbox 0,yb hmb 2⟩,trivial⟩ (fun hHeld=>?_);clear hh hmb;refine tB (i:=0) (oi:=⟨some 163,.move (.tmp 7),_,_,_,_⟩) (v:=?v_b3) ?hy_b3 (by assumption) ?rest_b3
    case hy_b3=>(intro w hSw;(try dsimp only at hSw);go_simp;try (with_reducible rfl))
    try simp only [Act.put,q1,q2,q3]
    refine tB (i:=1) (oi:=⟨some 164,.binOp .eql 3 (.tmp 163) ((.const (.int .i64 0))) 3,_,_,_,_⟩) (v:=?v_b4) ?hy_b4 (by assumption) ?rest_b4
    case hy_b4=>(intro w hSw;(try dsimp only at hSw);go_simp;try (with_reducible rfl))
    try simp only [Act.put,q1,q2,q3]
    refine tB (i:=2) (oi:=⟨some 165,.move (.tmp 164),_,_,_,_⟩) (v:=?v_b5) ?hy_b5 (by assumption) ?rest_b5
    case hy_b5=>(intro w hSw;(try dsimp only at hSw);go_simp;try (with_reducible rfl))
    try simp only [Act.put,q1,q2,q3]
    refine tB (i:=3) (oi:=⟨some 166,.fieldAddr 39 (.tmp 9) 0,_,_,_,_⟩) (v:=?v_b6) ?hy_b6 (by assumption) ?rest_b6
    case hy_b6=>(intro w hSw;(try dsimp only at hSw);go_simp;try (with_reducible rfl))
    try simp only [Act.put,q1,q2,q3]
    refine tB (i:=4) (oi:=⟨some 167,.load 3 (.tmp 166),_,_,_,_⟩) (v:=?v_b7) ?hy_b7 (by assumption) ?rest_b7
    case hy_b7=>(intro w hSw;(try dsimp only at hSw);go_simp;try (with_reducible rfl))
    try simp only [Act.put,q1,q2,q3]
    refine tB (i:=5) (oi:=⟨some 168,.binOp .eql 3 (.tmp 167) ((.const (.int .i64 3))) 3,_,_,_,_⟩) (v:=?v_b8) ?hy_b8 (by assumption) ?rest_b8
    case hy_b8=>(intro w hSw;(try dsimp only at hSw);go_simp;try (with_reducible rfl))
    try simp only [Act.put,q1,q2,q3]
    refine tB (i:=6) (oi:=⟨some 169,.move (.tmp 168),_,_,_,_⟩) (v:=?v_b9) ?hy_b9 (by assumption) ?rest_b9
    case hy_b9=>(intro w hSw;(try dsimp only at hSw);go_simp;try (with_reducible rfl))
    try simp only [Act.put,q1,q2,q3]
    refine tB (i:=7) (oi:=⟨some 170,.fieldAddr 26 (.tmp 2) 2,_,_,_,_⟩) (v:=?v_ca) ?hy_ca (by assumption) ?rest_ca
    case hy_ca=>(intro w hSw;(try dsimp only at hSw);go_simp;try (with_reducible rfl))
    try simp only [Act.put,q1,q2,q3]
    refine tB (i:=8) (oi:=⟨some 171,.load 4 (.tmp 170),_,_,_,_⟩) (v:=?v_cb) ?hy_cb (by assumption) ?rest_cb
    case hy_cb=>(intro w hSw;(try dsimp only at hSw);go_simp;try (with_reducible rfl))
    try simp only [Act.put,q1,q2,q3]
    refine tB (i:=9) (oi:=⟨some 172,.unOp .not 4 (.tmp 171),_,_,_,_⟩) (v:=?v_cc) ?hy_cc (by assumption) ?rest_cc
    case hy_cc=>(intro w hSw;(try dsimp only at hSw);go_simp;try (with_reducible rfl))
    try simp only [Act.put,q1,q2,q3]
    refine tB (i:=10) (oi:=⟨some 173,.pick (.tmp 169) (.tmp 172) ((.const (.bool false))),_,_,_,_⟩) (v:=?v_ge) ?hy_ge (by assumption) ?rest_ge
    case hy_ge=>(intro w hSw;(try dsimp only at hSw);go_simp;try (with_reducible rfl))
    try simp only [Act.put,q1,q2,q3]
    refine tB (i:=11) (oi:=⟨some 174,.pick (.tmp 165) ((.const (.bool true))) (.tmp 173),_,_,_,_⟩) (v:=?v_gf) ?hy_gf (by assumption) ?rest_gf
    case hy_gf=>(intro w hSw;(try dsimp only at hSw);go_simp;try (with_reducible rfl))
    try simp only [Act.put,q1,q2,q3]
    refine tB (i:=12) (oi:=⟨some 175,.move (.tmp 174),_,_,_,_⟩) (v:=?v_gg) ?hy_gg (by assumption) ?rest_gg
    case hy_gg=>(intro w hSw;(try dsimp only at hSw);go_simp;try (with_reducible rfl))
    try simp only [Act.put,q1,q2,q3]
    refine tO (i:=13) (oi:=⟨some 176,.fieldAddr 39 (.tmp 9) 0,_,_,_,_⟩) (by assumption) ?rest_gh;try simp only [Act.put,q1,q2,q3]
    refine tO (i:=14) (oi:=⟨some 177,.load 3 (.tmp 176),_,_,_,_⟩) (by assumption) ?rest_gi;try simp only [Act.put,q1,q2,q3]
    refine tO (i:=15) (oi:=⟨some 178,.binOp .eql 3 (.tmp 177) ((.const (.int .i64 4))) 3,_,_,_,_⟩) (by assumption) ?rest_gj;try simp only [Act.put,q1,q2,q3]
    refine tO (i:=16) (oi:=⟨some 179,.move (.tmp 178),_,_,_,_⟩) (by assumption) ?rest_gk;try simp only [Act.put,q1,q2,q3]
    refine tO (i:=17) (oi:=⟨some 180,.fieldAddr 26 (.tmp 2) 2,_,_,_,_⟩) (by assumption) ?rest_gl;try simp only [Act.put,q1,q2,q3]
    refine tO (i:=18) (oi:=⟨some 181,.load 4 (.tmp 180),_,_,_,_⟩) (by assumption) ?rest_gm;try simp only [Act.put,q1,q2,q3]
    refine tO (i:=19) (oi:=⟨some 182,.pick (.tmp 179) (.tmp 181) ((.const (.bool false))),_,_,_,_⟩) (by assumption) ?rest_gn;try simp only [Act.put,q1,q2,q3]
    refine tO (i:=20) (oi:=⟨some 183,.move (.tmp 182),_,_,_,_⟩) (by assumption) ?rest_go;try simp only [Act.put,q1,q2,q3]
    refine tO (i:=21) (oi:=⟨some 184,.fieldAddr 39 (.tmp 9) 2,_,_,_,_⟩) (by assumption) ?rest_gp;try simp only [Act.put,q1,q2,q3]
    refine tO (i:=22) (oi:=⟨some 185,.load 3 (.tmp 184),_,_,_,_⟩) (by assumption) ?rest_gq;try simp only [Act.put,q1,q2,q3]
    refine tO (i:=23) (oi:=⟨some 186,.load 26 (.tmp 2),_,_,_,_⟩) (by assumption) ?rest_gr;try simp only [Act.put,q1,q2,q3]
    refine tO (i:=24) (oi:=⟨some 187,.fieldAddr 39 (.tmp 9) 4,_,_,_,_⟩) (by assumption) ?rest_gs;try simp only [Act.put,q1,q2,q3]
    refine tO (i:=25) (oi:=⟨some 188,.load 27 (.tmp 187),_,_,_,_⟩) (by assumption) ?rest_gt;try simp only [Act.put,q1,q2,q3]
    refine tO (i:=26) (oi:=⟨some 189,.call { callee:=.value (.func 17),args:=#[(.tmp 186),(.tmp 188)],argTypes:=#[26,27] },_,_,_,_⟩) (by assumption) ?rest_gu;try simp only [Act.put,q1,q2,q3]
    refine tO (i:=27) (oi:=⟨some 190,.binOp .eql 3 (.tmp 185) (.tmp 189) 3,_,_,_,_⟩) (by assumption) ?rest_gv;try simp only [Act.put,q1,q2,q3]
    refine tO (i:=28) (oi:=⟨some 191,.pick (.tmp 183) (.tmp 190) ((.const (.bool false))),_,_,_,_⟩) (by assumption) ?rest_gw;try simp only [Act.put,q1,q2,q3]
    refine tB (i:=29) (oi:=⟨some 192,.pick (.tmp 175) ((.const (.bool true))) (.tmp 191),_,_,_,_⟩) (v:=?v_gx) ?hy_gx (by assumption) ?rest_gx
    case hy_gx=>(intro w hSw;(try dsimp only at hSw);go_simp;try (with_reducible rfl))
    try simp only [Act.put,q1,q2,q3]
    refine tB (i:=30) (oi:=⟨some 4,.assign (.tmp 192),_,_,_,_⟩) (v:=?v_gy) ?hy_gy (by assumption) ?rest_gy
    case hy_gy=>(intro w hSw;(try dsimp only at hSw);go_simp;try (with_reducible rfl))
    try simp only [Act.put,q1,q2,q3]
    refine zu (by kernel_rfl) ?_ _;go_wp2_with fail
    go_ret;exact ⟨rfl,HB1.out⟩
  · subst hk4
    have HT2:Hid (TF w w.heap.size p m (.slice va m.vars.length vp) (.slice ca m.cons.length cp) (.slice ga m.goal.length gp) S a5 4 wo (.slice az z.length cz) z (.slice xa l.length xc) l u1.drew):=HT1.out.next (Below.refl _ _).drew;have HMb:Hid (∀ w',TF w w.heap.size p m (.slice va m.vars.length vp) (.slice ca m.cons.length cp) (.slice ga m.goal.length gp) S a5 4 wo (.slice az z.length cz) z (.slice xa l.length xc) l w'->w'.heap[w.heap.size]?=some (.cells #[.slice va m.vars.length vp,.slice ca m.cons.length cp,.bool true,.slice ga m.goal.length gp] 26 (0,0))):=fun w' T=>by
      have:=T.mbox;rw [hh] at this;exact this
    have hWo:Calls Tryz.prog 17 #[.agg #[.slice va m.vars.length vp,.slice ca m.cons.length cp,.bool m.has,.slice ga m.goal.length gp],.slice az z.length cz] u1.drew fun e w''=>e=.returned (.int .i64 (Md.worth m z))/\Below u1.drew.heap.size u1.drew w'':=Zj m _ _ _ _ z u1.drew HT2.out.mo HT2.out.val
    rw [hh,<-hwz] at hWo;have HWo:Hid (Calls Tryz.prog 17 #[.agg #[.slice va m.vars.length vp,.slice ca m.cons.length cp,.bool true,.slice ga m.goal.length gp],.slice az z.length cz] u1.drew fun e w''=>e=.returned (.int .i64 wo)/\Below u1.drew.heap.size u1.drew w''):=hWo;clear hWo hh hwz;refine zt (fun w'=>w'.heap[w.heap.size]?=some (.cells #[.slice va m.vars.length vp,.slice ca m.cons.length cp,.bool true,.slice ga m.goal.length gp] 26 (0,0))/\w'.cell? ⟨w.heap.size,2,none⟩=some (.bool true)/\w'.cell? ⟨p,0,none⟩=some (.int .i64 4)/\w'.cell? ⟨p,2,none⟩=some (.int .i64 wo)/\w'.cell? ⟨p,4,none⟩=some (.slice az z.length cz)) (fun _=>True) [] (by kernel_rfl) ⟨⟨HMb.out _ HT2.out,yb (HMb.out _ HT2.out) 2,yb HT2.out.vbox 0,yb HT2.out.vbox 2,yb HT2.out.vbox 4⟩,trivial⟩ (fun hHeld=>?_)
    refine tB (i:=0) (oi:=⟨some 163,.move (.tmp 7),_,_,_,_⟩) (v:=?v_cd) ?hy_cd (by assumption) ?rest_cd
    case hy_cd=>(intro w hSw;(try dsimp only at hSw);go_simp;try (with_reducible rfl))
    try simp only [Act.put,q1,q2,q3]
    refine tB (i:=1) (oi:=⟨some 164,.binOp .eql 3 (.tmp 163) ((.const (.int .i64 0))) 3,_,_,_,_⟩) (v:=?v_ce) ?hy_ce (by assumption) ?rest_ce
    case hy_ce=>(intro w hSw;(try dsimp only at hSw);go_simp;try (with_reducible rfl))
    try simp only [Act.put,q1,q2,q3]
    refine tB (i:=2) (oi:=⟨some 165,.move (.tmp 164),_,_,_,_⟩) (v:=?v_cf) ?hy_cf (by assumption) ?rest_cf
    case hy_cf=>(intro w hSw;(try dsimp only at hSw);go_simp;try (with_reducible rfl))
    try simp only [Act.put,q1,q2,q3]
    refine tB (i:=3) (oi:=⟨some 166,.fieldAddr 39 (.tmp 9) 0,_,_,_,_⟩) (v:=?v_cg) ?hy_cg (by assumption) ?rest_cg
    case hy_cg=>(intro w hSw;(try dsimp only at hSw);go_simp;try (with_reducible rfl))
    try simp only [Act.put,q1,q2,q3]
    refine tB (i:=4) (oi:=⟨some 167,.load 3 (.tmp 166),_,_,_,_⟩) (v:=?v_ch) ?hy_ch (by assumption) ?rest_ch
    case hy_ch=>(intro w hSw;(try dsimp only at hSw);go_simp;try (with_reducible rfl))
    try simp only [Act.put,q1,q2,q3]
    refine tB (i:=5) (oi:=⟨some 168,.binOp .eql 3 (.tmp 167) ((.const (.int .i64 3))) 3,_,_,_,_⟩) (v:=?v_ci) ?hy_ci (by assumption) ?rest_ci
    case hy_ci=>(intro w hSw;(try dsimp only at hSw);go_simp;try (with_reducible rfl))
    try simp only [Act.put,q1,q2,q3]
    refine tB (i:=6) (oi:=⟨some 169,.move (.tmp 168),_,_,_,_⟩) (v:=?v_cj) ?hy_cj (by assumption) ?rest_cj
    case hy_cj=>(intro w hSw;(try dsimp only at hSw);go_simp;try (with_reducible rfl))
    try simp only [Act.put,q1,q2,q3]
    refine tO (i:=7) (oi:=⟨some 170,.fieldAddr 26 (.tmp 2) 2,_,_,_,_⟩) (by assumption) ?rest_ck;try simp only [Act.put,q1,q2,q3]
    refine tO (i:=8) (oi:=⟨some 171,.load 4 (.tmp 170),_,_,_,_⟩) (by assumption) ?rest_cl;try simp only [Act.put,q1,q2,q3]
    refine tO (i:=9) (oi:=⟨some 172,.unOp .not 4 (.tmp 171),_,_,_,_⟩) (by assumption) ?rest_cm;try simp only [Act.put,q1,q2,q3]
    refine tB (i:=10) (oi:=⟨some 173,.pick (.tmp 169) (.tmp 172) ((.const (.bool false))),_,_,_,_⟩) (v:=?v_gz) ?hy_gz (by assumption) ?rest_gz
    case hy_gz=>(intro w hSw;(try dsimp only at hSw);go_simp;try (with_reducible rfl))
    try simp only [Act.put,q1,q2,q3]
    refine tB (i:=11) (oi:=⟨some 174,.pick (.tmp 165) ((.const (.bool true))) (.tmp 173),_,_,_,_⟩) (v:=?v_g0) ?hy_g0 (by assumption) ?rest_g0
    case hy_g0=>(intro w hSw;(try dsimp only at hSw);go_simp;try (with_reducible rfl))
    try simp only [Act.put,q1,q2,q3]
    refine tB (i:=12) (oi:=⟨some 175,.move (.tmp 174),_,_,_,_⟩) (v:=?v_g1) ?hy_g1 (by assumption) ?rest_g1
    case hy_g1=>(intro w hSw;(try dsimp only at hSw);go_simp;try (with_reducible rfl))
    try simp only [Act.put,q1,q2,q3]
    refine tB (i:=13) (oi:=⟨some 176,.fieldAddr 39 (.tmp 9) 0,_,_,_,_⟩) (v:=?v_g2) ?hy_g2 (by assumption) ?rest_g2
    case hy_g2=>(intro w hSw;(try dsimp only at hSw);go_simp;try (with_reducible rfl))
    try simp only [Act.put,q1,q2,q3]
    refine tB (i:=14) (oi:=⟨some 177,.load 3 (.tmp 176),_,_,_,_⟩) (v:=?v_g3) ?hy_g3 (by assumption) ?rest_g3
    case hy_g3=>(intro w hSw;(try dsimp only at hSw);go_simp;try (with_reducible rfl))
    try simp only [Act.put,q1,q2,q3]
    refine tB (i:=15) (oi:=⟨some 178,.binOp .eql 3 (.tmp 177) ((.const (.int .i64 4))) 3,_,_,_,_⟩) (v:=?v_g4) ?hy_g4 (by assumption) ?rest_g4
    case hy_g4=>(intro w hSw;(try dsimp only at hSw);go_simp;try (with_reducible rfl))
    try simp only [Act.put,q1,q2,q3]
    refine tB (i:=16) (oi:=⟨some 179,.move (.tmp 178),_,_,_,_⟩) (v:=?v_g5) ?hy_g5 (by assumption) ?rest_g5
    case hy_g5=>(intro w hSw;(try dsimp only at hSw);go_simp;try (with_reducible rfl))
    try simp only [Act.put,q1,q2,q3]
    refine tB (i:=17) (oi:=⟨some 180,.fieldAddr 26 (.tmp 2) 2,_,_,_,_⟩) (v:=?v_g6) ?hy_g6 (by assumption) ?rest_g6
    case hy_g6=>(intro w hSw;(try dsimp only at hSw);go_simp;try (with_reducible rfl))
    try simp only [Act.put,q1,q2,q3]
    refine tB (i:=18) (oi:=⟨some 181,.load 4 (.tmp 180),_,_,_,_⟩) (v:=?v_g7) ?hy_g7 (by assumption) ?rest_g7
    case hy_g7=>(intro w hSw;(try dsimp only at hSw);go_simp;try (with_reducible rfl))
    try simp only [Act.put,q1,q2,q3]
    refine tB (i:=19) (oi:=⟨some 182,.pick (.tmp 179) (.tmp 181) ((.const (.bool false))),_,_,_,_⟩) (v:=?v_g8) ?hy_g8 (by assumption) ?rest_g8
    case hy_g8=>(intro w hSw;(try dsimp only at hSw);go_simp;try (with_reducible rfl))
    try simp only [Act.put,q1,q2,q3]
    refine tB (i:=20) (oi:=⟨some 183,.move (.tmp 182),_,_,_,_⟩) (v:=?v_g9) ?hy_g9 (by assumption) ?rest_g9
    case hy_g9=>(intro w hSw;(try dsimp only at hSw);go_simp;try (with_reducible rfl))
    try simp only [Act.put,q1,q2,q3]
    refine tB (i:=21) (oi:=⟨some 184,.fieldAddr 39 (.tmp 9) 2,_,_,_,_⟩) (v:=?v_ha) ?hy_ha (by assumption) ?rest_ha
    case hy_ha=>(intro w hSw;(try dsimp only at hSw);go_simp;try (with_reducible rfl))
    try simp only [Act.put,q1,q2,q3]
    refine tB (i:=22) (oi:=⟨some 185,.load 3 (.tmp 184),_,_,_,_⟩) (v:=?v_hb) ?hy_hb (by assumption) ?rest_hb
    case hy_hb=>(intro w hSw;(try dsimp only at hSw);go_simp;try (with_reducible rfl))
    try simp only [Act.put,q1,q2,q3]
    refine zL (i:=23) (oi:=⟨some 186,.load 26 (.tmp 2),_,_,_,_⟩) (v:=.agg #[.slice va m.vars.length vp,.slice ca m.cons.length cp,.bool true,.slice ga m.goal.length gp]) rfl (by kernel_rfl) (by kernel_rfl) (by kernel_rfl) (by kernel_rfl) (fun _ _ _ h=>h) (xP 26 (.tmp 2) rfl w.heap.size (by rfl) 26 #[.slice va m.vars.length vp,.slice ca m.cons.length cp,.bool true,.slice ga m.goal.length gp] (0,0) _ (fun w h=>h.1) Tryz.underlying26 rfl xQ (by rfl)) (by assumption) ?rest_hc;try simp only [Act.put,q1,q2,q3]
    refine tB (i:=24) (oi:=⟨some 187,.fieldAddr 39 (.tmp 9) 4,_,_,_,_⟩) (v:=?v_hd) ?hy_hd (by assumption) ?rest_hd
    case hy_hd=>(intro w hSw;(try dsimp only at hSw);go_simp;try (with_reducible rfl))
    try simp only [Act.put,q1,q2,q3]
    refine tB (i:=25) (oi:=⟨some 188,.load 27 (.tmp 187),_,_,_,_⟩) (v:=?v_he) ?hy_he (by assumption) ?rest_he
    case hy_he=>(intro w hSw;(try dsimp only at hSw);go_simp;try (with_reducible rfl))
    try simp only [Act.put,q1,q2,q3]
    refine yF (i:=26) (o:=⟨some 189,.call { callee:=.value (.func 17),args:=#[(.tmp 186),(.tmp 188)],argTypes:=#[26,27] },_,_,_,_⟩) (by kernel_rfl) rfl (fun K hK=>?_);go_simp;refine mcA HWo.out ?_;rintro e u2 ⟨rfl,hb⟩;have HT3:Hid (TF w w.heap.size p m (.slice va m.vars.length vp) (.slice ca m.cons.length cp) (.slice ga m.goal.length gp) S a5 4 wo (.slice az z.length cz) z (.slice xa l.length xc) l u2):=HT2.out.next hb;clear hb;go_wp2_with fail
    refine hK.out _ _ ⟨⟨HMb.out _ HT3.out,yb (HMb.out _ HT3.out) 2,yb HT3.out.vbox 0,yb HT3.out.vbox 2,yb HT3.out.vbox 4⟩,fun _=>trivial⟩ ?_;have hHeld:=(⟨⟨HMb.out _ HT3.out,yb (HMb.out _ HT3.out) 2,yb HT3.out.vbox 0,yb HT3.out.vbox 2,yb HT3.out.vbox 4⟩,trivial⟩:(u2.heap[w.heap.size]?=some (.cells #[.slice va m.vars.length vp,.slice ca m.cons.length cp,.bool true,.slice ga m.goal.length gp] 26 (0,0))/\u2.cell? ⟨w.heap.size,2,none⟩=some (.bool true)/\u2.cell? ⟨p,0,none⟩=some (.int .i64 4)/\u2.cell? ⟨p,2,none⟩=some (.int .i64 wo)/\u2.cell? ⟨p,4,none⟩=some (.slice az z.length cz))/\True);clear hK K;try simp only [Act.put,q1,q2,q3]
    refine tB (i:=27) (oi:=⟨some 190,.binOp .eql 3 (.tmp 185) (.tmp 189) 3,_,_,_,_⟩) (v:=?v_hf) ?hy_hf (by assumption) ?rest_hf
    case hy_hf=>(intro w hSw;(try dsimp only at hSw);go_simp;try (with_reducible rfl))
    try simp only [Act.put,q1,q2,q3]
    refine tB (i:=28) (oi:=⟨some 191,.pick (.tmp 183) (.tmp 190) ((.const (.bool false))),_,_,_,_⟩) (v:=?v_hg) ?hy_hg (by assumption) ?rest_hg
    case hy_hg=>(intro w hSw;(try dsimp only at hSw);go_simp;try (with_reducible rfl))
    try simp only [Act.put,q1,q2,q3]
    refine tB (i:=29) (oi:=⟨some 192,.pick (.tmp 175) ((.const (.bool true))) (.tmp 191),_,_,_,_⟩) (v:=?v_hh) ?hy_hh (by assumption) ?rest_hh
    case hy_hh=>(intro w hSw;(try dsimp only at hSw);go_simp;try (with_reducible rfl))
    try simp only [Act.put,q1,q2,q3]
    refine tB (i:=30) (oi:=⟨some 4,.assign (.tmp 192),_,_,_,_⟩) (v:=?v_hi) ?hy_hi (by assumption) ?rest_hi
    case hy_hi=>(intro w hSw;(try dsimp only at hSw);go_simp;try (with_reducible rfl))
    try simp only [Act.put,q1,q2,q3]
    refine zu (by kernel_rfl) ?_ _;go_wp2_with fail
    go_ret;exact ⟨rfl,HT3.out.below⟩
end Go.Proofs.YtjgghimjnbjlbaaGreatDoor
