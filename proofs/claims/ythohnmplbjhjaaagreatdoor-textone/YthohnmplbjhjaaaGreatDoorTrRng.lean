import Derived.Test.YthohnmplbjhjaaaGreatDoorPfRng
import Derived.Test.YthohnmplbjhjaaaGreatDoorJ09
namespace Go.Proofs.YthohnmplbjhjaaaGreatDoor
open Go Go.RowKit
structure Ln (w0:World) (V:List Md.Vr) (va:Value) (b:Nat) (s:St) (w:World):Prop where
 o:w.heap[b]?=some (.cells #[va,.string (yc s.1),.int .i64 s.2] 115 (0,0))
 n:s.1.length<=70000
 lo:w0.heap.size<=b
 way:Way w0 w
 V:VarsAt w0 va V
theorem Ln.lt {w0:World} {V:List Md.Vr} {va:Value} {b:Nat} {s:St} {w:World} (h:Ln w0 V va b s w):b<w.heap.size:=(Array.getElem?_eq_some_iff.1 h.o).1
theorem Ln.big {w0:World} {V:List Md.Vr} {va:Value} {b:Nat} {s:St} {w:World} (h:Ln w0 V va b s w):w0.heap.size<=w.heap.size:=h.way.low.size
theorem Zt {w0:World} {S:Nat->Prop} {w w':World} (h:Way w0 w) (hS:∀ k,S k->w0.heap.size<=k) (ho:Ofw S w w'):Way w0 w':=
 ⟨h.low.trans (ho.below hS h.low.size),h.tab,h.big,h.mx,h.opw⟩
theorem Ln.keep {w0:World} {V:List Md.Vr} {va:Value} {b:Nat} {s:St} {S:Nat->Prop} {w w':World} (h:Ln w0 V va b s w) (hS:∀ k,S k->w0.heap.size<=k/\k≠b) (ho:Ofw S w w'):Ln w0 V va b s w':=
 ⟨(ho.block b h.lt (fun e=>(hS b e).2 rfl)).trans h.o,h.n,h.lo,Zt h.way (fun k hk=>(hS k hk).1) ho,h.V⟩
theorem Ln.below {w0:World} {V:List Md.Vr} {va:Value} {b:Nat} {s:St} {w w':World} (h:Ln w0 V va b s w) (hb:Below w.heap.size w w'):Ln w0 V va b s w':=
 h.keep (S:=fun _=>False) (fun _ f=>f.elim) (Ofw.of_below hb)
theorem Ln.put1 {w0:World} {V:List Md.Vr} {va:Value} {b:Nat} {s:St} {w:World} (h:Ln w0 V va b s w) (r:List UInt8) (hr:r.length<=70000):Ln w0 V va b (r,s.2) (w.setCell ⟨b,1,none⟩ (.string (yc r))):=
 ⟨yD h.o 1 _,hr,h.lo,Zt h.way (S:=fun k=>k=b) (fun _ e=>e▸h.lo) (Ofw.set _ rfl),h.V⟩
theorem Ln.put2 {w0:World} {V:List Md.Vr} {va:Value} {b:Nat} {s:St} {w:World} (h:Ln w0 V va b s w) (e:Int):Ln w0 V va b (s.1,e) (w.setCell ⟨b,2,none⟩ (.int .i64 e)):=
 ⟨yD h.o 2 _,h.n,h.lo,Zt h.way (S:=fun k=>k=b) (fun _ e=>e▸h.lo) (Ofw.set _ rfl),h.V⟩
def RO (w0:World) (V:List Md.Vr) (va:Value) (b:Nat) (v:Value) (s':St) (w:World) (e:Ending) (w':World):Prop:=e=.returned v/\Ln w0 V va b s' w'/\Ofw (fun k=>k=b) w w'
def SeqW (F:Fence) (n:Nat) (P:Program) (g:Nat) (lb:Array Value) (w0:World) (V:List Md.Vr) (va:Value) (b:Nat) (T:Nat->Prop) (w:World):Prop:=
 ∀ (l:Nat) (J:St->World->Prop) (J':World->Prop) (s0:St),
  (∀ s W,J s W->Ln w0 V va b s W)->(∀ s W W',J s W->Ofw (fun _=>False) W W'->J s W') ->
  (∀ s x s1 W W1,J s W->yl s=some (x,s1)->Ln w0 V va b s1 W1->Ofw (fun k=>k=b) W W1->YieldAt F (n-1) P l #[.string (yc x)] W1 fun e W'=>((e=.returned (.bool true)/\∃ s2,J s2 W'/\s2.1.length<=s1.1.length)∨(e=.returned (.bool false)/\J' W'))/\W1.heap.size<=W'.heap.size/\∀ k,T k->W'.heap[k]?=W1.heap[k]?) ->
  J s0 w->(∀ k,T k->k<w.heap.size)->CallsIn F n P g (#[.func (.yield l) #[] #[]]++lb) w fun e W'=>(∃ v,e=.returned v)/\((∃ s,J s W'/\yl s=none)∨J' W')
def Kf (I:St->World->Prop) (I':Code->World->Prop) (n:Nat) (ex:Exit) (W':World):Prop:=
 (ex=.normal/\∃ s2,I s2 W'/\s2.1.length<=n)∨(ex=.ret/\I' .ret W')∨∃ id,ex=.exit id/\I' (.exit id) W'
theorem Yg {F:Fence} {n:Nat} {P:Program} {g:Operand} {ps:Array Tmp} {assign body:Code} {Q:Exit->Act->World->Prop} {a:Act} {w:World}
  (hro:F.round=none) (h1:1<=n) {gf:Nat} {lb:Array Value} (hg:a.eval g=.func (.func gf) #[] lb) (hFg:F.fn gf) (eg:∀ args w,(callFunc gf args).run P w=.ok (.enter gf args) w)
  {w0:World} {V:List Md.Vr} {va:Value} {b:Nat} (s0:St) {T:Nat->Prop} (hT:∀ k,T k->k<w.heap.size)
  (hseq:∀ W,RowKit.Below w.heap.size w W->SeqW F (n-1) P gf lb w0 V va b T W) (hps:ps.size=1)
  (I:St->World->Prop) (I':Code->World->Prop) (hL:∀ s W,I s W->Ln w0 V va b s W) (hI:∀ s W W',I s W->Ofw (fun k=>k=w.heap.size∨k=w.heap.size+1) W W'->I s W') (hI':∀ c W W',I' c W->Ofw (fun k=>k=w.heap.size∨k=w.heap.size+1) W W'->I' c W') (h0:I s0 w) (a₁:List UInt8->Act)
  (hassign:∀ (l:Nat) (x:List UInt8) (W:World) (K:Act->World->Prop),K (a₁ x) W->assign.wpIn (F.inRound l) (n-1-1) P (Exit.then K (fun _ _ _=>False)) { tmps:=(ps.zip #[.string (yc x)]).foldl (fun t (p,v)=>t.setIfInBounds p v) a.tmps,defers:=[] } W)
  (hbody:∀ (l:Nat) (s:St) (x:List UInt8) (s1:St) (W W1:World),I s W->yl s=some (x,s1)->Ln w0 V va b s1 W1->Ofw (fun k=>k=b∨k=w.heap.size∨k=w.heap.size+1) W W1->w.heap.size+2<=W1.heap.size ->
   body.wpIn (F.inRound l) (n-1-1) P (fun ex _ W'=>Kf I I' s1.1.length ex W'/\W1.heap.size<=W'.heap.size/\∀ k,(T k∨k=w.heap.size∨k=w.heap.size+1)->W'.heap[k]?=W1.heap[k]?) (a₁ x) W1)
  (hdone:∀ (s:St) (W:World),I s W->yl s=none->W.heap[w.heap.size]?=some (.deferred (some []))->Q .normal { a with defers:={ target:=.collected w.heap.size,args:=#[] } :: a.defers } W)
  (hstop:∀ (c:Code) (W:World),I' c W->W.heap[w.heap.size]?=some (.deferred (some []))->c.wpIn F n P Q { a with defers:={ target:=.collected w.heap.size,args:=#[] } :: a.defers } W) :
  (Code.rangeFunc g ps assign body).wpIn F n P Q a w:=by
 refine wpIn_rangeFunc fun fn hfn=>?_
 obtain ⟨rec,hrec⟩:∃ rec:LoopState->Option Code->Loop,rec=fun st p=>{ state:=st,pending:=p,fn:=fn,tmps:=a.tmps,params:=ps,assign:=assign,body:=body,defers:=w.heap.size }:=⟨_,rfl⟩
 obtain ⟨D,hD⟩:∃ D,D=w.heap.size:=⟨_,rfl⟩
 have hnew:=run_enterLoop_outer (P:=P) (w:=w) fn a.tmps ps assign body
 rw [<-hro] at hnew
 obtain ⟨W1,hW1⟩:∃ W1,(w.alloc (.deferred (some []))).alloc (.loop (rec .ready none))=W1:=⟨_,rfl⟩
 have hrr:rec .ready none={ state:=.ready,pending:=none,fn:=fn,tmps:=a.tmps,params:=ps,assign:=assign,body:=body,defers:=w.heap.size }:=by rw [hrec]
 rw [<-hrr,hW1] at hnew
 have hb1:RowKit.Below w.heap.size w W1:=by
  rw [<-hW1]
  exact ((Below.refl _ w).alloc (Nat.le_refl _) _).alloc (by simp) _
 have hs1:W1.heap.size=w.heap.size+2:=by rw [<-hW1];simp
 have hl1:W1.heap[D+1]?=some (.loop (rec .ready none)):=by
  rw [<-hW1,hD]
  have:=World.alloc_heap_new (w.alloc (.deferred (some []))) (.loop (rec .ready none))
  rwa [World.size_alloc] at this
 have hk1:W1.heap[D]?=some (.deferred (some [])):=by
  rw [<-hW1,hD]
  exact (Below.heap_alloc _ _ _ (by simp)).trans (World.alloc_heap_new w _)
 have hbD:b<D:=hD▸(hL _ _ h0).lt
 refine ⟨w.heap.size+1,_,W1,{ target:=.fn (.func gf) lb,args:=#[.func (.yield (w.heap.size+1)) #[] #[]] },W1,gf,#[.func (.yield (w.heap.size+1)) #[] #[]]++lb,W1,hnew,?_,?_,?_,fun _=>h1,?_⟩
 ·simp only [resolve,hg]
  simp [go_sem]
 ·intro f' hf'
  simp [Target.leads] at hf'
  subst hf'
  exact hFg
 ·simp [invoke,go_sem,eg]
 ·rw [<-hD] at hT hseq hI hI' hbody hdone hstop ⊢
  refine (hseq W1 (hD▸hb1) (D+1) (fun s W=>I s W/\W.heap[D+1]?=some (.loop (rec .ready none))/\W.heap[D]?=some (.deferred (some []))) (fun W=>∃ c,I' c W/\W.heap[D+1]?=some (.loop (rec .done (some c)))/\W.heap[D]?=some (.deferred (some []))) s0 (fun s W h=>hL s W h.1) ?_ ?_ ⟨hI _ _ _ h0 (Ofw.of_below hb1),hl1,hk1⟩ (fun k hk=>by have:=hT k hk;omega)).mono ?_
  ·rintro s W W' ⟨hi,hl,hk⟩ ho
   have h3:=(Array.getElem?_eq_some_iff.1 hl).1
   have h4:=(Array.getElem?_eq_some_iff.1 hk).1
   exact ⟨hI s W W' hi (ho.less fun k h=>h.elim),(ho.block _ h3 fun h=>h).trans hl,(ho.block _ h4 fun h=>h).trans hk⟩
  ·rintro s x s1 W Wa ⟨hi,hl0,hk0⟩ hx hln hoa
   have hl:Wa.heap[D+1]?=some (.loop (rec .ready none)):=(hoa.block _ (Array.getElem?_eq_some_iff.1 hl0).1 (by omega)).trans hl0
   have hk:Wa.heap[D]?=some (.deferred (some [])):=(hoa.block _ (Array.getElem?_eq_some_iff.1 hk0).1 (by omega)).trans hk0
   have h3:=(Array.getElem?_eq_some_iff.1 hl).1
   have hy:=run_yield (P:=P) (args:=#[.string (yc x)]) hl (by rw [hrec];exact hps.symm)
   rw [hrec] at hy
   refine ⟨fn,_,assign,body,hy,roundIn_of_wpIn hfn (hassign _ x Wa _ ?_)⟩
   obtain ⟨W2,hW2⟩:∃ W2,Wa.putObj (D+1) (.loop { rec .ready none with state:=.busy })=W2:=⟨_,rfl⟩
   have o2:Ofw (fun k=>k=D∨k=D+1) Wa W2:=hW2▸zf Wa (D+1) _ (.inr rfl)
   have l2:W2.heap[D+1]?=some (.loop { rec .ready none with state:=.busy }):=hW2▸World.putObj_heap_same h3
   have k2:W2.heap[D]?=some (.deferred (some [])):=hW2▸(World.putObj_heap_other (by omega)).trans hk
   have e2:∀ k,k≠D+1->W2.heap[k]?=Wa.heap[k]?:=fun k hne=>hW2▸World.putObj_heap_other hne
   have s2:W2.heap.size=Wa.heap.size:=by rw [<-hW2];simp
   have ln2:Ln w0 V va b s1 W2:=hln.keep (fun k hk=>by have:=hln.lo;omega) o2
   refine ⟨W2,hW2▸run_beginRound hl (by rw [hrec]),wpIn_mono (hbody _ s x s1 W W2 hi hx ln2 ((hoa.less fun k hk=>.inl hk).trans (o2.less fun k hk=>.inr hk)) (by omega)) ?_⟩
   rintro ex a3 W3 ⟨hex,hs3,hk3⟩
   have l3:=(hk3 (D+1) (.inr (.inr rfl))).trans l2
   have h5:D+1<W3.heap.size:=(Array.getElem?_eq_some_iff.1 l3).1
   have fin:∀ (st:LoopState) (p:Option Code),(W3.putObj (D+1) (.loop (rec st p))).heap[D+1]?=some (.loop (rec st p))/\(W3.putObj (D+1) (.loop (rec st p))).heap[D]?=some (.deferred (some []))/\Wa.heap.size<=(W3.putObj (D+1) (.loop (rec st p))).heap.size/\∀ k,T k->(W3.putObj (D+1) (.loop (rec st p))).heap[k]?=Wa.heap[k]?:=fun st p=>by
    refine ⟨World.putObj_heap_same h5,(World.putObj_heap_other (by omega)).trans ((hk3 D (.inr (.inl rfl))).trans k2),by simp;omega,fun k hTk=>?_⟩
    have hne:k≠D+1:=fun e=>by have:=hT k hTk;omega
    exact (World.putObj_heap_other hne).trans ((hk3 k (.inl hTk)).trans (e2 k hne))
   have stop:∀ c:Code,I' c W3->∃ v w',(Instr.endRound (D+1) (some c)).run P W3=.ok v w'/\((((Ending.returned v)=.returned (.bool true)/\∃ s2,(I s2 w'/\w'.heap[D+1]?=some (.loop (rec .ready none))/\w'.heap[D]?=some (.deferred (some [])))/\s2.1.length<=s1.1.length)∨((Ending.returned v)=.returned (.bool false)/\∃ c,I' c w'/\w'.heap[D+1]?=some (.loop (rec .done (some c)))/\w'.heap[D]?=some (.deferred (some []))))/\Wa.heap.size<=w'.heap.size/\∀ k,T k->w'.heap[k]?=Wa.heap[k]?):=fun c hi3=>by
    have hr:=run_endRound (P:=P) (some c) l3
    have hre:({ { rec .ready none with state:=.busy } with state:=if (some c:Option Code).isNone then .ready else .done,pending:=some c }:Loop)=rec .done (some c):=by rw [hrec];rfl
    rw [hre] at hr
    obtain ⟨f1,f2,f3,f4⟩:=fin .done (some c)
    exact ⟨_,_,hr,.inr ⟨rfl,c,hI' _ _ _ hi3 (zf W3 (D+1) _ (.inr rfl)),f1,f2⟩,f3,f4⟩
   rcases hex with ⟨rfl,s2',hi3,hle⟩ | ⟨rfl,hi3⟩ | ⟨id,rfl,hi3⟩
   ·have hr:=run_endRound (P:=P) none l3
    have hre:({ { rec .ready none with state:=.busy } with state:=if (none:Option Code).isNone then .ready else .done,pending:=none }:Loop)=rec .ready none:=by rw [hrec];rfl
    rw [hre] at hr
    obtain ⟨f1,f2,f3,f4⟩:=fin .ready none
    exact ⟨_,_,hr,.inl ⟨rfl,s2',⟨hI _ _ _ hi3 (zf W3 (D+1) _ (.inr rfl)),f1,f2⟩,hle⟩,f3,f4⟩
   ·exact stop .ret hi3
   ·exact stop (.exit id) hi3
  ·rintro e W2 ⟨⟨v,rfl⟩,(⟨s,⟨hi,hl,hk⟩,hn⟩ | ⟨c,hi,hl,hk⟩)⟩
   ·have he:=run_endLoop (P:=P) hl (by rw [hrec];simp)
    have hp:(rec .ready none).pending=none:=by rw [hrec]
    rw [hp] at he
    exact ⟨none,_,he,hdone s _ (hI _ _ _ hi (zf W2 (D+1) _ (.inr rfl))) hn ((World.putObj_heap_other (by omega)).trans hk)⟩
   ·have he:=run_endLoop (P:=P) hl (by rw [hrec];simp)
    have hp:(rec .done (some c)).pending=some c:=by rw [hrec]
    rw [hp] at he
    exact ⟨some c,_,he,hstop c _ (hI' _ _ _ hi (zf W2 (D+1) _ (.inr rfl))) ((World.putObj_heap_other (by omega)).trans hk)⟩
end Go.Proofs.YthohnmplbjhjaaaGreatDoor
