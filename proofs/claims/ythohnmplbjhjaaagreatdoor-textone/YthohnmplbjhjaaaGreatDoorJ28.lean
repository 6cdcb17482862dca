/-
  Put together: TrRegT, TrRow.
-/
import Derived.OrdersHeld
import Derived.OrdersIn
import Derived.OwnWalkIn
import Derived.Test.YthohnmplbjhjaaaGreatDoorJ27
import Derived.Test.YthohnmplbjhjaaaGreatDoorMdRow
namespace Go.Proofs.YthohnmplbjhjaaaGreatDoor
open Go
section
variable {F : Fence} {n : Nat} {P : Program} {ops : Array Oper} {Q : Exit → Act → World → Prop} {md : Region.Mode} {S C : World → Prop} {st : List Nat}
def YieldsFI (P:Program) (ops:Array Oper) (S:World->Prop) (o:Oper) (v:Value) (a:Act):Prop:=YieldsIf P ops S o v a/\(∀ w,o.about P w a.eval=none)/\∀ c,o.op≠.defer c
theorem YieldsFI.wpOpIn {i:Nat} {o:Oper} {v:Value} {a:Act} (hi:ops[i]?=some o) (hy:YieldsFI P ops S o v a) {K:Act->World->Prop} {w:World} (hS:S w) (h:K (a.put o.dst v) w):wpOpIn F n P ops Q i K a w:=by
 unfold Go.wpOpIn
 simp only [hi]
 have hab:∀ f,o.about P w a.eval=some f->F.fn f:=fun f hf=>by rw [hy.2.1 w] at hf;cases hf
 rcases hy.1 with ⟨hw,hv⟩ | ⟨hw,rfl⟩
 ·simp only [hw,if_true,Oper.wpIn,Oper.semAt_plain F _ _ hy.2.2,hv w hS,Oper.uponIn];exact ⟨hab,h⟩
 ·simp only [hw,Bool.false_eq_true,if_false];exact ⟨hab,h⟩
theorem YieldsFI.of_same {o:Oper} {v:Value} {a a':Act} (hy:YieldsFI P ops S o v a) (he:execOp a'.eval o=execOp a.eval o)
  (hw:Region.wanted o (yielded ops a'.tmps)=Region.wanted o (yielded ops a.tmps)) (hb:∀ w,o.about P w a'.eval=o.about P w a.eval):YieldsFI P ops S o v a':=
 ⟨hy.1.of_same he hw,fun w=>by rw [hb w];exact hy.2.1 w,hy.2.2⟩
theorem Ka {j:Nat} {oi oj:Oper} {v:Value} (hnd:∀ c,oj.op≠.defer c) (hj:ops[j]?=some oj) (hap:oi.apart ops oj=true)
    (hsi:∀ cs b,oi.op≠.select cs b) (hsj:∀ cs b,oj.op≠.select cs b)
    (hQ:∀ c a w,Q (.panic c) (a.put oi.dst v) w->Q (.panic c) a w) {K:Act->World->Prop} {a:Act} {w:World}
    (hy:YieldsFI P ops S oi v a) (h:wpOpIn F n P ops Q j K (a.put oi.dst v) w) :
    wpOpIn F n P ops Q j (fun a' w'=>YieldsFI P ops S oi v a'/\K (a'.put oi.dst v) w') a w:=by
  obtain ⟨h1,h2,h3⟩:=Oper.apart_spec hap
  have keep:∀ (a:Act),YieldsFI P ops S oi v a->∀ u,YieldsFI P ops S oi v (a.put oj.dst u):=fun a hy u=>
    hy.of_same (execOp_put oi hsi a oj.dst u h3) (wanted_put oi a oj.dst u h3) (fun w=>about_put oi w a oj.dst u h3)
  have keepD:∀ d,YieldsFI P ops S oi v { a with defers:=d :: a.defers }:=fun d=>hy.of_same rfl rfl (fun _=>rfl)
  unfold wpOpIn at *
  simp only [hj] at *
  rw [wanted_put oj a oi.dst v h1,about_put oj w a oi.dst v h1] at h
  split
  · rename_i hw
    simp only [hw,if_true] at h
    unfold Oper.wpIn at *
    rw [about_put oj w a oi.dst v h1] at h
    refine ⟨h.1,?_⟩
    have h:=h.2
    rw [Oper.semAt_plain F _ _ hnd,execOp_put oj hsj a oi.dst v h1] at h
    rw [Oper.semAt_plain F _ _ hnd]
    generalize (execOp a.eval oj).run P w=r at *
    cases r with
    | ok x w' =>
      cases x <;> simp only [Oper.uponIn] at h ⊢
      case value u=>exact ⟨keep a hy u,by rw [<-Act.put_comm a v u h2];exact h⟩
      case skip=>exact ⟨keep a hy _,by rw [<-Act.put_comm a v undef h2];exact h⟩
      case defer d=>
        refine ⟨keep _ (keepD d) _,?_⟩
        rw [<-Act.put_comm _ v undef h2,<-Act.put_defers]
        exact h
      case enter f args=>
        refine ⟨h.1,CallsIn.mono h.2 fun e w'' he=>?_⟩
        cases e with
        | returned u=>exact ⟨keep a hy u,by rw [<-Act.put_comm a v u h2];exact he⟩
        | panicked c=>exact hQ _ _ _ he
        | outgrown=>exact he
      case row row args=>exact ⟨h.1,RowsIn.mono h.2 fun u w'' he=>⟨keep a hy u,by rw [<-Act.put_comm a v u h2];exact he⟩⟩
      case round l f tmps assign body=>
        refine ⟨h.1,RoundIn.mono h.2 fun e w'' he=>?_⟩
        cases e with
        | returned u=>exact ⟨keep a hy u,by rw [<-Act.put_comm a v u h2];exact he⟩
        | panicked c=>exact hQ _ _ _ he
        | outgrown=>exact he
    | halt x w' =>
      cases x <;> simp only [Oper.uponIn] at h ⊢
      case panic u=>exact hQ _ _ _ h
  · rename_i hw
    simp only [hw] at h
    exact ⟨h.1,keep a hy _,by rw [<-Act.put_comm a v undef h2];exact h.2⟩
def Unl (st:List Nat) (listed:Array Bool):Prop:=∀ s∈st,listed.getD s true=false
def HT (S C:World->Prop) (st:List Nat) (listed:Array Bool) (w:World):Prop:=S w/\(Unl st listed->C w)
def zG (F:Fence) (n:Nat) (P:Program) (md:Region.Mode) (ops:Array Oper) (Q:Exit->Act->World->Prop) (S C:World->Prop) (st:List Nat):Nat->Array Bool->Act->World->Prop
  | 0,listed,a,w=>Region.ready md ops listed=[]/\Q .normal a w
  | fuel + 1, listed, a, w =>
    (Region.ready md ops listed=[]->Q .normal a w) /\
    ∀ i∈Region.ready md ops listed,wpOpIn F n P ops Q i (fun a' w'=>HT S C st (listed.setIfInBounds i true) w'/\zG F n P md ops Q S C st fuel (listed.setIfInBounds i true) a' w') a w
theorem Kb:∀ (fuel:Nat) (listed:Array Bool) (a:Act) (w:World),zG F n P md ops Q S C st fuel listed a w->wpAnyIn F n P md ops Q fuel listed a w
 | 0,_,_,_,h=>h
 | fuel+1,_,_,_,h=>⟨h.1,fun i hi=>wpOpIn_mono (fun a' w' h'=>Kb fuel _ a' w' h'.2) (h.2 i hi)⟩
theorem Unl.set {listed:Array Bool} {j:Nat} (h:Unl st listed) (hj:j ∉ st):Unl st (listed.setIfInBounds j true):=fun s hs=>by
 have hne:j≠s:=fun e=>by subst e;exact hj hs
 rw [getD_set_ne true hne];exact h s hs
theorem Z1 {listed:Array Bool} {j:Nat} (hj:j ∉ st) (h:Unl st (listed.setIfInBounds j true)):Unl st listed:=fun s hs=>by
 have hne:j≠s:=fun e=>by subst e;exact hj hs
 have:=h s hs
 rw [getD_set_ne true hne] at this;exact this
theorem y4K {i:Nat} {oi:Oper} {v:Value} (hi:ops[i]?=some oi) (hsel:∀ (j:Nat) (o:Oper) cs b,ops[j]?=some o->o.op≠.select cs b) (hnd:∀ (j:Nat) (o:Oper),ops[j]?=some o->∀ c,o.op≠.defer c)
    (hQ:∀ c a w,Q (.panic c) (a.put oi.dst v) w->Q (.panic c) a w) (hist:i ∉ st) (hwait:∀ s∈st,∀ os,ops[s]?=some os->∃ e∈os.after,Region.binds md e=true/\e.on=i) :
    ∀ (fuel:Nat) (listed:Array Bool) (a:Act) (w:World),
      (∀ j oj,ops[j]?=some oj->j≠i->listed.getD j true=false->(∀ e∈oj.after,Region.binds md e=true->e.on≠i)->oi.apart ops oj=true) ->
      i∈Region.ready md ops listed->YieldsFI P ops (fun w=>S w/\C w) oi v a->Unl st listed->S w/\C w ->
      zG F n P md ops Q S C st fuel (listed.setIfInBounds i true) (a.put oi.dst v) w->zG F n P md ops Q S C st (fuel+1) listed a w:=by
  intro fuel
  induction fuel with
  | zero =>
    intro listed a w _ hr hy hU hS H
    refine ⟨fun h=>(by rw [h] at hr;cases hr),fun j hj=>?_⟩
    by_cases hji:j=i
    · subst hji;exact hy.wpOpIn hi hS ⟨⟨hS.1,fun _=>hS.2⟩,H⟩
    · have:=ready_mono hj hji
      rw [H.1] at this
      cases this
  | succ fuel ih =>
    intro listed a w hfree hr hy hU hS H
    refine ⟨fun h=>(by rw [h] at hr;cases hr),fun j hj=>?_⟩
    by_cases hji:j=i
    · subst hji;exact hy.wpOpIn hi hS ⟨⟨hS.1,fun _=>hS.2⟩,H⟩
    · have h1:=H.2 j (ready_mono hj hji)
      obtain ⟨hjun,oj,hoj,hall⟩:=mem_ready.1 hj
      have hnot:∀ e∈oj.after,Region.binds md e=true->e.on≠i:=fun e he hb heq=>by
        have h1:=hall e he hb
        have h0:=(mem_ready.1 hr).1
        rw [heq] at h1
        rcases Nat.lt_or_ge i listed.size with h' | h'
        · simp [h'] at h0 h1;rw [h0] at h1;cases h1
        · simp [Array.getElem?_eq_none h'] at h1
      have hjst:j ∉ st:=fun hs=>by
        obtain ⟨e,he,hb,heq⟩:=hwait j hs oj hoj
        exact hnot e he hb heq
      have hU1:Unl st (listed.setIfInBounds j true):=hU.set hjst
      have hU2:Unl st ((listed.setIfInBounds i true).setIfInBounds j true):=(hU.set hist).set hjst
      have h2:=Ka (hnd j oj hoj) hoj (hfree j oj hoj hji hjun hnot) (fun cs b=>hsel i oi cs b hi) (fun cs b=>hsel j oj cs b hoj) hQ hy h1
      have hfree':∀ k ok,ops[k]?=some ok->k≠i->(listed.setIfInBounds j true).getD k true=false ->
          (∀ e∈ok.after,Region.binds md e=true->e.on≠i)->oi.apart ops ok=true:=fun k ok hk hki hun hno=>by
        refine hfree k ok hk hki ?_ hno
        by_cases hjk:j=k
        · subst hjk;exact hjun
        · rw [getD_set_ne true hjk] at hun;exact hun
      refine wpOpIn_mono (fun a' w' h3=>⟨⟨h3.2.1.1,fun _=>h3.2.1.2 hU2⟩,ih (listed.setIfInBounds j true) a' w' hfree' (ready_mono hr (Ne.symm hji)) h3.1 hU1 ⟨h3.2.1.1,h3.2.1.2 hU2⟩ ?_⟩) h2
      rw [Array.setIfInBounds_comm _ _ hji]
      exact h3.2.2
theorem y4L {i:Nat} {oi:Oper} {v:Value} (hi:ops[i]?=some oi) (hsel:∀ (j:Nat) (o:Oper) cs b,ops[j]?=some o->o.op≠.select cs b) (hnd:∀ (j:Nat) (o:Oper),ops[j]?=some o->∀ c,o.op≠.defer c)
    (hQ:∀ c a w,Q (.panic c) (a.put oi.dst v) w->Q (.panic c) a w) (hist:i ∉ st) :
    ∀ (fuel:Nat) (listed:Array Bool) (a:Act) (w:World),
      (∀ j oj,ops[j]?=some oj->j≠i->listed.getD j true=false->(∀ e∈oj.after,Region.binds md e=true->e.on≠i)->oi.apart ops oj=true) ->
      i∈Region.ready md ops listed->YieldsFI P ops S oi v a->HT S C st listed w ->
      zG F n P md ops Q S C st fuel (listed.setIfInBounds i true) (a.put oi.dst v) w->zG F n P md ops Q S C st (fuel+1) listed a w:=by
  intro fuel
  induction fuel with
  | zero =>
    intro listed a w _ hr hy hS H
    refine ⟨fun h=>(by rw [h] at hr;cases hr),fun j hj=>?_⟩
    by_cases hji:j=i
    · subst hji;exact hy.wpOpIn hi hS.1 ⟨⟨hS.1,fun hU=>hS.2 (Z1 hist hU)⟩,H⟩
    · have:=ready_mono hj hji
      rw [H.1] at this
      cases this
  | succ fuel ih =>
    intro listed a w hfree hr hy hS H
    refine ⟨fun h=>(by rw [h] at hr;cases hr),fun j hj=>?_⟩
    by_cases hji:j=i
    · subst hji;exact hy.wpOpIn hi hS.1 ⟨⟨hS.1,fun hU=>hS.2 (Z1 hist hU)⟩,H⟩
    · have h1:=H.2 j (ready_mono hj hji)
      obtain ⟨hjun,oj,hoj,hall⟩:=mem_ready.1 hj
      have hnot:∀ e∈oj.after,Region.binds md e=true->e.on≠i:=fun e he hb heq=>by
        have h1:=hall e he hb
        have h0:=(mem_ready.1 hr).1
        rw [heq] at h1
        rcases Nat.lt_or_ge i listed.size with h' | h'
        · simp [h'] at h0 h1;rw [h0] at h1;cases h1
        · simp [Array.getElem?_eq_none h'] at h1
      have h2:=Ka (hnd j oj hoj) hoj (hfree j oj hoj hji hjun hnot) (fun cs b=>hsel i oi cs b hi) (fun cs b=>hsel j oj cs b hoj) hQ hy h1
      have hfree':∀ k ok,ops[k]?=some ok->k≠i->(listed.setIfInBounds j true).getD k true=false ->
          (∀ e∈ok.after,Region.binds md e=true->e.on≠i)->oi.apart ops ok=true:=fun k ok hk hki hun hno=>by
        refine hfree k ok hk hki ?_ hno
        by_cases hjk:j=k
        · subst hjk;exact hjun
        · rw [getD_set_ne true hjk] at hun;exact hun
      refine wpOpIn_mono (fun a' w' h3=>⟨⟨h3.2.1.1,fun hU=>h3.2.1.2 (by rw [Array.setIfInBounds_comm _ _ (Ne.symm hji)];exact hU.set hist)⟩,ih (listed.setIfInBounds j true) a' w' hfree' (ready_mono hr (Ne.symm hji)) h3.1 ⟨h3.2.1.1,fun hU=>h3.2.1.2 (by rw [Array.setIfInBounds_comm _ _ (Ne.symm hji)];exact hU.set hist)⟩ ?_⟩) h2
      rw [Array.setIfInBounds_comm _ _ hji]
      exact h3.2.2
def Kc (md:Region.Mode) (ops:Array Oper) (st:List Nat) (i:Nat):Bool:=
 st.all fun s=>s != i&&match ops[s]? with
  | some o=>o.after.any fun e=>Region.binds md e&&e.on==i
  | none=>false
def unlB (st:List Nat) (listed:Array Bool):Bool:=st.all fun s=>!listed.getD s true
theorem Kd {listed:Array Bool} (h:unlB st listed=true):Unl st listed:=fun s hs=>by
 have:=List.all_eq_true.1 h s hs
 simpa using this
def Zu (ops:Array Oper):Bool:=ops.all fun o=>match o.op with
 | .defer _=>false
 | _=>true
theorem Ke (h:Zu ops=true) (j:Nat) (o:Oper) (hj:ops[j]?=some o):∀ c,o.op≠.defer c:=fun c e=>by
 unfold Zu at h
 rw [Array.all_eq_true] at h
 obtain ⟨hl,rfl⟩:=Array.getElem?_eq_some_iff.1 hj
 have:=h j hl
 rw [e] at this
 cases this
theorem xY {i:Nat} {oi:Oper} {v:Value} {fuel:Nat} {listed:Array Bool} {a:Act} {w:World} (hi:ops[i]?=some oi)
  (hs:Region.noSelect ops=true) (hnd:Zu ops=true) (hf:Region.free md ops listed i=true) (hr:(Region.ready md ops listed).contains i=true) (hw:Kc md ops st i=true) (hu:unlB st listed=true)
  (hQ:∀ c a w,Q (.panic c) (a.put oi.dst v) w->Q (.panic c) a w) (hy:YieldsFI P ops (fun w=>S w/\C w) oi v a) (hS:S w/\C w)
  (h:zG F n P md ops Q S C st fuel (listed.setIfInBounds i true) (a.put oi.dst v) w):zG F n P md ops Q S C st (fuel+1) listed a w:=by
 have hw':=List.all_eq_true.1 hw
 refine y4K hi (Region.noSelect_spec hs) (Ke hnd) hQ (fun hm=>by have:=hw' i hm;simp at this) (fun s hs os hos=>?_) fuel listed a w (Region.free_spec hi hf) (by simpa using hr) hy (Kd hu) hS h
 have h1:=hw' s hs
 rw [hos] at h1
 simp only [Bool.and_eq_true] at h1
 obtain ⟨e,he,hb⟩:=Array.any_eq_true'.1 h1.2
 simp only [Bool.and_eq_true,beq_iff_eq] at hb
 exact ⟨e,he,hb.1,hb.2⟩
theorem yw {i:Nat} {oi:Oper} {v:Value} {fuel:Nat} {listed:Array Bool} {a:Act} {w:World} (hi:ops[i]?=some oi)
  (hs:Region.noSelect ops=true) (hnd:Zu ops=true) (hf:Region.free md ops listed i=true) (hr:(Region.ready md ops listed).contains i=true) (hn:st.contains i=false)
  (hQ:∀ c a w,Q (.panic c) (a.put oi.dst v) w->Q (.panic c) a w) (hy:YieldsFI P ops S oi v a) (hS:S w/\C w)
  (h:zG F n P md ops Q S C st fuel (listed.setIfInBounds i true) (a.put oi.dst v) w):zG F n P md ops Q S C st (fuel+1) listed a w:=
 y4L hi (Region.noSelect_spec hs) (Ke hnd) hQ (fun hm=>by rw [List.contains_iff_mem.2 hm] at hn;cases hn) fuel listed a w (Region.free_spec hi hf) (by simpa using hr) hy ⟨hS.1,fun _=>hS.2⟩ h
theorem yo {i:Nat} {o:Oper} {fuel:Nat} {listed:Array Bool} {a:Act} {w:World} (hr:Region.ready md ops listed=[i]) (ho:ops[i]?=some o)
  (h:∀ K':Act->World->Prop,Shut (∀ a w,HT S C st (listed.setIfInBounds i true) w->zG F n P md ops Q S C st fuel (listed.setIfInBounds i true) a w->K' a w)->if Region.wanted o (yielded ops a.tmps)=true then Oper.wpIn F n P o a w K' Q else (∀ f,o.about P w a.eval=some f->F.fn f)/\K' (a.put o.dst undef) w):zG F n P md ops Q S C st (fuel+1) listed a w:=by
 refine ⟨fun h0=>(by rw [h0] at hr;cases hr),fun j hj=>?_⟩
 rw [hr,List.mem_singleton] at hj
 subst hj
 exact wpOpIn_step ho fun K' hK=>h K' fun a w h1 h2=>hK a w ⟨h1,h2⟩
theorem Y0 {i:Nat} {o:Oper} {fuel:Nat} {listed:Array Bool} {a:Act} {w:World} (hr:Region.ready md ops listed=[i]) (ho:ops[i]?=some o) (hn:unlB st (listed.setIfInBounds i true)=false)
  (h:∀ K':Act->World->Prop,Shut (∀ a w,S w->zG F n P md ops Q S C st fuel (listed.setIfInBounds i true) a w->K' a w)->if Region.wanted o (yielded ops a.tmps)=true then Oper.wpIn F n P o a w K' Q else (∀ f,o.about P w a.eval=some f->F.fn f)/\K' (a.put o.dst undef) w):zG F n P md ops Q S C st (fuel+1) listed a w:=
 yo hr ho fun K' hK=>h K' fun a w h1 h2=>hK.out a w ⟨h1,fun hU=>by
  have:unlB st (listed.setIfInBounds i true)=true:=List.all_eq_true.2 fun s hs=>by have:=hU s hs;simp only [Bool.not_eq_true',this]
  rw [hn] at this;cases this⟩ h2
theorem yZ {listed:Array Bool} {a:Act} {w:World} (hr:Region.ready md ops listed=[]) (h:Q .normal a w) :
  ∀ fuel,zG F n P md ops Q S C st fuel listed a w
 | 0=>⟨hr,h⟩
 | _+1=>⟨fun _=>h,by rw [hr];simp⟩
def QN (Q:Exit->Act->World->Prop):Exit->Act->World->Prop:=fun ex a w=>ex=.normal/\Q .normal a w
theorem yt {Q:Exit->Act->World->Prop} {d:Option Tmp} {v:Value}:∀ c a w,QN Q (.panic c) (a.put d v) w->QN Q (.panic c) a w:=fun _ _ _ h=>by cases h.1
theorem zW {id:Nat} {a:Act} {w:World} (S C:World->Prop) (st:List Nat) (hm:P.follows .mixedOrders=true) (hS:S w.drew/\C w.drew)
  (h:S w.drew/\C w.drew->zG F n P .any ops (QN Q) S C st ops.size (Array.replicate ops.size false) a w.drew):(Code.region id ops true).wpIn F n P Q a w:=
 wpIn_mono (wpIn_region_any hm (Kb _ _ _ _ (h hS))) (fun _ _ _ ⟨e,h⟩=>e▸h)
theorem zZ {i j:Nat} {o o':Oper} {fuel:Nat} {listed:Array Bool} {a:Act} {w:World} (hr:Region.ready md ops listed=[i,j]) (ho:ops[i]?=some o) (ho':ops[j]?=some o')
  (h:∀ K':Act->World->Prop,Shut (∀ a w,HT S C st (listed.setIfInBounds i true) w->zG F n P md ops Q S C st fuel (listed.setIfInBounds i true) a w->K' a w)->if Region.wanted o (yielded ops a.tmps)=true then Oper.wpIn F n P o a w K' Q else (∀ f,o.about P w a.eval=some f->F.fn f)/\K' (a.put o.dst undef) w)
  (h':∀ K':Act->World->Prop,Shut (∀ a w,HT S C st (listed.setIfInBounds j true) w->zG F n P md ops Q S C st fuel (listed.setIfInBounds j true) a w->K' a w)->if Region.wanted o' (yielded ops a.tmps)=true then Oper.wpIn F n P o' a w K' Q else (∀ f,o'.about P w a.eval=some f->F.fn f)/\K' (a.put o'.dst undef) w):zG F n P md ops Q S C st (fuel+1) listed a w:=by
 refine ⟨fun h0=>(by rw [h0] at hr;cases hr),fun k hk=>?_⟩
 rw [hr] at hk
 rcases List.mem_cons.1 hk with rfl | hk
 ·exact wpOpIn_step ho fun K' hK=>h K' fun a w h1 h2=>hK a w ⟨h1,h2⟩
 ·rw [List.mem_singleton] at hk
  subst hk
  exact wpOpIn_step ho' fun K' hK=>h' K' fun a w h1 h2=>hK a w ⟨h1,h2⟩
end
end Go.Proofs.YthohnmplbjhjaaaGreatDoor

namespace Go.Proofs.YthohnmplbjhjaaaGreatDoor
open Go Go.RowKit
theorem y4N {w:World} {B:Nat} {cs:Array Value} {t:TypeId} (hb:w.heap[B]?=some (.cells cs t (0,0))) (j:Nat) (u:Value) (hj:cs.toList[j]?=some u):w.cell? ((⟨B,0,none⟩:Addr).add j)=some u:=by
 rw [xd,yd hb,Nat.zero_add]
 simpa using hj
theorem yr {w:World} {B:Nat} {e:TypeId} {size:Nat} {v:Value} {n:Nat} {xs:List Value} (h:w.ownsRow B e size v n xs):∃ a cap,v=.slice a n cap:=by
 rcases h.2 with ⟨hv,h0⟩ | ⟨g,cap,cur,hv,_⟩
 ·exact ⟨none,0,by rw [hv,h0]⟩
 ·exact ⟨_,_,hv⟩
theorem yn {w:World} {B:Nat} {e:TypeId} {size:Nat} {v:Value} {n:Nat} {xs:List Value} (h:w.ownsRow B e size v n xs) {g:Nat} (hg:v.ownBlock=some g):B<=g/\∃ cur,w.heap[g]?=some (.cells cur e (0,0)):=by
 rcases h.2 with ⟨hv,_⟩ | ⟨g',cap,cur,hv,hb,hc,_⟩
 ·rw [hv] at hg;cases hg
 ·rw [hv] at hg
  injection hg with hg
  subst hg
  exact ⟨hb,cur,hc⟩
theorem yC {S:Nat->Prop} {w w':World} {B:Nat} {e:TypeId} {size:Nat} {v:Value} {n:Nat} {xs:List Value} (h:w.ownsRow B e size v n xs) (hS:∀ g,v.ownBlock=some g->¬ S g) (ho:Ofw S w w'):w'.ownsRow B e size v n xs:=by
 refine ⟨h.1,?_⟩
 rcases h.2 with h1 | ⟨g,cap,cur,hv,hg,hc,h2⟩
 ·exact .inl h1
 ·refine .inr ⟨g,cap,cur,hv,hg,?_,h2⟩
  rw [ho.block g (Array.getElem?_eq_some_iff.1 hc).1 (hS g (by rw [hv];rfl))]
  exact hc
structure LAt (B A LT ety size D n:Nat) (xs:List Value) (v:Value) (W:World):Prop where
 box:W.heap[A]?=some (.cells #[v] LT (0,0))
 row:W.ownsRow B ety size v n xs
 far:∀ g,v.ownBlock=some g->g≠D/\g≠D+1
theorem LAt.keep {B A LT ety size D n:Nat} {xs:List Value} {v:Value} {S:Nat->Prop} {W W':World} (h:LAt B A LT ety size D n xs v W) (ho:Ofw S W W') (hS:∀ k,S k->k≠A/\∀ c,W.heap[k]?≠some (.cells c ety (0,0))):LAt B A LT ety size D n xs v W':=
 ⟨(ho.block A (Array.getElem?_eq_some_iff.1 h.box).1 (fun e=>(hS A e).1 rfl)).trans h.box,yC h.row (fun g hg e=>by obtain ⟨_,cur,hc⟩:=yn h.row hg;exact (hS g e).2 cur hc) ho,h.far⟩
theorem LAt.loop {B A LT ety size D n:Nat} {xs:List Value} {v:Value} {W W':World} (h:LAt B A LT ety size D n xs v W) (hA:A<D) (ho:Ofw (fun k=>k=D∨k=D+1) W W'):LAt B A LT ety size D n xs v W':=
 ⟨(ho.block A (Array.getElem?_eq_some_iff.1 h.box).1 (fun e=>by omega)).trans h.box,yC h.row (fun g hg e=>by have:=h.far g hg;omega) ho,h.far⟩
theorem xZ {F:Fence} {nn:Nat} {P:Program} {ops:Array Oper} {o:Oper} {a:Act} {Q:Exit->Act->World->Prop} {K:Act->World->Prop} (w V:World) (s x:Operand) (t e:TypeId) (z:Value) (size bytes:Nat)
  (ho:o.op=.call { callee:=.builtin .append,args:=#[s,x],argTypes:=#[t,t] }) (ht:P.underlying t=some (.slice e)) (hinfo:(P.info? e).map (fun i=>(i.zero,i.size,i.bytes))=some (some z,size,bytes)) (hzs:z.cells.size=size) (hsz:0<size)
  (base:Nat) (v:Value) (n:Nat) (xs:List Value) (news:Array Value) (hs:a.eval s=v) (hx:a.eval x=.slice (some ⟨w.heap.size,0,none⟩) 1 1) (hV:w.alloc (.cells news e)=V) (hown:w.ownsRow base e size v n xs) (hn:news.size=size) (h1:∀ u∈news.toList,u.oneCell'=true) (h63:n+1<=maxLen) (hbytes:(n+1) * bytes<=140737488355328) (hbase:base<=w.heap.size) (hw:Region.wanted o (yielded ops a.tmps)=true)
  (h:∀ v' w',w'.ownsRow base e size v' (n+1) (xs++news.toList)->Ofw (fun k=>v.ownBlock=some k) w w'->(v'.ownBlock=v.ownBlock∨v'.ownBlock=some (w.heap.size+1))->K (a.put o.dst v') w'):if Region.wanted o (yielded ops a.tmps)=true then Oper.wpIn F nn P o a V K Q else (∀ f,o.about P V a.eval=some f->F.fn f)/\K (a.put o.dst undef) V:=by
 rw [if_pos hw]
 obtain ⟨i0,hi,hz0,hz1,hz2⟩:=y1k hinfo
 have hb:Below w.heap.size w V:=hV▸(Below.refl _ _).alloc (Nat.le_refl _) _
 have hsV:V.heap.size=w.heap.size+1:=by rw [<-hV];simp
 have hl:V.heap[w.heap.size]?=some (.cells news e (0,0)):=by rw [<-hV];exact heap_alloc_new w _
 obtain ⟨v',w',hr,h2,h3,h4⟩:=Q5 (P:=P) V base t o.type e i0 z size bytes ht hi hz0 hz1 hz2 hzs hsz v n xs (yC (S:=fun _=>False) hown (fun _ _ f=>f) (Ofw.of_below hb)) ⟨w.heap.size,0,none⟩ 1 1 news.toList (by simp [hn]) (fun j u hj=>y4N hl j u hj) h1 h63 hbytes (by omega)
 refine ⟨by simp [Oper.about,ho,resolve,Target.leads,Sem.run_pure],?_⟩
 rw [Oper.semAt_plain F _ _ (by rw [ho];intro c hc;cases hc)]
 unfold execOp
 simp only [ho,resolve,invoke,builtin,Sem.run_bind,Sem.run_pure,Result.andThen_ok,List.map_toArray,List.map_cons,List.map_nil,hs,hx,hr]
 refine h v' w' h2 ?_ (hsV▸h4)
 exact ⟨h3.os.trans hb.os,h3.tape.trans hb.tape,h3.output.trans hb.output,Nat.le_trans hb.size h3.size,fun k hk hv=>(h3.block k (by omega) (fun e=>hv e.symm)).trans (hb.block k hk)⟩
theorem LAt.push {B A LT ety size D n:Nat} {xs news:List Value} {v v':Value} {w w':World} (h:LAt B A LT ety size D n xs v w) (hne:LT≠ety) (hr:w'.ownsRow B ety size v' (n+1) (xs++news)) (ho:Ofw (fun k=>v.ownBlock=some k) w w') (hv:v'.ownBlock=v.ownBlock∨v'.ownBlock=some (w.heap.size+1)) (hD:D+1<w.heap.size) :
  LAt B A LT ety size D (n+1) (xs++news) v' (w'.setCell ⟨A,0,none⟩ v')/\Ofw (fun k=>k=A∨v.ownBlock=some k) w (w'.setCell ⟨A,0,none⟩ v')/\w'.heap[A]?=some (.cells #[v] LT (0,0)):=by
 have hA:w'.heap[A]?=some (.cells #[v] LT (0,0)):=(ho.block A (Array.getElem?_eq_some_iff.1 h.box).1 (fun e=>by
  obtain ⟨_,cur,hc⟩:=yn h.row e
  rw [h.box] at hc
  injection hc with hc
  injection hc with _ hc _
  exact hne hc)).trans h.box
 have os:Ofw (fun k=>k=A) w' (w'.setCell ⟨A,0,none⟩ v'):=Ofw.set _ rfl
 refine ⟨⟨yD hA 0 v',yC hr (fun g hg e=>?_) os,fun g hg=>?_⟩,(ho.less fun k hk=>.inr hk).trans (os.less fun k hk=>.inl hk),hA⟩
 ·obtain ⟨_,cur,hc⟩:=yn hr hg
  have e':g=A:=e
  rw [e',hA] at hc
  injection hc with hc
  injection hc with _ hc _
  exact hne hc
 ·rcases hv with hv | hv
  ·exact h.far g (hv▸hg)
  ·rw [hv] at hg
   injection hg with hg
   omega
theorem Yy {w:World} {g ety size:Nat} {B:Nat} {news:Array Value} (h:w.heap[g]?=some (.cells news ety (0,0))) (hB:B<=g) (hs:news.size=size):w.ownsRow B ety size (.slice (some ⟨g,0,none⟩) 1 1) 1 news.toList:=by
 refine ⟨by simp [hs],.inr ⟨g,1,news,rfl,hB,h,by omega,by unfold maxLen;omega,by omega,?_⟩⟩
 rw [List.take_of_length_le (by simp [hs])]
def RL (w0:World) (V:List Md.Vr) (va:Value) (b ety size n:Nat) (xs:List Value) (s':St) (w:World) (e:Ending) (w':World):Prop:=∃ v,e=.returned v/\Ln w0 V va b s' w'/\Ofw (fun k=>k=b) w w'/\w'.ownsRow w.heap.size ety size v n xs
end Go.Proofs.YthohnmplbjhjaaaGreatDoor
