import Derived.OrdersHeld
import Derived.Deep.RegionHeld
namespace Go.Proofs.YthohnmplbjhjaaaGreatDoor.RegT
open Go
section
variable {P : Program} {ops : Array Oper} {Q : Exit → Act → World → Prop} {md : Region.Mode} {S C : World → Prop} {st : List Nat}
def Unl (st:List Nat) (listed:Array Bool):Prop:=∀ s∈st,listed.getD s true=false
def HT (S C:World->Prop) (st:List Nat) (listed:Array Bool) (w:World):Prop:=S w/\(Unl st listed->C w)
def xF (P:Program) (md:Region.Mode) (ops:Array Oper) (Q:Exit->Act->World->Prop) (S C:World->Prop) (st:List Nat):Nat->Array Bool->Act->World->Prop
  | 0,listed,a,w=>Region.ready md ops listed=[]/\Q .normal a w
  | fuel + 1, listed, a, w =>
    (Region.ready md ops listed=[]->Q .normal a w) /\
    ∀ i∈Region.ready md ops listed,wpOp P ops Q i (fun a' w'=>HT S C st (listed.setIfInBounds i true) w'/\xF P md ops Q S C st fuel (listed.setIfInBounds i true) a' w') a w
theorem y0d:∀ (fuel:Nat) (listed:Array Bool) (a:Act) (w:World),xF P md ops Q S C st fuel listed a w->wpAny P md ops Q fuel listed a w
 | 0,_,_,_,h=>h
 | fuel+1,_,_,_,h=>⟨h.1,fun i hi=>wpOp_mono (fun a' w' h'=>y0d fuel _ a' w' h'.2) (h.2 i hi)⟩
theorem Unl.set {listed:Array Bool} {j:Nat} (h:Unl st listed) (hj:j ∉ st):Unl st (listed.setIfInBounds j true):=fun s hs=>by
 have hne:j≠s:=fun e=>by subst e;exact hj hs
 rw [getD_set_ne true hne];exact h s hs
theorem Z1 {listed:Array Bool} {j:Nat} (hj:j ∉ st) (h:Unl st (listed.setIfInBounds j true)):Unl st listed:=fun s hs=>by
 have hne:j≠s:=fun e=>by subst e;exact hj hs
 have:=h s hs
 rw [getD_set_ne true hne] at this;exact this
theorem y5T {i:Nat} {oi:Oper} {v:Value} (hi:ops[i]?=some oi) (hsel:∀ (j:Nat) (o:Oper) cs b,ops[j]?=some o->o.op≠.select cs b)
    (hQ:∀ c a w,Q (.panic c) (a.put oi.dst v) w->Q (.panic c) a w) (hist:i ∉ st) :
    ∀ (fuel:Nat) (listed:Array Bool) (a:Act) (w:World),
      (∀ j oj,ops[j]?=some oj->j≠i->listed.getD j true=false->(∀ e∈oj.after,Region.binds md e=true->e.on≠i)->oi.apart ops oj=true) ->
      i∈Region.ready md ops listed->YieldsIf P ops S oi v a->HT S C st listed w ->
      xF P md ops Q S C st fuel (listed.setIfInBounds i true) (a.put oi.dst v) w->xF P md ops Q S C st (fuel+1) listed a w:=by
  intro fuel
  induction fuel with
  | zero =>
    intro listed a w _ hr hy hS H
    refine ⟨fun h=>(by rw [h] at hr;cases hr),fun j hj=>?_⟩
    by_cases hji:j=i
    · subst hji;exact hy.wpOp hi hS.1 ⟨⟨hS.1,fun hU=>hS.2 (Z1 hist hU)⟩,H⟩
    · have:=ready_mono hj hji
      rw [H.1] at this
      cases this
  | succ fuel ih =>
    intro listed a w hfree hr hy hS H
    refine ⟨fun h=>(by rw [h] at hr;cases hr),fun j hj=>?_⟩
    by_cases hji:j=i
    · subst hji;exact hy.wpOp hi hS.1 ⟨⟨hS.1,fun hU=>hS.2 (Z1 hist hU)⟩,H⟩
    · have h1:=H.2 j (ready_mono hj hji)
      obtain ⟨hjun,oj,hoj,hall⟩:=mem_ready.1 hj
      have hnot:∀ e∈oj.after,Region.binds md e=true->e.on≠i:=fun e he hb heq=>by
        have h1:=hall e he hb
        have h0:=(mem_ready.1 hr).1
        rw [heq] at h1
        rcases Nat.lt_or_ge i listed.size with h' | h'
        · simp [h'] at h0 h1;rw [h0] at h1;cases h1
        · simp [Array.getElem?_eq_none h'] at h1
      have h2:=wpOp_putIf hoj (hfree j oj hoj hji hjun hnot) (fun cs b=>hsel i oi cs b hi) (fun cs b=>hsel j oj cs b hoj) hQ hy h1
      have hfree':∀ k ok,ops[k]?=some ok->k≠i->(listed.setIfInBounds j true).getD k true=false ->
          (∀ e∈ok.after,Region.binds md e=true->e.on≠i)->oi.apart ops ok=true:=fun k ok hk hki hun hno=>by
        refine hfree k ok hk hki ?_ hno
        by_cases hjk:j=k
        · subst hjk;exact hjun
        · rw [getD_set_ne true hjk] at hun;exact hun
      refine wpOp_mono (fun a' w' h3=>⟨⟨h3.2.1.1,fun hU=>h3.2.1.2 (by rw [Array.setIfInBounds_comm _ _ (Ne.symm hji)];exact hU.set hist)⟩,ih (listed.setIfInBounds j true) a' w' hfree' (ready_mono hr (Ne.symm hji)) h3.1 ⟨h3.2.1.1,fun hU=>h3.2.1.2 (by rw [Array.setIfInBounds_comm _ _ (Ne.symm hji)];exact hU.set hist)⟩ ?_⟩) h2
      rw [Array.setIfInBounds_comm _ _ hji]
      exact h3.2.2
def Kc (md:Region.Mode) (ops:Array Oper) (st:List Nat) (i:Nat):Bool:=
 st.all fun s=>s != i&&match ops[s]? with
  | some o=>o.after.any fun e=>Region.binds md e&&e.on==i
  | none=>false
def unlB (st:List Nat) (listed:Array Bool):Bool:=st.all fun s=>!listed.getD s true
theorem Kd {listed:Array Bool} (h:unlB st listed=true):Unl st listed:=fun s hs=>by
 have:=List.all_eq_true.1 h s hs
 simpa using this
theorem yg {i:Nat} {oi:Oper} {v:Value} {fuel:Nat} {listed:Array Bool} {a:Act} {w:World} (hi:ops[i]?=some oi)
  (hs:Region.noSelect ops=true) (hf:Region.free md ops listed i=true) (hr:(Region.ready md ops listed).contains i=true) (hn:st.contains i=false)
  (hQ:∀ c a w,Q (.panic c) (a.put oi.dst v) w->Q (.panic c) a w) (hy:YieldsIf P ops S oi v a) (hS:S w/\C w)
  (h:xF P md ops Q S C st fuel (listed.setIfInBounds i true) (a.put oi.dst v) w):xF P md ops Q S C st (fuel+1) listed a w:=
 y5T hi (Region.noSelect_spec hs) hQ (fun hm=>by rw [List.contains_iff_mem.2 hm] at hn;cases hn) fuel listed a w (Region.free_spec hi hf) (by simpa using hr) hy ⟨hS.1,fun _=>hS.2⟩ h
theorem zw {i:Nat} {o:Oper} {fuel:Nat} {listed:Array Bool} {a:Act} {w:World} (hr:Region.ready md ops listed=[i]) (ho:ops[i]?=some o)
  (h:∀ K':Act->World->Prop,Shut (∀ a w,HT S C st (listed.setIfInBounds i true) w->xF P md ops Q S C st fuel (listed.setIfInBounds i true) a w->K' a w)->if Region.wanted o (yielded ops a.tmps)=true then Oper.wp P o a w K' Q else K' (a.put o.dst undef) w):xF P md ops Q S C st (fuel+1) listed a w:=by
 refine ⟨fun h0=>(by rw [h0] at hr;cases hr),fun j hj=>?_⟩
 rw [hr,List.mem_singleton] at hj
 subst hj
 exact wpOp_step ho fun K' hK=>h K' fun a w h1 h2=>hK a w ⟨h1,h2⟩
theorem YL {listed:Array Bool} {a:Act} {w:World} (hr:Region.ready md ops listed=[]) (h:Q .normal a w) :
  ∀ fuel,xF P md ops Q S C st fuel listed a w
 | 0=>⟨hr,h⟩
 | _+1=>⟨fun _=>h,by rw [hr];simp⟩
theorem YK {id:Nat} {a:Act} {w:World} (S C:World->Prop) (st:List Nat) (hm:P.follows .mixedOrders=true) (hS:S w.drew/\C w.drew)
  (h:S w.drew/\C w.drew->xF P .any ops Q S C st ops.size (Array.replicate ops.size false) a w.drew):(Code.region id ops true).wp P Q a w:=
 wp_region_any hm (y0d _ _ _ _ (h hS))
end
end Go.Proofs.YthohnmplbjhjaaaGreatDoor.RegT
