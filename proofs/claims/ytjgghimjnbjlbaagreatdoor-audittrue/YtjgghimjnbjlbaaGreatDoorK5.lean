/-
  Put together: AuAdv, AuWithin.
-/
import Derived.Test.YtjgghimjnbjlbaaGreatDoorJ04
import Derived.Test.YtjgghimjnbjlbaaGreatDoorJ03
import Derived.Test.YtjgghimjnbjlbaaGreatDoorJ09
import Derived.Test.YtjgghimjnbjlbaaGreatDoorJ42
import Derived.BigQuiet
import Derived.Test.YtjgghimjnbjlbaaGreatDoorJ46
namespace Go.Proofs.YtjgghimjnbjlbaaGreatDoor
open Go Go.RowKit
set_option maxRecDepth 10000
set_option maxHeartbeats 8000000
def VlAt (w:World) (b:Nat) (x:List Int):Prop:=w.heap[b]?=some (.cells (x.map (Value.int .i64)).toArray 3 (0,0))
theorem VlAt.lt {w:World} {b:Nat} {x:List Int} (h:VlAt w b x):b<w.heap.size:=(hLt h)
theorem VlAt.cell {w:World} {b:Nat} {x:List Int} (h:VlAt w b x) (j:Nat) (v:Int) (hj:x[j]?=some v):w.cell? ⟨b,j,none⟩=some (.int .i64 v):=by
  rw [yb h j];simp [hj]
theorem VlAt.frozen {w:World} {b:Nat} {x:List Int} (h:VlAt w b x) (j:Nat):w.frozen? ⟨b,j,none⟩=false:=yl h j
theorem VlAt.set {w:World} {b:Nat} {x:List Int} (h:VlAt w b x) (j:Nat) (v:Int):VlAt (w.setCell ⟨b,j,none⟩ (.int .i64 v)) b (x.set j v):=by
  have:=yB h j (.int .i64 v);unfold VlAt;rw [this];simp [List.map_set]
theorem VlAt.keep {w w':World} {b:Nat} {x:List Int} (h:VlAt w b x) (hk:w'.heap[b]?=w.heap[b]?):VlAt w' b x:=hk.trans h
theorem Yx (vs:List Md.Vr):(losL vs).length=vs.length:=List.length_map ..
theorem y1g (x l:List Int) (j:Nat) (v:Int) (hj:j<x.length):(x.take (j+1)++l).set j v=x.take j++v :: l:=by
  have e:x.take (j+1)=x.take j++[x[j]]:=List.take_succ_eq_append_getElem hj;have hl:(x.take j).length=j:=by rw [List.length_take];omega
  rw [e,List.append_assoc,List.set_append_right j v (by omega),hl,Nat.sub_self];rfl
theorem y1h (vv:Value) (vs:List Md.Vr) (b:Nat) (x:List Int) (w:World) (hv:VarsAt w vv vs) (hx:VlAt w b x) (hl:x.length=vs.length) (hb:∀ a∈x,-9000000000000000000<=a/\a<=9000000000000000000) (hne:∀ a n c g o,0<vs.length->vv=.slice (some ⟨g,o,a⟩) n c->g≠b) (cp:Nat):Calls Tryz.prog 58 #[vv,.slice (some ⟨b,0,none⟩) vs.length cp] w fun e w'=>e=.returned (.bool (advL vs x).isSome)/\VlAt w' b ((advL vs x).getD (losL vs))/\Ofw (fun k=>k=b) w w':=by
  obtain ⟨va,vcp,rfl,hvl,_,hvc⟩:=hv;unfold maxLen at hvl;obtain ⟨n,hn⟩:∃ n,vs.length=n:=⟨_,rfl⟩;have HN:Hid (vs.length=n/\x.length=n):=⟨hn,hl.trans hn⟩;have HC:Hid (∀ w',Ofw (fun k=>k=b) w w'->∀ j (h:j<vs.length),∃ vb off,va=some ⟨vb,off,none⟩/\w'.cell? ⟨vb,off+j * 3+1,none⟩=some (.int .i64 vs[j].lo)/\w'.cell? ⟨vb,off+j * 3+2,none⟩=some (.int .i64 vs[j].hi)):=fun w' ho j h=>by
    obtain ⟨vb,off,e,hlt,hc⟩:=hvc (by omega);have hk:=ho.block vb hlt (fun e2=>hne _ _ _ _ _ (by omega) (by rw [e]) e2);refine ⟨vb,off,e,?_,?_⟩
    · rw [<-(hc j h).2.1];simp only [World.cell?,hk]
    · rw [<-(hc j h).2.2];simp only [World.cell?,hk]
  have HB:Hid (∀ a∈x,-9000000000000000000<=a/\a<=9000000000000000000):=hb;have H0:Hid (VlAt w b (x.take n++(losL vs).drop n)):=by
    rw [List.take_of_length_le (by omega),List.drop_of_length_le (by rw [Yx];omega),List.append_nil];exact hx
  rw [hn] at hvl ⊢;clear hvc hx hb hne hl hn;go_enter Tryz.func58,Tryz.ntmps58;go_wp2_with fail
  go_loopw [5] (fun iv wr=>∃ (k:Nat) (i:Int),iv=.int .i64 i/\Hid (i=(k:Int)-1/\k<=n)/\Hid (advL vs x=advT vs x k)/\Hid (VlAt wr b (x.take k++(losL vs).drop k))/\Hid (Ofw (fun k=>k=b) w wr)) (fun iv _=>(intOf iv+1).toNat)
  case atStart=>exact ⟨n,_,rfl,⟨rfl,Nat.le_refl _⟩,by show advT vs x vs.length=_;rw [HN.out.1],H0,Ofw.refl _ _⟩
  case round=>
    obtain ⟨k,i,rfl,HI,HA,HV,HO⟩:=hrel;clear H0
    by_cases hk:k=0
    · have hi:i=-1:=by have:=HI.out.1;omega
      have HAn:Hid (advL vs x=none):=by rw [HA.out,hk];rfl
      have HV0:Hid (VlAt wr b (losL vs)):=by have:=HV.out;rw [hk] at this;exact this
      clear hk HI HV;subst hi;go_wp2_with fail
      go_ret;rw [HAn.out];exact ⟨rfl,HV0.out,HO.out⟩
    · obtain ⟨j,rfl⟩:∃ j,k=j+1:=⟨k-1,by omega⟩
      obtain rfl:i=(j:Int):=by have:=HI.out.1;omega
      have hjn:j<n:=HI.out.2;have hjv:j<vs.length:=by have:=HN.out.1;omega
      have hjx:j<x.length:=by have:=HN.out.2;omega
      obtain ⟨vb,off,rfl,c1,c2⟩:=HC.out wr HO.out j hjv;have HC2:Hid (∀ w',Ofw (fun k=>k=b) w w'->∀ j (h:j<vs.length),∃ vb' off',some (⟨vb,off,none⟩:Addr)=some ⟨vb',off',none⟩/\w'.cell? ⟨vb',off'+j * 3+1,none⟩=some (.int .i64 vs[j].lo)/\w'.cell? ⟨vb',off'+j * 3+2,none⟩=some (.int .i64 vs[j].hi)):=HC.out;have hg:(x.take (j+1)++(losL vs).drop (j+1))[j]?=some x[j]:=by
        rw [List.getElem?_append_left (by rw [List.length_take];omega),List.getElem?_take_of_lt (by omega),List.getElem?_eq_getElem hjx]
      have cx:wr.cell? ⟨b,j,none⟩=some (.int .i64 x[j]):=HV.out.cell j _ hg;have fx:wr.frozen? ⟨b,j,none⟩=false:=HV.out.frozen j;have hbj:=HB.out x[j] (List.getElem_mem hjx);have hgd:x.getD j 0=x[j]:=by simp [List.getD,List.getElem?_eq_getElem hjx]
      have hhi:hiAt vs j=vs[j].hi:=by unfold hiAt;rw [List.getElem?_eq_getElem hjv];rfl
      obtain ⟨a,ha⟩:∃ a,x[j]=a:=⟨_,rfl⟩;obtain ⟨h,hh⟩:∃ h,vs[j].hi=h:=⟨_,rfl⟩;obtain ⟨lo,hlo⟩:∃ lo,vs[j].lo=lo:=⟨_,rfl⟩;have HL:Hid (∀ (h:j<vs.length),vs[j].lo=lo):=fun _=>hlo
      rw [ha] at cx hbj hgd;rw [hh] at c2 hhi;rw [hlo] at c1;have HS:Hid (advT vs x (j+1)=if a<h then some (x.take j++(a+1) :: (losL vs).drop (j+1)) else advT vs x j):=by
        show (if x.getD j 0<hiAt vs j then some (x.take j++(x.getD j 0+1) :: (losL vs).drop (j+1)) else advT vs x j)=_;rw [hgd,hhi]
      have HSet:Hid (∀ v,(x.take (j+1)++(losL vs).drop (j+1)).set j v=x.take j++v :: (losL vs).drop (j+1)):=fun v=>y1g x _ j v hjx
      have HDr:Hid ((losL vs).drop j=lo :: (losL vs).drop (j+1)):=by
        show _=_;rw [List.drop_eq_getElem_cons (by rw [Yx];exact hjv)]
        congr 1
        simp [losL,hlo]
      have hj0:(0:Int)<=(j:Int):=by omega
      have hjI:(j:Int)<(n:Int):=by omega
      clear hg hgd hhi ha hh hlo hjx hjv hk
      by_cases hlt:a<h
      · have hwr:wrap64 (a+1)=a+1:=by unfold wrap64;omega
        go_wp2_with fail
        go_quiet (fail)
        go_wp2_with fail
        go_ret;rw [HA.out,HS.out,if_pos (by omega)];refine ⟨rfl,?_,?_⟩
        · have:=HV.out.set j (a+1)
          rw [HSet.out] at this;exact this
        · exact HO.out.trans ((Ofw.of_below (below_drewN (Below.refl _ _) _)).trans (Ofw.set (S:=fun k=>k=b) _ rfl))
      · have hlt':h<=a:=by omega
        go_wp2_with fail
        go_quiet (fail)
        go_wp2_with fail
        go_roundw
        case rel=>
          refine ⟨j,_,rfl,⟨rfl,by omega⟩,?_,?_,?_⟩
          · show _=_
            rw [HA.out,HS.out,if_neg (by omega)]
          · have:=HV.out.set j lo
            rw [HSet.out,<-HDr.out] at this;exact this
          · exact HO.out.trans ((Ofw.of_below (below_drewN (Below.refl _ _) _)).trans (Ofw.set (S:=fun k=>k=b) _ rfl))
        case measure=>first | (simp [intOf];done) | (simp [intOf];omega)
end Go.Proofs.YtjgghimjnbjlbaaGreatDoor

namespace Go.Proofs.YtjgghimjnbjlbaaGreatDoor
open Go Go.RowKit Go.Shelf Go.Lib
set_option maxRecDepth 10000
set_option maxHeartbeats 8000000
attribute [local go_sem] Oper.semAt_some
def remL:List Md.Vr->List Int->Nat
  | v :: vs,a :: x=>(v.hi-a).toNat * (allV vs).length+remL vs x
  | _,_=>0
theorem Zp (r:List (List Int)):∀ (n:Nat) (a:Int),(blkL r a n).length=n * r.length
  | 0,a=>by simp [blkL]
  | n + 1, a => by
    show (r.map (a :: ·)++blkL r (a+1) n).length=_;rw [List.length_append,List.length_map,Zp r n (a+1),Nat.succ_mul];omega
theorem y1I (vs:List Md.Vr) (h:∀ v∈vs,v.lo<=v.hi):remL vs (losL vs)<(allV vs).length:=by
  induction vs with
  | nil=>exact Nat.zero_lt_one
  | cons v vs ih =>
    have h1:=ih fun u hu=>h u (List.mem_cons_of_mem _ hu)
    have hv:=h v (by simp);show (v.hi-v.lo).toNat * (allV vs).length+remL vs (losL vs)<(blkL (allV vs) v.lo (v.hi-v.lo+1).toNat).length;rw [Zp,show (v.hi-v.lo+1).toNat=(v.hi-v.lo).toNat+1 from by omega,Nat.succ_mul];omega
theorem y1J (vs:List Md.Vr) (h:∀ v∈vs,v.lo<=v.hi):∀ (x y:List Int),x.length=vs.length->advL vs x=some y->remL vs y<remL vs x:=by
  induction vs with
  | nil=>intro x y _ hy;cases hy
  | cons v vs ih =>
    intro x y hl hy
    cases x with
    | nil=>simp at hl
    | cons a x =>
      have hl':x.length=vs.length:=by simpa using hl
      have h1:=y1I vs fun u hu=>h u (List.mem_cons_of_mem _ hu)
      rw [XY] at hy
      cases hx:advL vs x with
      | some x' =>
        rw [hx] at hy;have e:y=a :: x':=(Option.some.inj hy).symm;subst e;have h2:=ih (fun u hu=>h u (List.mem_cons_of_mem _ hu)) x x' hl' hx;show (v.hi-a).toNat * (allV vs).length+remL vs x'<(v.hi-a).toNat * (allV vs).length+remL vs x;omega
      | none =>
        rw [hx] at hy;have hy':(if a<v.hi then some ((a+1) :: losL vs) else none)=some y:=hy
        by_cases ha:a<v.hi
        · rw [if_pos ha] at hy'
          have e:y=(a+1) :: losL vs:=(Option.some.inj hy').symm;subst e;show (v.hi-(a+1)).toNat * (allV vs).length+remL vs (losL vs)<(v.hi-a).toNat * (allV vs).length+remL vs x;rw [show (v.hi-a).toNat=(v.hi-(a+1)).toNat+1 from by omega,Nat.succ_mul];omega
        · rw [if_neg ha] at hy';cases hy'
theorem y1K (vs:List Md.Vr):∀ x∈allV vs,∀ a∈x,∃ v∈vs,v.lo<=a/\a<=v.hi:=by
  induction vs with
  | nil=>intro x hx a ha;simp [allV] at hx;subst hx;cases ha
  | cons v vs ih =>
    have key:∀ (n:Nat) (b:Int),v.lo<=b->b+(n:Int)<=v.hi+1->∀ x∈blkL (allV vs) b n,∀ a∈x,∃ u∈v :: vs,u.lo<=a/\a<=u.hi:=by
      intro n
      induction n with
      | zero=>intro b _ _ x hx;simp [blkL] at hx
      | succ n ihn =>
        intro b h1 h2 x hx a ha;rcases List.mem_append.1 hx with hx | hx
        · obtain ⟨y,hy,rfl⟩:=List.mem_map.1 hx
          rcases List.mem_cons.1 ha with rfl | ha
          · exact ⟨v,by simp,h1,by omega⟩
          · obtain ⟨u,hu,h3⟩:=ih y hy a ha
            exact ⟨u,List.mem_cons_of_mem _ hu,h3⟩
        · exact ihn (b+1) (by omega) (by omega) x hx a ha
    intro x hx;rcases Int.lt_or_le (v.hi-v.lo+1) 0 with h | h
    · rw [show allV (v :: vs)=blkL (allV vs) v.lo (v.hi-v.lo+1).toNat from rfl,show (v.hi-v.lo+1).toNat=0 from by omega] at hx
      simp [blkL] at hx
    · exact key _ _ (Int.le_refl _) (by omega) x hx
def cttL (w:World) (b:Nat):List Int:=match w.heap[b]? with
  | some (.cells cs _ _)=>cs.toList.map RowKit.intOf
  | _=>[]
theorem VlAt.ctt {w:World} {b:Nat} {x:List Int} (h:VlAt w b x):cttL w b=x:=by
  unfold cttL;rw [show w.heap[b]?=_ from h];simp only [List.map_map];refine (List.map_congr_left (g:=id) fun a _=>rfl).trans (List.map_id _)
theorem y1L (n:Nat) (hn:n<=1000000) (w:World):(Instr.makeSlice 27 (.int .i64 (n:Int)) (.int .i64 (n:Int))).run Tryz.prog w=.ok (.slice (some ⟨w.heap.size,0,none⟩) n n) (w.alloc (.cells (Array.replicate n (.int .i64 0)) 3)):=by
  have hinfo:(Tryz.prog.info? 3).map (fun i=>(i.zero,i.size,i.bytes))=some (some (.int .i64 0),1,8):=by kernel_rfl
  have hu:Tryz.prog.underlying 27=some (.slice 3):=by kernel_rfl
  obtain ⟨i,hi,hz,hs,hbb⟩:∃ i,Tryz.prog.info? 3=some i/\i.zero=some (.int .i64 0)/\i.size=1/\i.bytes=8:=by
    obtain ⟨i,hi,he⟩:=Option.map_eq_some_iff.1 hinfo;simp only [Prod.mk.injEq] at he;exact ⟨i,hi,he.1,he.2.1,he.2.2⟩
  have hr:=run_make (P:=Tryz.prog) w 27 3 i (.int .i64 0) hu hi hz .i64 .i64 n n (by omega) (Int.le_refl _) (by rw [hbb];omega) (by omega);simp only [Int.toNat_natCast,hs] at hr;rw [hr];have e:madeCells (Value.int .i64 0).cells (n * 1)=Array.replicate n (.int .i64 0):=by
    apply Array.ext
    · rw [size_madeCells];simp
    · intro j h1 h2
      simp [madeCells,Value.cells,Nat.mod_one]
  rw [e]
theorem XE (n:Nat) (vv:Value) (w:World) (hvv:∃ va n c,vv=.slice va n c):CallsIn Fence.wide n Tryz.prog 31 #[vv] w fun e w'=>e=.returned (.func (.func 57) #[] #[.pointer (some ⟨w.heap.size,0,none⟩)])/\w'=w.alloc (.cells #[vv] 22):=by
  refine callsIn_of_wp Tryz.func31 rfl trivial ?_ rfl;simp only [Tryz.ntmps31,List.size_toArray,List.length_cons,List.length_nil,Nat.reduceAdd,Nat.reduceSub,Array.replicate_succ,Array.replicate_zero,List.push_toArray,List.append_toArray,List.nil_append,List.cons_append];have hS:∃ va n c,vv=.slice va n c:=hvv;obtain ⟨va,n',c,rfl⟩:=hS
  gi_wp2
  go_ret;exact ⟨rfl,rfl⟩
def YvAt (b n:Nat) (x:List Int) (vs:Array Value) (W:World):Prop:=vs=#[.slice (some ⟨b,0,none⟩) n n]/\VlAt W b x
theorem XF (n:Nat) (hn:1<=n) (Bx:Nat) (vv:Value) (vs:List Md.Vr) (T0:Nat->Prop) (w:World) (hlo:∀ v∈vs,v.lo<=v.hi/\-1000000000000000000<=v.lo/\v.hi<=1000000000000000000) (hvl:vs.length<=1000000)
    (hV:∀ W,w.heap.size<=W.heap.size->(∀ k,T0 k->W.heap[k]?=w.heap[k]?)->VarsAt W vv vs/\W.heap[Bx]?=some (.cells #[vv] 22 (0,0))) (hT0:∀ k,T0 k->k<w.heap.size) (hvb:∀ a n c g o,0<vs.length->vv=.slice (some ⟨g,o,a⟩) n c->g<w.heap.size) :
    SeqY Fence.wide n Tryz.prog 57 #[.pointer (some ⟨Bx,0,none⟩)] (YvAt w.heap.size vs.length) (fun k=>k=w.heap.size) (fun k=>T0 k∨k=w.heap.size) (w.heap.size+1) (allV vs) w:=by
  intro l J J2 hJ hJ2 hY h0;obtain ⟨hV0,hx0⟩:=hV w (Nat.le_refl _) fun _ _=>rfl
  have hxc:w.cell? ⟨Bx,0,none⟩=some vv:=yb hx0 0;obtain ⟨va,vcp,rfl,hvm⟩:=hV0.form;have hMk:=fun W=>y1L vs.length hvl W
  have hMi:vs.length<=1000000:=hvl;obtain ⟨W1,hW1⟩:∃ W1,w.alloc (.cells (Array.replicate vs.length (.int .i64 0)) 3)=W1:=⟨_,rfl⟩;have z1:W1.heap.size=w.heap.size+1:=by rw [<-hW1];exact Array.size_push _
  have b1:Below w.heap.size w W1:=bAe hW1;have v1:VlAt W1 w.heap.size (List.replicate vs.length 0):=by
    rw [<-hW1];refine (heap_alloc_new w _).trans ?_;simp
  obtain ⟨_,hx1⟩:=hV W1 (by omega) fun k hk=>b1.block k (hT0 k hk)
  have hxc1:W1.cell? ⟨Bx,0,none⟩=some (.slice va vs.length vcp):=yb hx1 0;have hj1:J [] W1:=hJ _ _ _ h0 (Ofw.of_below b1);have HVb:Hid (∀ a n c g o,0<vs.length->Value.slice va vs.length vcp=.slice (some ⟨g,o,a⟩) n c->g<w.heap.size):=hvb;have HS:Hid (∀ W,W1.heap.size<=W.heap.size->(∀ k,T0 k->W.heap[k]?=W1.heap[k]?)->VarsAt W (.slice va vs.length vcp) vs/\W.heap[Bx]?=some (.cells #[.slice va vs.length vcp] 22 (0,0))):=fun W hs hk=>hV W (by omega) fun k hT=>(hk k hT).trans (b1.block k (hT0 k hT))
  clear hV hx0 hV0 hx1 b1 h0 hvb;refine callsIn_of_wp Tryz.func57 rfl trivial ?_ rfl;simp only [Tryz.ntmps57,List.size_toArray,List.length_cons,List.length_nil,Nat.reduceAdd,Nat.reduceSub,Array.replicate_succ,Array.replicate_zero,List.push_toArray,List.append_toArray,List.nil_append,List.cons_append]
  gi_wp2
  try rw [hW1]
  have HZ1:Hid (W1.heap.size=w.heap.size+1):=z1;have HV1:Hid (VlAt W1 w.heap.size ((losL vs).take 0++List.replicate (vs.length-0) 0)):=v1;have HJ1:Hid (J [] W1):=hj1;have HJ:Hid (∀ s W W',J s W->Ofw (fun k=>k=w.heap.size) W W'->J s W'):=hJ;have HJ2:Hid (∀ s W W',J2 s W->Ofw (fun k=>k=w.heap.size) W W'->J2 s W'):=hJ2;have HY:Hid (∀ (pre:List (List Int)) x post ws W,allV vs=pre++x :: post->J pre W->w.heap.size+1<=W.heap.size->YvAt w.heap.size vs.length x ws W->YieldAt Fence.wide (n-1) Tryz.prog l ws W fun e W'=>((e=.returned (.bool true)/\J (pre++[x]) W')∨(e=.returned (.bool false)/\J2 (pre++[x]) W'))/\W.heap.size<=W'.heap.size/\∀ k,(T0 k∨k=w.heap.size)->W'.heap[k]?=W.heap[k]?):=hY;have HLo:Hid (∀ v∈vs,v.lo<=v.hi/\-1000000000000000000<=v.lo/\v.hi<=1000000000000000000):=hlo
  clear hW1 z1 v1 hj1 hJ hJ2 hY hlo hMk hxc hxc1
  gi_loopw [12] (fun iv wr=>∃ j:Nat,iv=.int .i64 (j:Int)/\j<=vs.length/\Hid (VlAt wr w.heap.size ((losL vs).take j++List.replicate (vs.length-j) 0))/\Hid (Ofw (fun k=>k=w.heap.size) W1 wr)) (fun iv _=>vs.length-(RowKit.intOf iv).toNat)
  case atStart=>exact ⟨0,rfl,Nat.zero_le _,HV1,Ofw.refl _ _⟩
  case round=>
    obtain ⟨j,rfl,hj,HV,HO⟩:=hrel;clear HV1;obtain ⟨hva,hbx⟩:=HS.out wr HO.out.size fun k hk=>HO.out.block k (by have:=hT0 k hk;have:=HZ1.out;omega) (by have:=hT0 k hk;omega)
    by_cases hjn:j<vs.length
    · have hjI:(j:Int)<(vs.length:Int):=by omega
      obtain ⟨va',vcp',e1,_,_,hvc⟩:=hva;injection e1 with e2 e3 e4;obtain ⟨vb,off,e5,hvb,hcell⟩:=hvc (by omega);rw [e5] at e2;subst e2;obtain ⟨c0,c1,c2⟩:=hcell j hjn;obtain ⟨lo,hlo⟩:∃ lo,vs[j].lo=lo:=⟨_,rfl⟩;rw [hlo] at c1;obtain ⟨hi,hhi⟩:∃ hi,vs[j].hi=hi:=⟨_,rfl⟩;obtain ⟨nm,hnm⟩:∃ nm,vs[j].name=nm:=⟨_,rfl⟩;rw [hhi] at c2;rw [hnm] at c0;have HLj:Hid ((losL vs)[j]?=some lo):=by show _=_;rw [<-hlo];simp [losL,hjn]
      obtain ⟨W5,hW5⟩:∃ W,wr.alloc (.cells #[.string nm,.int .i64 lo,.int .i64 hi] 49)=W:=⟨_,rfl⟩;have g5:W5.heap[wr.heap.size]?=some (.cells #[.string nm,.int .i64 lo,.int .i64 hi] 49 (0,0)):=hAe hW5;have b5:Below wr.heap.size wr W5:=bAe hW5;have k1:W5.cell? ⟨wr.heap.size,1,none⟩=some (.int .i64 lo):=yb g5 1;have hll:((losL vs).take j).length=j:=by rw [List.length_take,Yx];omega
      have HV5:Hid (VlAt W5 w.heap.size ((losL vs).take j++List.replicate (vs.length-j) 0)):=HV.out.keep (b5.block _ HV.out.lt);have y5:W5.cell? ⟨w.heap.size,j,none⟩=some (.int .i64 0):=HV5.out.cell j 0 (by rw [List.getElem?_append_right (by omega),hll,Nat.sub_self,List.getElem?_replicate,if_pos (by omega)]);have f5:W5.frozen? ⟨w.heap.size,j,none⟩=false:=HV5.out.frozen j;have HO5:Hid (Ofw (fun k=>k=w.heap.size) W1 W5):=HO.out.trans (Ofw.of_below b5);have HSet:Hid (((losL vs).take j++List.replicate (vs.length-j) 0).set j lo=(losL vs).take (j+1)++List.replicate (vs.length-(j+1)) 0):=by
        show _=_;rw [List.set_append_right j lo (by omega),hll,Nat.sub_self,show vs.length-j=(vs.length-(j+1))+1 from by omega,List.replicate_succ,List.set_cons_zero,List.take_add_one,HLj.out];simp
      clear hvc hcell e3 e4 e5 hbx hlo hhi hnm g5 b5 hll
      gi_wp2
      go_roundw
      case rel=>
        refine ⟨j+1,by go_num,hjn,?_,?_⟩
        · have:=HV5.out.set j lo
          rw [HSet.out] at this;exact this
        · exact HO5.out.trans (Ofw.set (S:=fun k=>k=w.heap.size) _ rfl)
      case measure=>first | (simp [RowKit.intOf];done) | (simp [RowKit.intOf];omega)
    · have hjI:¬ (j:Int)<(vs.length:Int):=by omega
      have HVj:Hid (VlAt wr w.heap.size (losL vs)):=by
        have h:=HV.out;rw [List.take_of_length_le (by rw [Yx];omega),show vs.length-j=0 from by omega,List.replicate_zero,List.append_nil] at h;exact h
      have HOw:Hid (Ofw (fun k=>k=w.heap.size) W1 wr):=HO.out;have hch:=y1F vs fun v hv=>(HLo.out v hv).1
      have HCh:Hid (∀ i x,(allV vs)[i]?=some x->advL vs x=(allV vs)[i+1]?):=hch.2;have HJr:Hid (J [] wr):=HJ.out _ _ _ HJ1.out HOw.out;have HSt:Hid (∃ post,allV vs=[]++losL vs :: post):=by
        cases hl:allV vs with
        | nil=>rw [hl] at hch;simp at hch
        | cons y t =>
          rw [hl] at hch;have:y=losL vs:=by simpa using hch.1
          rw [this];exact ⟨t,rfl⟩
      have HFr:Hid (w.heap.size+1<=wr.heap.size/\∀ k,T0 k->wr.heap[k]?=W1.heap[k]?):=⟨by have:=HZ1.out;have:=HOw.out.size;omega,fun k hk=>HOw.out.block k (by have:=hT0 k hk;have:=HZ1.out;omega) (by have:=hT0 k hk;omega)⟩;clear hch HV HO HJ1 hva hbx
      gi_wp2
      gi_loopw [6] (fun mv wr=>∃ m:Bool,mv=.bool m/\Hid (w.heap.size+1<=wr.heap.size/\∀ k,T0 k->wr.heap[k]?=W1.heap[k]?)/\Hid ((m=true/\∃ pre x post,allV vs=pre++x :: post/\VlAt wr w.heap.size x/\J pre wr)∨(m=false/\J (allV vs) wr))) (fun mv wr=>match mv with | .bool true=>1+remL vs (cttL wr w.heap.size) | _=>0)
      case atStart=>
        obtain ⟨post,hp⟩:=HSt.out;exact ⟨true,rfl,HFr.out,.inl ⟨rfl,[],losL vs,post,hp,HVj.out,HJr.out⟩⟩
      case round=>
        obtain ⟨m,rfl,HF,HM⟩:=hrel;clear HFr HSt HJr HVj HOw;rcases HM.out with ⟨rfl,pre,x,post,hall,hvx,hj⟩ | ⟨rfl,hj⟩
        · have hlen:x.length=vs.length:=Zk vs x (by rw [hall];simp)
          have hadv:advL vs x=post.head?:=by
            have:=HCh.out pre.length x (by rw [hall];simp);rw [this,hall]
            cases post <;> simp
          obtain ⟨fn,tmps,assign,body,hy,hR⟩:=HY.out pre x post _ wr hall hj HF.out.1 ⟨rfl,hvx⟩;have HAll:Hid (allV vs=pre++x :: post):=hall;have HAdv:Hid (advL vs x=post.head?):=hadv;have HVx:Hid (VlAt wr w.heap.size x):=hvx;have HVr:Hid (VlAt wr w.heap.size x):=hvx;clear hvx hj hall hadv HM
          gi_wp2
          refine hR.mono ?_;rintro e W6 ⟨(⟨rfl,hj6⟩ | ⟨rfl,hj6⟩),hs6,hk6⟩
          · have HF6:Hid (w.heap.size+1<=W6.heap.size/\∀ k,T0 k->W6.heap[k]?=W1.heap[k]?):=⟨Nat.le_trans HF.out.1 hs6,fun k hk=>(hk6 k (.inl hk)).trans (HF.out.2 k hk)⟩
            have HV6:Hid (VlAt W6 w.heap.size x):=HVx.out.keep (hk6 _ (.inr rfl));obtain ⟨hva6,hbx6⟩:=HS.out W6 (by have:=HF6.out.1;have:=HZ1.out;omega) HF6.out.2;have hxc6:W6.cell? ⟨Bx,0,none⟩=some (.slice va vs.length vcp):=yb hbx6 0;have HAd:Hid (∀ cp,Calls Tryz.prog 58 #[.slice va vs.length vcp,.slice (some ⟨w.heap.size,0,none⟩) vs.length cp] W6 fun e w'=>e=.returned (.bool (advL vs x).isSome)/\VlAt w' w.heap.size ((advL vs x).getD (losL vs))/\Ofw (fun k=>k=w.heap.size) W6 w'):=fun cp=>by
              refine y1h _ vs _ x W6 hva6 HV6.out hlen (fun a ha=>?_) (fun a' n' c' g o h0' he=>?_) cp
              · have hb:=y1K vs x (by rw [HAll.out];simp) a ha
                obtain ⟨v,hv,h1,h2⟩:=hb;have:=HLo.out v hv;omega
              · exact Nat.ne_of_lt (HVb.out a' n' c' g o h0' he)
            have HJ6:Hid (J (pre++[x]) W6):=hj6;clear hj6 hs6 hk6 hR hy hva6 hbx6 HF HVx
            cases post with
            | nil =>
              have ha:advL vs x=none:=HAdv.out
              gi_wp2_with (refine ⟨trivial,?_⟩;gi_at_call 58;refine (callsIn_wide.2 (HAd.out _)).mono ?_;rintro e W7 ⟨rfl,hv7,ho7⟩)
              have HJ7:Hid (J (allV vs) W7):=by
                have:=HJ.out _ _ _ HJ6.out ho7;rw [HAll.out];exact this
              have HF7:Hid (w.heap.size+1<=W7.heap.size/\∀ k,T0 k->W7.heap[k]?=W1.heap[k]?):=⟨Nat.le_trans HF6.out.1 ho7.size,fun k hk=>(ho7.block k (by have:=hT0 k hk;have:=HF6.out.1;omega) (by have:=hT0 k hk;omega)).trans (HF6.out.2 k hk)⟩;clear hv7 ho7 HJ6 HAd;go_roundw
              case rel=>exact ⟨false,rfl,HF7.out,.inr ⟨rfl,HJ7.out⟩⟩
              case measure=>simp;omega
            | cons y t =>
              have ha:advL vs x=some y:=HAdv.out
              gi_wp2_with (refine ⟨trivial,?_⟩;gi_at_call 58;refine (callsIn_wide.2 (HAd.out _)).mono ?_;rintro e W7 ⟨rfl,hv7,ho7⟩)
              rw [ha] at hv7;have HV7:Hid (VlAt W7 w.heap.size y):=hv7;have HJ7:Hid (J (pre++[x]) W7):=HJ.out _ _ _ HJ6.out ho7;have HF7:Hid (w.heap.size+1<=W7.heap.size/\∀ k,T0 k->W7.heap[k]?=W1.heap[k]?):=⟨Nat.le_trans HF6.out.1 ho7.size,fun k hk=>(ho7.block k (by have:=hT0 k hk;have:=HF6.out.1;omega) (by have:=hT0 k hk;omega)).trans (HF6.out.2 k hk)⟩;have HRm:Hid (remL vs y<remL vs x):=y1J vs (fun v hv=>(HLo.out v hv).1) x y hlen ha;clear hv7 ho7 HJ6 HAd ha;go_roundw
              case rel=>exact ⟨true,rfl,HF7.out,.inl ⟨rfl,pre++[x],y,t,by rw [HAll.out];simp,HV7.out,HJ7.out⟩⟩
              case measure=>
                have h1:=HV7.out.ctt;have h2:=HVr.out.ctt;have:=HRm.out;simp only [h1,h2];omega
          · have HJe:Hid (J2 (pre++[x]) W6):=hj6
            clear hj6 hs6 hk6 hR hy
            gi_wp2
            refine bodyPost_ret (results_none rfl _ _ _) rfl ?_;exact ⟨⟨_,rfl⟩,.inr ⟨pre,x,post,HAll.out,HJe.out⟩⟩
        · have HJe:Hid (J (allV vs) wr):=hj
          clear hj HM
          gi_wp2
          go_end0;exact ⟨⟨_,rfl⟩,.inl HJe.out⟩
end Go.Proofs.YtjgghimjnbjlbaaGreatDoor
