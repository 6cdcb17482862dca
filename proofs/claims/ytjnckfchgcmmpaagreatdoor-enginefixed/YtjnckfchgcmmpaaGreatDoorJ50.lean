import Derived.Test.YtjnckfchgcmmpaaGreatDoorJ05
import Derived.Test.YtjnckfchgcmmpaaGreatDoorJ49
import Derived.Test.YtjnckfchgcmmpaaGreatDoorJ21
namespace Go.Proofs.YtjnckfchgcmmpaaGreatDoor
open Go.RowKit
set_option maxRecDepth 10000
set_option maxHeartbeats 8000000
theorem egInts_cells {w:World} {a:Option Addr} {cap:Nat} {l:List Int} (h:IntsAt w (.slice a l.length cap) l) (k:Nat) (hk:k<l.length):∃ b off,a=some ⟨b,off,none⟩/\w.cell? ⟨b,off+k,none⟩=some (.int .i64 l[k]):=by
  obtain ⟨a',cap',e,_,hc⟩:=h;injection e with e1 _ _;obtain ⟨b,off,ha,_,hcell⟩:=hc (by omega);exact ⟨b,off,by rw [e1,ha],hcell k hk⟩
theorem egSame_eq (a a2:Option Addr) (cap cap2:Nat) (l:List Int) (w:World) (h1:IntsAt w (.slice a l.length cap) l) (h2:IntsAt w (.slice a2 l.length cap2) l) (hl:l.length<=1000000):Calls Tryz.prog 16 #[.slice a l.length cap,.slice a2 l.length cap2] w fun e w'=>e=.returned (.bool true)/\Below w.heap.size w w':=by
  have H1:Hid (∀ w',Below w.heap.size w w'->∀ k (hk:k<l.length),∃ b off,a=some ⟨b,off,none⟩/\w'.cell? ⟨b,off+k,none⟩=some (.int .i64 l[k])):=fun w' hb k hk=>egInts_cells (h1.below hb) k hk
  have H2:Hid (∀ w',Below w.heap.size w w'->∀ k (hk:k<l.length),∃ b off,a2=some ⟨b,off,none⟩/\w'.cell? ⟨b,off+k,none⟩=some (.int .i64 l[k])):=fun w' hb k hk=>egInts_cells (h2.below hb) k hk
  clear h1 h2;go_enter Tryz.func16,Tryz.ntmps16;go_wp2_with fail
  go_loopw [5] (fun iv wr=>∃ (k:Nat),iv=.int .i64 (k:Int)/\k<=l.length/\Hid (Below w.heap.size w wr)) (fun iv _=>l.length-(intOf iv).toNat)
  case atStart=>exact ⟨0,rfl,Nat.zero_le _,Below.refl _ _⟩
  case round=>
  obtain ⟨k,rfl,hk,HB⟩:=hrel
  by_cases hkn:k<l.length
  case neg=>
    have hke:k=l.length:=by omega
    subst hke;have hkI:¬ (l.length:Int)<(l.length:Int):=by omega
    go_wp2_with fail
    go_ret;exact ⟨rfl,HB.out⟩
  case pos=>
  have hkI:(k:Int)<(l.length:Int):=by omega
  obtain ⟨b,off,rfl,q1⟩:=H1.out wr HB.out k hkn;obtain ⟨b',off',rfl,q2⟩:=H2.out wr HB.out k hkn;go_upto_region 6 with fail
  go_quiet (fail)
  go_wp2_with fail
  go_roundw
  case rel=>exact ⟨k+1,by go_num,hkn,HB.out.trans ((bl_drewN _ _).mono HB.out.size)⟩
  case measure=>simp [intOf];omega
def LiOut (D:List Dm) (vs:List Int) (w:World) (e:Ending) (w':World):Prop:=(∃ b:Bool,e=.returned (.bool b)/\(b=true->Lies D vs))/\Below w.heap.size w w'
theorem egLies_any (B p:Nat) (nv mv:Value) (s:St) (w:World) (hS:StAt B w p nv mv s) (xa:Option Addr) (xc:Nat) (vs:List Int) (hX:IntsAt w (.slice xa vs.length xc) vs) (hl:vs.length=s.now.length):Calls Tryz.prog 9 #[.pointer (some ⟨p,0,none⟩),.slice xa vs.length xc] w (LiOut s.now vs w):=by
  have hn:=hS.n32;have HV:Hid (Calls Tryz.prog 28 #[.pointer (some ⟨p,0,none⟩)] w fun e w'=>e=.returned (.int .i64 (vs.length:Int))/\w'=w):=by rw [hl];exact vars_any B p nv mv s w hS
  have H1:Hid (∀ w',Below w.heap.size w w'->∀ k (hk:k<vs.length),∃ b off,xa=some ⟨b,off,none⟩/\w'.cell? ⟨b,off+k,none⟩=some (.int .i64 vs[k])):=fun w' hb k hk=>egInts_cells (hX.below hb) k hk
  have HH:Hid (∀ w',Below w.heap.size w w'->∀ k (hk:k<vs.length),∃ b:Bool,(b=true->∀ d,s.now[k]?=some d->d.has vs[k]=true)/\Calls Tryz.prog 29 #[.pointer (some ⟨p,0,none⟩),.int .i64 (k:Int),.int .i64 vs[k]] w' fun e w2=>e=.returned (.bool b)/\Below w'.heap.size w' w2):=fun w' hb k hk=>by
    have hk2:k<s.now.length:=by omega
    refine ⟨_,fun h d hd=>?_,has_in B p nv mv s k hk2 vs[k] w' (hS.below hb)⟩;rw [List.getElem?_eq_getElem hk2] at hd;injection hd with hd;rw [<-hd];exact h
  have HLe:Hid (vs.length=s.now.length):=hl;have hvl:vs.length<=32:=by omega
  clear hS hX hl;go_enter Tryz.func9,Tryz.ntmps9;go_wp2_with (go_at_call 28;refine cA HV.out ?_;intro e w1 hh;(obtain ⟨h1,h2⟩:=hh);subst h1;rw [h2];clear h2);go_loopw [5] (fun iv wr=>∃ (k:Nat),iv=.int .i64 (k:Int)/\k<=vs.length/\Hid (∀ j (hj:j<vs.length),j<k->∀ d,s.now[j]?=some d->d.has vs[j]=true)/\Hid (Below w.heap.size w wr)) (fun iv _=>vs.length-(intOf iv).toNat)
  case atStart=>exact ⟨0,rfl,Nat.zero_le _,(fun j _ h=>absurd h (Nat.not_lt_zero _)),Below.refl _ _⟩
  case round=>
  obtain ⟨k,rfl,hk,HP,HB⟩:=hrel;rename World=>wr
  by_cases hkn:k<vs.length
  case neg=>
    have hke:k=vs.length:=by omega
    subst hke;have hkI:¬ (vs.length:Int)<(vs.length:Int):=by omega
    go_wp2_with fail
    go_ret;refine ⟨⟨true,rfl,fun _=>lies_of HLe.out fun x d hd=>?_⟩,HB.out⟩;have hx:x<vs.length:=by rw [HLe.out];exact (List.getElem?_eq_some_iff.1 hd).1
    exact ⟨vs[x],List.getElem?_eq_getElem hx,HP.out x hx hx d hd⟩
  case pos=>
  have hkI:(k:Int)<(vs.length:Int):=by omega
  obtain ⟨b,off,rfl,q1⟩:=H1.out wr HB.out k hkn;obtain ⟨bb,hbb,hCl⟩:=HH.out wr HB.out k hkn;have HCl:Hid (Calls Tryz.prog 29 #[.pointer (some ⟨p,0,none⟩),.int .i64 (k:Int),.int .i64 vs[k]] wr fun e w2=>e=.returned (.bool bb)/\Below wr.heap.size wr w2):=hCl;have Hbb:Hid (bb=true->∀ d,s.now[k]?=some d->d.has vs[k]=true):=hbb;clear hCl hbb
  cases bb with
  | false =>
    go_wp2_with (go_at_call 29;refine cA HCl.out ?_;rintro e w1 ⟨rfl,hb1⟩);go_ret;exact ⟨⟨false,rfl,fun h=>by cases h⟩,bl_next HB.out hb1⟩
  | true =>
    go_wp2_with (go_at_call 29;refine cA HCl.out ?_;rintro e w1 ⟨rfl,hb1⟩);go_roundw
    case rel=>
      refine ⟨k+1,by go_num,hkn,?_,bl_next HB.out hb1⟩;intro j hj hjk
      by_cases e:j=k
      · subst e
        exact Hbb.out (by trivial)
      · exact HP.out j hj (by omega)
    case measure=>simp [intOf];omega
def zS (l:List Md.Vr):Int:=(l.map fun v=>v.hi-v.lo).sum
theorem zS_next {l:List Md.Vr} {k:Nat} (hk:k<l.length):zS (l.take (k+1))=zS (l.take k)+(l[k].hi-l[k].lo):=by
  unfold zS;rw [List.take_succ_eq_append_getElem hk,List.map_append,List.sum_append];simp
theorem zS_lo {l:List Md.Vr} (h:∀ v∈l,Md.boundsB v.lo v.hi=true):∀ k,k<=l.length->0<=zS (l.take k)/\zS (l.take k)<=64*(k:Int):=by
  intro k
  induction k with
  | zero=>intro _;simp [zS]
  | succ k ih =>
    intro hk;have h1:=ih (by omega);have h2:=Md.bounds_of (h _ (List.getElem_mem (show k<l.length by omega)));rw [zS_next (by omega)];omega
def FuOut (m:Md.Mo) (w:World) (e:Ending) (w':World):Prop:=(∃ f:Nat,e=.returned (.int .i64 (f:Int))/\m.cons.length+2<=f/\f<=1000000)/\Below w.heap.size w w'
theorem egFull_any (m:Md.Mo) (vv vc vg:Value) (w:World) (h:MoAt w m vv vc vg) (hr:(Md.check m).2=0):Calls Tryz.prog 13 #[moVal m vv vc vg] w (FuOut m w):=by
  have hR:=Md.right_of hr;have hz:=zS_lo (fun v hv=>(hR.var v hv).2);have hnv:=hR.nv;have hnc:=hR.nc;obtain ⟨va,vcap,rfl,_,_,hvc⟩:=id h.v;obtain ⟨ca,ccap,rfl,_⟩:=id h.c;obtain ⟨ga,gcap,rfl,_⟩:=id h.g;obtain ⟨W,hW⟩:∃ W,w.alloc (.cells #[.slice va m.vars.length vcap,.slice ca m.cons.length ccap,.bool m.has,.slice ga m.goal.length gcap] 26)=W:=⟨_,rfl⟩;have hb0:Below w.heap.size w W:=bAe hW;have g0:W.heap[w.heap.size]?=some (.cells #[.slice va m.vars.length vcap,.slice ca m.cons.length ccap,.bool m.has,.slice ga m.goal.length gcap] 26 (0,0)):=hAe hW;obtain ⟨N,hN⟩:∃ N,w.heap.size=N:=⟨_,rfl⟩;rw [hN] at g0;have HG:Hid (∀ w',Below W.heap.size W w'->w'.cell? ⟨N,0,none⟩=some (.slice va m.vars.length vcap)/\w'.cell? ⟨N,1,none⟩=some (.slice ca m.cons.length ccap)):=fun w' hb=>by
    have:=(hb.block _ (hLt g0)).trans g0;exact ⟨cell_of this 0,cell_of this 1⟩
  have HVs:Hid (∀ w',Below W.heap.size W w'->∀ k (hk:k<m.vars.length),∃ b off,va=some ⟨b,off,none⟩/\w'.cell? ⟨b,off+k*3+1,none⟩=some (.int .i64 m.vars[k].lo)/\w'.cell? ⟨b,off+k*3+2,none⟩=some (.int .i64 m.vars[k].hi)):=fun w' hb k hk=>by
    obtain ⟨b,off,e,hlt,hc⟩:=hvc (by omega);have hb2:Below w.heap.size w w':=hb0.trans (hb.mono hb0.size);exact ⟨b,off,e,(hb2.cell (p:=⟨b,_,none⟩) hlt).trans (hc k hk).2.1,(hb2.cell (p:=⟨b,_,none⟩) hlt).trans (hc k hk).2.2⟩
  have HBo:Hid (∀ k (hk:k<m.vars.length),(-1000000000<=m.vars[k].lo/\m.vars[k].lo<=1000000000)/\(-1000000000<=m.vars[k].hi/\m.vars[k].hi<=1000000000)/\m.vars[k].lo<=m.vars[k].hi/\m.vars[k].hi-m.vars[k].lo<64):=fun k hk=>Md.bounds_of (hR.var _ (List.getElem_mem hk)).2
  have HZ:Hid (∀ k,k<=m.vars.length->0<=zS (m.vars.take k)/\zS (m.vars.take k)<=64*(k:Int)):=hz;have HB0:Hid (Below w.heap.size w W):=hb0;unfold moVal;clear h g0 hb0 hvc hR hz hr;obtain ⟨p0,p1⟩:=HG.out W (Below.refl _ _);go_enter Tryz.func13,Tryz.ntmps13;go_upto_region 1 with fail
  try rw [hW]
  try rw [hN]
  clear hW hN;go_wp2_with fail
  go_loopw [3,4] (fun zv iv wr=>∃ (k:Nat),iv=.int .i64 (k:Int)/\zv=.int .i64 (zS (m.vars.take k))/\k<=m.vars.length/\Hid (Below W.heap.size W wr)) (fun _ iv _=>m.vars.length-(intOf iv).toNat)
  case atStart=>exact ⟨0,rfl,rfl,Nat.zero_le _,Below.refl _ _⟩
  case round=>
  clear p0 p1;obtain ⟨k,rfl,rfl,hk,HB⟩:=hrel;rename World=>wr;obtain ⟨p0,p1⟩:=HG.out wr HB.out;have hzk:=HZ.out k hk
  by_cases hkn:k<m.vars.length
  case neg=>
    have hke:k=m.vars.length:=by omega
    subst hke;have hkI:¬ (m.vars.length:Int)<(m.vars.length:Int):=by omega
    obtain ⟨z,hz⟩:∃ z,zS (m.vars.take m.vars.length)=z:=⟨_,rfl⟩;rw [hz] at hzk ⊢;obtain ⟨Z,rfl⟩:∃ Z:Nat,z=(Z:Int):=⟨z.toNat,by omega⟩;have hZ:Z<=2048:=by omega
    have hp:((m.cons.length:Int)+2)*(1+(Z:Int))=(((m.cons.length+2)*(1+Z):Nat):Int):=by push_cast;rfl
    have hpl:(m.cons.length+2)*(1+Z)<=66*2049:=Nat.mul_le_mul (by omega) (by omega);have hpg:m.cons.length+2<=(m.cons.length+2)*(1+Z):=Nat.le_mul_of_pos_right _ (by omega);obtain ⟨Q,hQ⟩:∃ Q,(m.cons.length+2)*(1+Z)=Q:=⟨_,rfl⟩;rw [hQ] at hp hpl hpg;have hw1:IntKind.i64.wrap ((m.cons.length:Int)+2)=(m.cons.length:Int)+2:=by rw [IntKind.wrap_i64];omega
    have hw2:IntKind.i64.wrap (1+(Z:Int))=1+(Z:Int):=by rw [IntKind.wrap_i64];omega
    have hw3:IntKind.i64.wrap (((m.cons.length:Int)+2)*(1+(Z:Int)))=(Q:Int):=by rw [hp,IntKind.wrap_i64];omega
    clear hz hQ;go_wp2_with fail
    go_ret;exact ⟨⟨Q,by first | rfl | (congr 2),hpg,by omega⟩,bl_next HB0.out HB.out⟩
  case pos=>
  have hkI:(k:Int)<(m.vars.length:Int):=by omega
  obtain ⟨b,off,rfl,q1,q2⟩:=HVs.out wr HB.out k hkn;have hbo:=HBo.out k hkn;have hnx:=zS_next hkn;generalize m.vars[k].lo=lo at *
  generalize m.vars[k].hi=hi at *
  generalize zS (m.vars.take k)=z at *
  have hw1:IntKind.i64.wrap (z+hi)=z+hi:=by rw [IntKind.wrap_i64];omega
  have hw2:IntKind.i64.wrap (z+hi-lo)=z+hi-lo:=by rw [IntKind.wrap_i64];omega
  go_upto_region 5 with fail
  go_quiet (fail)
  go_wp2_with fail
  go_roundw
  case rel=>exact ⟨k+1,by go_num,by rw [hnx];first | (congr 1;omega) | rfl,hkn,HB.out.trans ((bl_drewN _ _).mono HB.out.size)⟩
  case measure=>simp [intOf];omega
end Go.Proofs.YtjnckfchgcmmpaaGreatDoor
namespace Go.Proofs.YtjnckfchgcmmpaaGreatDoor
open Go.RowKit
def kcA:Md.Cn:=⟨1,3,[(1,0),(1,1)],5,0,0,0,[],[],[]⟩
def kE:Md.Mo:=⟨[⟨⟨#[120]⟩,0,3⟩,⟨⟨#[121]⟩,0,3⟩],[kcA],false,[]⟩
def kD:List Dm:=[⟨0,15,0⟩,⟨0,15,0⟩]
def kS:St:=⟨kD,[],0⟩
def kD2:List Dm:=[⟨0,12,0⟩,⟨0,12,0⟩]
def kS2:St:=⟨kD2,[],0⟩
def kT:List Tl:=[⟨0,1,0,2,0,0,none,0,0⟩,⟨0,1,1,2,0,0,none,0,0⟩]
theorem knS:newS kE=kS:=by kernel_rfl
theorem knA:cutR kD kcA=([⟨1,0,2⟩,⟨1,1,2⟩],true):=by kernel_rfl
theorem knA2:cutR kD2 kcA=([],true):=by kernel_rfl
theorem kn0:(stT kS kT 0).may 1 0 2=true:=by kernel_rfl
theorem kn1:(stT kS kT 1).may 1 1 2=true:=by kernel_rfl
theorem kn2:stT kS kT 2=kS2:=by kernel_rfl
theorem kn3:dnL 0 kS kT 2=kT:=by kernel_rfl
theorem kn4:dAll 0 12 0=[2,3]:=by kernel_rfl
theorem CallR.all {pl:Int} {T:List Tl} {s s':St} {dn:List Tl} {is:Bool} (h:CallR pl T true s s' dn is) (hm:∀ j (h:j<T.length),(stT s T j).may T[j].k T[j].x T[j].v=true):is=true/\dn=dnL pl s T T.length/\s'=stT s T T.length:=by
  rcases h with ⟨h,_⟩ | ⟨_,n,hn,_,h2,h3⟩
  · cases h
  · rcases h3 with ⟨e,h4,h5⟩ | ⟨hlt,h4,_⟩
    · subst e
      exact ⟨h4,h2,h5⟩
    · rw [hm n hlt] at h4
      cases h4
theorem kn_rule {i:Nat} {s s':St} {dn:List Tl} {is:Bool} (h:RuleR [(kcA,0)] i s s' dn is):(s=kS->is=true/\dn=kT/\s'=kS2)/\(s=kS2->is=true/\dn=[]/\s'=kS2):=by
  obtain ⟨hi,T,ok,h1,h2⟩:=h;have hi0:i=0:=by simp at hi;omega
  subst hi0;have e0:([(kcA,(0:Int))]:List (Md.Cn × Int))[0]=(kcA,0):=rfl;rw [e0] at h1 h2;dsimp only at h1 h2;unfold ToldR at h1;rw [if_neg (by decide)] at h1;obtain ⟨rfl,rfl⟩:=h1
  constructor
  · rintro rfl
    have e1:(cutR kS.now kcA)=([⟨1,0,2⟩,⟨1,1,2⟩],true):=knA;rw [e1] at h2;have h3:CallR 0 kT true kS s' dn is:=h2
    obtain ⟨a1,a2,a3⟩:=h3.all (fun j hj=>by
      have hj2:j=0∨j=1:=by simp [kT] at hj;omega
      rcases hj2 with rfl | rfl
      · exact kn0
      · exact kn1)
    have hl:kT.length=2:=rfl;rw [hl] at a2 a3;exact ⟨a1,a2.trans kn3,a3.trans kn2⟩
  · rintro rfl
    have e1:(cutR kS2.now kcA)=([],true):=knA2;rw [e1] at h2;have h3:CallR 0 [] true kS2 s' dn is:=h2;obtain ⟨a1,a2,a3⟩:=h3.all (fun j hj=>absurd hj (by simp));exact ⟨a1,a2,a3⟩
theorem kn_reach {d i f:Nat} {s:St} {acc:List Tl} (h:Reach (RuleR [(kcA,0)]) 1 kS 100 d i f s acc):(d=0/\i=0/\f=100/\s=kS/\acc=[])∨(d=0/\i<=1/\f=99/\s=kS2/\acc=kT)∨(d=1/\i=1/\f=98/\s=kS2/\acc=kT):=by
  induction h using Reach.ind with
  | start=>exact .inl ⟨rfl,rfl,rfl,rfl,rfl⟩
  | wrap _ hd ih =>
    rcases ih with ⟨h1,h2,_⟩ | ⟨h1,h2,h3,h4,h5⟩ | ⟨h1,_⟩
    · omega
    · exact .inr (.inl ⟨h1,by omega,h3,h4,h5⟩)
    · omega
  | step _ hi hd hr ih =>
    have hk:=kn_rule hr;rcases ih with ⟨h1,h2,h3,h4,h5⟩ | ⟨h1,h2,h3,h4,h5⟩ | ⟨h1,h2,h3,h4,h5⟩
    · obtain ⟨_,a2,a3⟩:=hk.1 h4
      subst a2 a3 h5;refine .inr (.inl ⟨by rw [if_neg (by decide)],by omega,by omega,rfl,rfl⟩)
    · obtain ⟨_,a2,a3⟩:=hk.2 h4
      subst a2 a3 h5;refine .inr (.inr ⟨by rw [if_pos (by decide)];omega,by omega,by omega,rfl,by simp⟩)
    · omega
theorem kn_run {acc:List Tl} {f:Nat} {how:Int} {s:St} (h:RunR (RuleR [(kcA,0)]) 1 kS 100 acc f how s):how=1/\acc=kT/\f=98/\s=kS2:=by
  rcases h with ⟨h1,i,h⟩ | ⟨_,_,d,i,h,_⟩ | ⟨_,d,i,s1,acc1,dn,h,hi,hd,hr,_⟩
  · rcases kn_reach h with ⟨a,_⟩ | ⟨a,_⟩ | ⟨_,_,a3,a4,a5⟩
    · omega
    · omega
    · exact ⟨h1,a5,a3,a4⟩
  · rcases kn_reach h with ⟨_,_,a,_⟩ | ⟨_,_,a,_⟩ | ⟨_,_,a,_⟩ <;> omega
  · have hk:=kn_rule hr
    rcases kn_reach h with ⟨_,_,_,a4,_⟩ | ⟨_,_,_,a4,_⟩ | ⟨a1,_⟩
    · have:=(hk.1 a4).1
      cases this
    · have:=(hk.2 a4).1
      cases this
    · omega
theorem kE_at {W:World} {N N1 N2:Nat} (h0:W.heap[N]?=some (.cells #[.string ⟨#[120]⟩,.int .i64 0,.int .i64 3,.string ⟨#[121]⟩,.int .i64 0,.int .i64 3] 51 (0,0))) (h1:W.heap[N1]?=some (.cells #[.int .i64 1,.int .i64 0,.int .i64 1,.int .i64 1] 53 (0,0))) (h2:W.heap[N2]?=some (.cells #[.int .i64 1,.int .i64 3,.slice (some ⟨N1,0,none⟩) 2 2,.int .i64 5,.int .i64 0,.int .i64 0,.int .i64 0,.slice none 0 0,.slice none 0 0,.slice none 0 0] 56 (0,0))):MoAt W kE (.slice (some ⟨N,0,none⟩) 2 2) (.slice (some ⟨N2,0,none⟩) 1 1) (.slice none 0 0):=by
  have hT:TermsAt W (.slice (some ⟨N1,0,none⟩) 2 2) [(1,0),(1,1)]:=⟨_,2,rfl,by unfold maxLen;simp,fun _=>⟨N1,0,rfl,(hLt h1),fun j hj=>by
    have hj2:j=0∨j=1:=by simp at hj;omega
    rcases hj2 with rfl | rfl
    · exact ⟨cell_of h1 0,cell_of h1 1⟩
    · exact ⟨cell_of h1 2,cell_of h1 3⟩⟩⟩
  have hC:CnAt W kcA (.slice (some ⟨N1,0,none⟩) 2 2) (.slice none 0 0) (.slice none 0 0) (.slice none 0 0):=⟨hT,nil_ints W,(fun a n cp e=>by injection e with _ e2 e3;omega),nil_ints W,⟨none,0,rfl,Nat.zero_le _,fun h=>absurd h (Nat.not_lt_zero _)⟩⟩;refine ⟨⟨_,2,rfl,by unfold maxLen;simp [kE],?_,fun _=>⟨N,0,rfl,(hLt h0),fun j hj=>?_⟩⟩,(fun a n cp e=>by injection e with _ e2 e3;omega),⟨_,1,rfl,by unfold maxLen;simp [kE],fun _=>⟨N2,0,rfl,(hLt h2),fun j hj=>?_⟩⟩,⟨none,0,rfl,Nat.zero_le _,fun h=>absurd h (Nat.not_lt_zero _)⟩⟩
  · intro x hx
    simp only [kE,List.mem_cons,List.not_mem_nil,or_false] at hx;unfold maxLen
    rcases hx with rfl | rfl <;> decide
  · have hj2:j=0∨j=1:=by simp [kE] at hj;omega
    rcases hj2 with rfl | rfl
    · exact ⟨cell_of h0 0,cell_of h0 1,cell_of h0 2⟩
    · exact ⟨cell_of h0 3,cell_of h0 4,cell_of h0 5⟩
  · have hj2:j=0:=by simp [kE] at hj;omega
    subst hj2;exact ⟨_,_,_,_,hC,cell_of h2 0,cell_of h2 1,cell_of h2 2,cell_of h2 3,cell_of h2 4,cell_of h2 5,cell_of h2 6,cell_of h2 7,cell_of h2 8,cell_of h2 9⟩
end Go.Proofs.YtjnckfchgcmmpaaGreatDoor
namespace Go.Proofs.YtjnckfchgcmmpaaGreatDoor
open Go.RowKit
set_option maxRecDepth 10000
set_option maxHeartbeats 8000000
theorem kn_same {w:World} {B:Nat} {a:Option Addr} {cap:Nat} (h:w.ownsRow B 3 1 (.slice a 2 cap) 2 [.int .i64 2,.int .i64 3]):Calls Tryz.prog 16 #[.slice a 2 cap,.slice (some ⟨w.heap.size,0,none⟩) 2 2] (w.alloc (.cells #[.int .i64 2,.int .i64 3] 3)) fun e w'=>e=.returned (.bool true)/\Below w.heap.size w w':=by
  have hb:Below w.heap.size w (w.alloc (.cells #[.int .i64 2,.int .i64 3] 3)):=(Below.refl _ _).alloc (Nat.le_refl _) _;have g:(w.alloc (.cells #[.int .i64 2,.int .i64 3] 3)).heap[w.heap.size]?=some (.cells #[.int .i64 2,.int .i64 3] 3 (0,0)):=heap_alloc_new w _;have h1:IntsAt (w.alloc (.cells #[.int .i64 2,.int .i64 3] 3)) (.slice a ([2,3]:List Int).length cap) [2,3]:=own_ints' (l:=[2,3]) (own_below h hb) (by unfold maxLen;simp)
  have h2:IntsAt (w.alloc (.cells #[.int .i64 2,.int .i64 3] 3)) (.slice (some ⟨w.heap.size,0,none⟩) ([2,3]:List Int).length 2) [2,3]:=⟨_,2,rfl,by unfold maxLen;simp,fun _=>⟨_,0,rfl,(hLt g),fun j hj=>by
    have hj2:j=0∨j=1:=by simp at hj;omega
    rcases hj2 with rfl | rfl
    · exact cell_of g 0
    · exact cell_of g 1⟩⟩
  refine (egSame_eq a (some ⟨w.heap.size,0,none⟩) cap 2 [2,3] _ h1 h2 (by simp)).mono ?_;rintro e w' ⟨rfl,hb2⟩;exact ⟨rfl,hb.trans (hb2.mono hb.size)⟩
theorem kn_runs {w1 w2:World} {p B ep L H K:Nat} {nv mv rv vg:Value} {xs:List Value} (hS:StAt B w2 p nv mv kS) (hO:∀ k,Own p nv mv k->k<w1.heap.size) (hL:w1.heap.size<=L/\L<=H/\H<=ep) (hE:w2.heap[ep]?=some (.cells #[rv,.int .i64 (kE.cons.length:Int),.bool kE.has,vg,.int .i64 0,.int .i64 0,.int .i64 0,.int .i64 0,.int .i64 0,.int .i64 0,.slice none 0 0] 83 (0,0))) (hR:RsOwn (EnT L H) (ep+1) w2 rv (numL kE.cons) xs) (hT:Tz w2) (h1:0<w1.heap.size) (hK:K<=B/\K<=ep):Calls Tryz.prog 12 #[.pointer (some ⟨ep,0,none⟩),.pointer (some ⟨p,0,none⟩),.int .i64 100] w2 fun e w3=>∃ a cap,e=.returned (.tuple #[.slice a 2 cap,.int .i64 98,.int .i64 1])/\(∃ g,a=some ⟨g,0,none⟩/\w3.cell? ⟨g,0,none⟩=some (.int .i64 0))/\StAt B w3 p nv mv kS2/\Tz w3/\Below K w2 w3:=by
  have e1:numL kE.cons=[(kcA,0)]:=rfl;rw [e1] at hR;obtain ⟨ra,rc,rfl,_⟩:=egOwn_slice hR.own;have hA:Alls kS:=by rw [<-knS];exact alls_new kE
  have hnS:¬ (fun b=>Own p nv mv b∨b=ep) 0:=fun h=>by
    rcases h with h | h
    · have:=(hS.old h).2
      have:=hS.b1;omega
    · omega
  refine (egRun_any K B p ep hK.1 hK.2 nv mv kS w2 ra rc [(kcA,0)] _ _ _ _ _ _ _ _ _ _ 100 hE (by omega) (fun h=>by have:=hO ep h;omega) (hR.ru (fun b hb=>?_) (fun g h2 h3 hs=>?_)) (fun r hr=>?_) (by simp) (by omega) hS hA hT (fun d i f s acc h=>?_)).mono ?_
  · rcases hb with hb | hb
    · exact .inl (by have:=hO b hb;omega)
    · exact .inr (by omega)
  · rcases hs with hs | hs
    · have:=hO g hs
      omega
    · omega
  · have:r=(kcA,0):=by simpa using hr
    rw [this];simp [kcA]
  · rcases kn_reach h with ⟨_,_,_,_,rfl⟩ | ⟨_,_,_,_,rfl⟩ | ⟨_,_,_,_,rfl⟩ <;> simp [kT]
  · rintro e w3 ⟨acc,f,how,s,v,hr,rfl,ho,hS3,hof,hbl⟩
    obtain ⟨rfl,rfl,rfl,rfl⟩:=kn_run hr;have hw0:0<w2.heap.size:=Nat.lt_of_le_of_lt (Nat.zero_le p) hS.lt;obtain ⟨a,cap,rfl,_⟩:=egOwn_slice ho;obtain ⟨g,rfl,_,_,hc,_⟩:=tls_cell ho 0 (by decide);exact ⟨_,cap,rfl,⟨g,rfl,hc⟩,hS3,hT.off hof hnS hw0,hbl⟩
theorem known_any (w:World) (hT:Tz w) (hs:0<w.heap.size):Calls Tryz.prog 4 #[] w fun e w'=>e=.returned (.bool true)/\Below w.heap.size w w':=by
  obtain ⟨A,hA⟩:∃ A,w.alloc (.cells #[.string ⟨#[120]⟩,.int .i64 0,.int .i64 3,.string ⟨#[121]⟩,.int .i64 0,.int .i64 3] 51)=A:=⟨_,rfl⟩;obtain ⟨A2,hA2⟩:∃ A2,A.alloc (.cells #[.int .i64 1,.int .i64 0,.int .i64 1,.int .i64 1] 53)=A2:=⟨_,rfl⟩;obtain ⟨A3,hA3⟩:∃ A3,A2.alloc (.cells #[.int .i64 1,.int .i64 3,.slice (some ⟨w.heap.size+1,0,none⟩) 2 2,.int .i64 5,.int .i64 0,.int .i64 0,.int .i64 0,.slice none 0 0,.slice none 0 0,.slice none 0 0] 56)=A3:=⟨_,rfl⟩;obtain ⟨V,hV⟩:∃ V,A3.alloc (.cells #[.slice (some ⟨w.heap.size,0,none⟩) 2 2,.slice (some ⟨w.heap.size+1+1,0,none⟩) 1 1,.bool false,.slice none 0 0] 26)=V:=⟨_,rfl⟩;have s1:A.heap.size=w.heap.size+1:=by rw [<-hA];simp
  have s2:A2.heap.size=w.heap.size+1+1:=by rw [<-hA2];simp [s1]
  have s3:A3.heap.size=w.heap.size+1+1+1:=by rw [<-hA3];simp [s2]
  have b1:Below w.heap.size w A:=bAe hA;have b2:Below A.heap.size A A2:=bAe hA2;have b3:Below A2.heap.size A2 A3:=bAe hA3;have b4:Below A3.heap.size A3 V:=bAe hV;have g1:A.heap[w.heap.size]?=some (.cells #[.string ⟨#[120]⟩,.int .i64 0,.int .i64 3,.string ⟨#[121]⟩,.int .i64 0,.int .i64 3] 51 (0,0)):=hAe hA;have g2:A2.heap[w.heap.size+1]?=some (.cells #[.int .i64 1,.int .i64 0,.int .i64 1,.int .i64 1] 53 (0,0)):=by rw [<-hA2,<-s1];exact heap_alloc_new A _
  have g3:A3.heap[w.heap.size+1+1]?=some (.cells #[.int .i64 1,.int .i64 3,.slice (some ⟨w.heap.size+1,0,none⟩) 2 2,.int .i64 5,.int .i64 0,.int .i64 0,.int .i64 0,.slice none 0 0,.slice none 0 0,.slice none 0 0] 56 (0,0)):=by rw [<-hA3,<-s2];exact heap_alloc_new A2 _
  have g4:V.heap[w.heap.size+1+1+1]?=some (.cells #[.slice (some ⟨w.heap.size,0,none⟩) 2 2,.slice (some ⟨w.heap.size+1+1,0,none⟩) 1 1,.bool false,.slice none 0 0] 26 (0,0)):=by rw [<-hV,<-s3];exact heap_alloc_new A3 _
  have b34:Below A2.heap.size A2 V:=bl_next b3 b4;have b24:Below A.heap.size A V:=bl_next b2 b34;have hbV:Below w.heap.size w V:=bl_next b1 b24;have hM:MoAt V kE (.slice (some ⟨w.heap.size,0,none⟩) 2 2) (.slice (some ⟨w.heap.size+1+1,0,none⟩) 1 1) (.slice none 0 0):=kE_at ((b24.block _ (hLt g1)).trans g1) ((b34.block _ (hLt g2)).trans g2) ((b4.block _ (hLt g3)).trans g3);have hVs:0<V.heap.size:=Nat.lt_of_lt_of_le hs hbV.size;have HNw:Hid (Calls Tryz.prog 6 #[.agg #[.slice (some ⟨w.heap.size,0,none⟩) 2 2,.slice (some ⟨w.heap.size+1+1,0,none⟩) 1 1,.bool false,.slice none 0 0]] V (NewOut kE V)):=new_any kE _ _ _ V hM hVs;have HM:Hid (∀ w',Below V.heap.size V w'->MoAt w' kE (.slice (some ⟨w.heap.size,0,none⟩) 2 2) (.slice (some ⟨w.heap.size+1+1,0,none⟩) 1 1) (.slice none 0 0)):=fun w' hb=>hM.below hb
  have HNe:Hid (∀ w',Below V.heap.size V w'->Calls Tryz.prog 8 #[.agg #[.slice (some ⟨w.heap.size,0,none⟩) 2 2,.slice (some ⟨w.heap.size+1+1,0,none⟩) 1 1,.bool false,.slice none 0 0]] w' (NeOut kE w')):=fun w' hb=>egNew_any kE _ _ _ w' (hM.below hb) (by simp [kE]) (fun c hc=>by
    have:c=kcA:=by simpa [kE] using hc
    rw [this]
    simp [kcA])
  have HG:Hid (∀ w',Below V.heap.size V w'->w'.cell? ⟨w.heap.size+1+1+1,0,none⟩=some (.slice (some ⟨w.heap.size,0,none⟩) 2 2)/\w'.cell? ⟨w.heap.size+1+1+1,1,none⟩=some (.slice (some ⟨w.heap.size+1+1,0,none⟩) 1 1)/\w'.cell? ⟨w.heap.size+1+1+1,2,none⟩=some (.bool false)/\w'.cell? ⟨w.heap.size+1+1+1,3,none⟩=some (.slice none 0 0)):=fun w' hb=>by
    have:=(hb.block _ (hLt g4)).trans g4;exact ⟨cell_of this 0,cell_of this 1,cell_of this 2,cell_of this 3⟩
  have HTV:Hid (Tz V/\0<V.heap.size):=⟨hT.below hbV hs,hVs⟩;have HBV:Hid (Below w.heap.size w V):=hbV;have HVe:Hid ((((w.alloc (.cells #[.string ⟨#[120]⟩,.int .i64 0,.int .i64 3,.string ⟨#[121]⟩,.int .i64 0,.int .i64 3] 51)).alloc (.cells #[.int .i64 1,.int .i64 0,.int .i64 1,.int .i64 1] 53)).alloc (.cells #[.int .i64 1,.int .i64 3,.slice (some ⟨w.heap.size+1,0,none⟩) 2 2,.int .i64 5,.int .i64 0,.int .i64 0,.int .i64 0,.slice none 0 0,.slice none 0 0,.slice none 0 0] 56)).alloc (.cells #[.slice (some ⟨w.heap.size,0,none⟩) 2 2,.slice (some ⟨w.heap.size+1+1,0,none⟩) 1 1,.bool false,.slice none 0 0] 26)=V):=by show _=_;rw [hA,hA2,hA3,hV]
  obtain ⟨q0,q1,q2,q3⟩:=HG.out V (Below.refl _ _);clear hA hA2 hA3 hV s1 s2 s3 b1 b2 b3 b4 g1 g2 g3 g4 b34 b24 hbV hM hVs hT;go_enter Tryz.func4,Tryz.ntmps4;go_upto_region 2 with fail
  rw [HVe.out];clear HVe;go_upto_region 3 with (go_at_call 6;refine cA HNw.out ?_;intro e w1 hh;(obtain ⟨p,nv,mv,rfl,hS1,hb1⟩:=hh));have HS1:Hid (StAt V.heap.size w1 p nv mv kS):=by have:=hS1;rw [knS] at this;exact this
  have HB1:Hid (Below V.heap.size V w1):=hb1;have HNe1:Hid (Calls Tryz.prog 8 #[.agg #[.slice (some ⟨w.heap.size,0,none⟩) 2 2,.slice (some ⟨w.heap.size+1+1,0,none⟩) 1 1,.bool false,.slice none 0 0]] w1 (NeOut kE w1)):=HNe.out w1 hb1;clear q0 q1 q2 q3 hS1 hb1 HNw HNe;obtain ⟨q0,q1,q2,q3⟩:=HG.out w1 HB1.out;go_upto_region 4 with (go_at_call 8;refine cA HNe1.out ?_;intro e w2 hh;(obtain ⟨ep,L,H,rv,vg,xs,hL2,rfl,hE2,hR2,hG2,hb2⟩:=hh));have HB2:Hid (Below V.heap.size V w2):=bl_next HB1.out hb2;have HS2:Hid (StAt V.heap.size w2 p nv mv kS):=HS1.out.below hb2;have HO:Hid (∀ k,Own p nv mv k->k<w1.heap.size/\V.heap.size<=k):=fun k hk=>HS1.out.old hk
  have HL:Hid (w1.heap.size<=L/\L<=H/\H<=ep):=hL2;have HRn:Hid (Calls Tryz.prog 12 #[.pointer (some ⟨ep,0,none⟩),.pointer (some ⟨p,0,none⟩),.int .i64 100] w2 fun e w3=>∃ a cap,e=.returned (.tuple #[.slice a 2 cap,.int .i64 98,.int .i64 1])/\(∃ g,a=some ⟨g,0,none⟩/\w3.cell? ⟨g,0,none⟩=some (.int .i64 0))/\StAt V.heap.size w3 p nv mv kS2/\Tz w3/\Below V.heap.size w2 w3):=kn_runs HS2.out (fun k hk=>(HO.out k hk).1) hL2 hE2 hR2 (HTV.out.1.below HB2.out HTV.out.2) (Nat.lt_of_lt_of_le HTV.out.2 HB1.out.size) ⟨Nat.le_refl _,Nat.le_trans HB1.out.size (Nat.le_trans hL2.1 (Nat.le_trans hL2.2.1 hL2.2.2))⟩;clear hL2 hE2 hR2 hG2 hb2 q0 q1 q2 q3 HNe1;go_upto_region 7 with (go_at_call 12;refine cA HRn.out ?_;intro e w3 hh;(obtain ⟨a3,cap3,rfl,⟨g3,rfl,hc3⟩,hS3,hT3,ho3⟩:=hh));have HB3:Hid (Below V.heap.size V w3):=HB2.out.trans ho3
  have HV:Hid (∀ (x:Nat) w',x<2->Below w3.heap.size w3 w'->Calls Tryz.prog 17 #[.pointer (some ⟨p,0,none⟩),.int .i64 (x:Int)] w' fun e w4=>∃ a cap,e=.returned (.slice a 2 cap)/\w4.ownsRow w'.heap.size 3 1 (.slice a 2 cap) 2 [.int .i64 2,.int .i64 3]/\Below w'.heap.size w' w4):=fun x w' hx hb=>by
    have hx2:x<kS2.now.length:=hx;have hs3:0<w3.heap.size:=Nat.lt_of_lt_of_le HTV.out.2 HB3.out.size;refine (values_in V.heap.size p nv mv kS2 x hx2 w' (hS3.below hb) (hT3.below hb hs3)).mono ?_;rintro e w4 ⟨v,rfl,ho,hb4⟩;have e1:dAll kS2.now[x].f kS2.now[x].a kS2.now[x].b=[2,3]:=by
      have hx3:x=0∨x=1:=by omega
      rcases hx3 with rfl | rfl <;> exact kn4
    rw [e1] at ho;obtain ⟨a,cap,rfl,_⟩:=egOwn_slice ho;exact ⟨a,cap,rfl,ho,hb4⟩
  have HV0:Hid (∀ w',Below w3.heap.size w3 w'->Calls Tryz.prog 17 #[.pointer (some ⟨p,0,none⟩),.int .i64 0] w' fun e w4=>∃ a cap,e=.returned (.slice a 2 cap)/\w4.ownsRow w'.heap.size 3 1 (.slice a 2 cap) 2 [.int .i64 2,.int .i64 3]/\Below w'.heap.size w' w4):=fun w' hb=>HV.out 0 w' (by omega) hb
  have HV1:Hid (∀ w',Below w3.heap.size w3 w'->Calls Tryz.prog 17 #[.pointer (some ⟨p,0,none⟩),.int .i64 1] w' fun e w4=>∃ a cap,e=.returned (.slice a 2 cap)/\w4.ownsRow w'.heap.size 3 1 (.slice a 2 cap) 2 [.int .i64 2,.int .i64 3]/\Below w'.heap.size w' w4):=fun w' hb=>HV.out 1 w' (by omega) hb
  have HB:Hid (Below w3.heap.size w3 w3):=Below.refl _ _;clear hS3 hT3 ho3 HV
  go_wp2_with (first
    | (go_at_call 17;refine cA (HV0.out _ HB.out) ?_;intro e w4 hh;(obtain ⟨a4,c4,rfl,ho4,hb4⟩:=hh);(have HS4:Hid (Calls Tryz.prog 16 #[.slice a4 2 c4,.slice (some ⟨w4.heap.size,0,none⟩) 2 2] (w4.alloc (.cells #[.int .i64 2,.int .i64 3] 3)) fun e w'=>e=.returned (.bool true)/\Below w4.heap.size w4 w'):=kn_same ho4);(have HB4:Hid (Below w3.heap.size w3 w4):=bl_next HB.out hb4);clear ho4 hb4 HV0 HB)
    | (go_at_call 16;refine cA HS4.out ?_;intro e w5 hh;(obtain ⟨h1,hb5⟩:=hh);subst h1;(have HB5:Hid (Below w3.heap.size w3 w5):=bl_next HB4.out hb5);clear hb5 HS4 HB4)
    | (go_at_call 17;refine cA (HV1.out _ HB5.out) ?_;intro e w6 hh;(obtain ⟨a6,c6,rfl,ho6,hb6⟩:=hh);(have HS6:Hid (Calls Tryz.prog 16 #[.slice a6 2 c6,.slice (some ⟨w6.heap.size,0,none⟩) 2 2] (w6.alloc (.cells #[.int .i64 2,.int .i64 3] 3)) fun e w'=>e=.returned (.bool true)/\Below w6.heap.size w6 w'):=kn_same ho6);(have HB6:Hid (Below w3.heap.size w3 w6):=bl_next HB5.out hb6);clear ho6 hb6 HV1)
    | (go_at_call 16;refine cA HS6.out ?_;intro e w7 hh;(obtain ⟨h1,hb7⟩:=hh);subst h1;(have HB7:Hid (Below w3.heap.size w3 w7):=bl_next HB6.out hb7);clear hb7 HS6))
  go_ret;exact ⟨rfl,HBV.out.trans ((HB3.out.trans (HB7.out.mono HB3.out.size)).mono HBV.out.size)⟩
end Go.Proofs.YtjnckfchgcmmpaaGreatDoor
namespace Go.Proofs.YtjnckfchgcmmpaaGreatDoor
open Go.RowKit
theorem st_vars:(List.range 32).all (fun j=>Md.varFault (nmV j) ((List.range j).map nmV)==0)=true:=by kernel_rfl
theorem st_check {c:Md.Cn} {n:Nat} (h1:1<=n) (h2:n<=32):(Md.check (stM c n)).2=Md.fault (c0 c) n:=by
  have hl:(stM c n).vars.length=n:=by simp [stM]
  have hf:Md.fewB (stM c n).vars.length 32=false:=by rw [hl];simp [Md.fewB];omega
  have hv:Md.firstBad (stM c n).vars.length (Md.vFault (stM c n).vars)=none:=Md.firstBad_none fun j hj=>by
    rw [hl] at hj;rw [Md.vFault_get (by rw [hl];exact hj)];have e1:(stM c n).vars[j]'(by rw [hl];exact hj)=nmV j:=by simp [stM]
    have e2:(stM c n).vars.take j=(List.range j).map nmV:=by simp [stM,<-List.map_take,List.take_range,Nat.min_eq_left (Nat.le_of_lt hj)]
    rw [e1,e2];have:=List.all_eq_true.1 st_vars j (List.mem_range.2 (by omega));simpa using this
  have hc:¬ 64<(stM c n).cons.length:=by simp [stM]
  have hg:Md.goalFault (stM c n)=0:=by simp [Md.goalFault,stM]
  unfold Md.check;rw [if_neg (by rw [hf];simp),hv];simp only [if_neg hc]
  by_cases h0:Md.fault (c0 c) n=0
  · have hk:Md.firstBad (stM c n).cons.length (Md.cFault (stM c n).cons (stM c n).vars.length)=none:=Md.firstBad_none fun j hj=>by
      have hj0:j=0:=by simp [stM] at hj;exact hj
      subst hj0;rw [Md.cFault_get hj,hl];exact h0
    rw [hk];simp only [hg,if_true,h0]
  · have hk:Md.firstBad (stM c n).cons.length (Md.cFault (stM c n).cons (stM c n).vars.length)=some 0:=Md.firstBad_some (by simp [stM]) (by rw [Md.cFault_get (by simp [stM]),hl];exact h0) (fun j hj=>absurd hj (Nat.not_lt_zero _))
    rw [hk];simp only [];rw [Md.cFault_get (by simp [stM]),hl];rfl
theorem may_refused {d:Dm} (ho:d.Ok) {v:Int} (hv:d.has v=true) (h1:∀ u,d.has u=true->u=v):d.may 3 v=false:=by
  have hz:(d.cut 3 v).eqB ⟨0,0,0⟩=true:=by
    cases e:(d.cut 3 v).eqB ⟨0,0,0⟩
    · obtain ⟨k,hk,hb⟩:=any_words (ho.cut 3 v) e
      have hu:=((d.cut 3 v).has_is (ho.cut 3 v) ((d.cut 3 v).f+(k:Int))).2 ⟨k,hk,rfl,hb⟩;obtain ⟨h2,h3⟩:=cut_fewer ho 3 v _ hu;rw [h1 _ h2] at h3;simp [takesB] at h3
    · rfl
  have hd:(d.cut 3 v).eqB d=false:=by
    cases e:(d.cut 3 v).eqB d
    · rfl
    · have hn:=has_nonzero ho hv
      unfold Dm.eqB at e hz hn;have e1:(d.cut 3 v).a=d.a/\(d.cut 3 v).b=d.b:=by simpa using e
      have e2:(d.cut 3 v).a=0/\(d.cut 3 v).b=0:=by simpa using hz
      rw [<-e1.1,<-e1.2,e2.1,e2.2] at hn;simp at hn
  unfold Dm.may;rw [hz,hd];rfl
theorem getD_mem {l:List Int} {i:Nat} (hi:i<l.length):l.getD i 0∈l:=by
  rw [List.getD_eq_getElem?_getD,List.getElem?_eq_getElem hi];exact List.getElem_mem hi
theorem one_cut {q:Sq} {d:Dm} {x:Int} {v:Int} (hf:d.Fine) (hv:d.has v=true) (h1:∀ u,d.has u=true->u=v) {c:Ct} (hc:c∈q.cutsL x d.all):c=⟨3,x,v⟩:=by
  have ha:∀ u∈d.all,u=v:=fun u hu=>h1 u ((hf.all u).1 hu)
  have hne:0<d.all.length:=List.length_pos_of_mem ((hf.all v).2 hv);unfold Sq.cutsL at hc
  split at hc
  · rename_i h
    have hk:0<(q.kept d.all).length:=by
      rw [Bool.and_eq_true] at h;simpa using h.2
    have hkm:∀ u∈q.kept d.all,u=v:=fun u hu=>ha u (List.mem_filter.1 hu).1
    have e:endsL x d.all (q.kept d.all)=[]:=by
      unfold endsL;rw [hkm _ (getD_mem hk),ha _ (getD_mem hne),hkm _ (getD_mem (show (q.kept d.all).length-1<_ by omega)),ha _ (getD_mem (show d.all.length-1<_ by omega))];simp
    rw [e] at hc
    cases hc
  · unfold Sq.gone at hc
    obtain ⟨u,hu,rfl⟩:=List.mem_map.1 hc;rw [ha u (List.mem_filter.1 hu).1]
theorem one_cuts {Q:List Sq} {D:List Dm} {vs:List Int} (hf:Fines D) (hl:Lies D vs) (h1:Ones D):∀ k,∀ c∈cutsUpto Q D k,∃ (x:Nat) (d:Dm) (v:Int),D[x]?=some d/\d.has v=true/\(∀ u,d.has u=true->u=v)/\c=⟨3,(x:Int),v⟩:=by
  intro k
  induction k with
  | zero=>intro c hc;cases hc
  | succ k ih =>
    intro c hc;have hc:c∈cutsUpto Q D k++cutOf Q D k:=hc;rcases List.mem_append.1 hc with hc | hc
    · exact ih c hc
    · unfold cutOf at hc
      split at hc
      · rename_i q d _ hd
        split at hc
        · cases hc
        · have hfd:=hf.get k d hd
          obtain ⟨v,_,hv⟩:=hl.get k d hd;have ho:∀ u,d.has u=true->u=v:=fun u hu=>(hfd.only (h1 k d hd) hu).trans (hfd.only (h1 k d hd) hv).symm
          exact ⟨k,d,v,hd,hv,ho,one_cut hfd hv ho hc⟩
      · cases hc
theorem fault_iff {c:Md.Cn} {n:Int}:Md.fault c n=0↔Md.kindBad c.kind c.op=false/\(Md.plainBad c||Md.listBad c)=false/\Md.manyBad c=false/\Md.placesB c n=true/\Md.coefsB c.terms=true/\Md.numsB c=true:=by
  unfold Md.fault
  cases Md.kindBad c.kind c.op <;> cases (Md.plainBad c||Md.listBad c) <;> cases Md.manyBad c <;> cases Md.placesB c n <;> cases Md.coefsB c.terms <;> cases Md.numsB c <;> simp
theorem fault_c0 {c:Md.Cn} {n:Int} (h:Md.fault c n=0):Md.fault (c0 c) n=0:=by
  unfold c0
  split
  · rename_i hk
    rw [fault_iff] at h ⊢;obtain ⟨h1,h2,h3,h4,h5,h6⟩:=h;refine ⟨h1,?_,h3,h4,h5,?_⟩
    · have e:Md.plainBad { c with k:=0 }=Md.plainBad c:=by
        unfold Md.plainBad Md.fK;simp [hk]
      have e2:Md.listBad { c with k:=0 }=Md.listBad c:=rfl;rw [e,e2];exact h2
    · unfold Md.numsB at h6 ⊢
      simp only [Bool.and_eq_true] at h6 ⊢;exact ⟨⟨⟨by decide,h6.1.1.2⟩,h6.1.2⟩,h6.2⟩
  · exact h
theorem bnd_fault {m:Md.Mo} (hR:Md.Right m) (hh:m.has=true) {k:Int} (hk1:-1000000000<=k) (hk2:k<=1000000000):Md.fault (bndC m.goal k) m.vars.length=0:=by
  have hg:=hR.goal;have hnv:=hR.nv;unfold Md.goalFault at hg;rw [if_neg (by rw [hh];simp)] at hg;have g1:Md.fewB m.goal.length 64=false:=by
    cases e:Md.fewB m.goal.length 64
    · rfl
    · rw [if_pos e] at hg;cases hg
  rw [if_neg (by rw [g1];simp)] at hg;have g2:(m.goal.all fun t=>Md.plB m.vars.length t.2)=true:=by
    cases e:(m.goal.all fun t=>Md.plB m.vars.length t.2)
    · rw [if_pos (by rw [e];rfl)] at hg;cases hg
    · rfl
  rw [if_neg (by rw [g2];simp)] at hg;have g3:Md.coefsB m.goal=true:=by
    cases e:Md.coefsB m.goal
    · rw [if_pos (by rw [e];rfl)] at hg;cases hg
    · rfl
  rw [fault_iff];refine ⟨?_,?_,?_,?_,g3,?_⟩
  · show Md.kindBad 1 1=false
    decide
  · show ((!Md.fOp 1&&(1:Int) != 0)||(!Md.fK 1&&k != 0)||(!Md.fV 1&&(0:Int) != 0)||(!Md.fX 1&&(0:Int) != 0)||(!Md.fY 1&&(0:Int) != 0)||((!Md.fTerms 1&&decide (0<m.goal.length))||(!Md.fXs 1&&decide (0<([]:List Int).length))||(!Md.fTable 1&&decide (0<([]:List Int).length))||(!Md.fRows 1&&decide (0<([]:List (List Int)).length))))=false
    simp [Md.fOp,Md.fK,Md.fTerms]
  · unfold Md.manyBad
    show (Md.fTerms 1&&Md.fewB m.goal.length 64||Md.fXs 1&&Md.fewB 0 (Md.mostXs 1)||Md.fTable 1&&Md.fewB 0 64||Md.fRows 1&&Md.fewB 0 64||!(([]:List (List Int)).all fun r=>r.length==([]:List Int).length))=false;rw [g1]
    decide
  · unfold Md.placesB
    show (Md.plB m.vars.length 0&&Md.plB m.vars.length 0&&m.goal.all (fun t=>Md.plB m.vars.length t.2)&&([]:List Int).all (Md.plB m.vars.length))=true;have e:Md.plB m.vars.length 0=true:=by unfold Md.plB;rw [decide_eq_true_eq];omega
    rw [e,g2];rfl
  · unfold Md.numsB
    show (Md.numB k&&Md.numB 0&&([]:List Int).all Md.numB&&([]:List (List Int)).all (fun r=>r.all Md.numB))=true;have e:Md.numB k=true:=by unfold Md.numB;rw [decide_eq_true_eq];omega
    rw [e]
    decide
theorem bnd_hold (goal:List (Int × Int)) (k:Int) (vs:List Int):Md.hold (bndC goal k) vs=decide (Md.sum goal vs<=k):=rfl
theorem dif_hold {xs vs:List Int} (hx:∀ x∈xs,0<=x/\x<(vs.length:Int)):Dif xs vs↔Md.diffB (xs.map (Md.val vs))=true:=by
  unfold Md.diffB;rw [decide_eq_true_eq,List.pairwise_iff_getElem];have hg:∀ i (h:i<xs.length),xs.getD i 0=xs[i]:=fun i h=>by rw [List.getD_eq_getElem?_getD,List.getElem?_eq_getElem h];rfl
  have hc:∀ i k (hi:i<xs.length) (hk:k<xs.length),clash vs xs[i] xs[k]=decide (Md.val vs xs[i]=Md.val vs xs[k]):=fun i k hi hk=>by
    have h1:=hx _ (List.getElem_mem hi);have h2:=hx _ (List.getElem_mem hk);unfold clash Md.val;rw [decide_eq_true h1.1,decide_eq_true h1.2,decide_eq_true h2.1,decide_eq_true h2.2];simp
  constructor
  · intro h i j hi hj hij
    simp only [List.length_map] at hi hj;have:=h j i hj hij;rw [hg j hj,hg i hi,hc j i hj hi,decide_eq_false_iff_not] at this;simp only [List.getElem_map];exact fun e=>this e.symm
  · intro h i k hi hki
    have hk:k<xs.length:=by omega
    rw [hg i hi,hg k hk,hc i k hi hk,decide_eq_false_iff_not];have:=h k i (by simpa using hk) (by simpa using hi) hki;simp only [List.getElem_map] at this;exact fun e=>this e.symm
theorem fixed_rule {rs:List (Md.Cn × Int)} {s:St} {vs:List Int} (hA:Alls s) (hl:Lies s.now vs) (h1:Ones s.now) (hn:1<=s.now.length/\s.now.length<=32) (hrs:∀ r∈rs,Md.fault r.1 s.now.length=0) {i:Nat} {s':St} {dn:List Tl} {is:Bool} (h:RuleR rs i s s' dn is):dn=[]/\(is=true->s'=s)/\∃ hi:i<rs.length,(is=true↔Md.hold rs[i].1 vs=true):=by
  have hf:=fines_alls hA;obtain ⟨hi,T,ok,ht,hc⟩:=h;have hfl:=hrs _ (List.getElem_mem hi);have hfit:=Md.fit_of hfl;obtain ⟨⟨c,pl⟩,hr⟩:∃ r,rs[i]=r:=⟨_,rfl⟩;rw [hr] at ht hc hfl hfit;dsimp only at ht hc hfl hfit;have hnil:∀ {b:Bool},CallR pl [] b s s' dn is->dn=[]/\(is=true->s'=s)/\is=b:=fun {b} hc=>by
    rcases hc with ⟨rfl,h2,h3,h4⟩ | ⟨rfl,n,hn,_,h2,h3⟩
    · exact ⟨h3,fun _=>h2,h4⟩
    · have hn0:n=0:=by simpa using hn
      subst hn0;rcases h3 with ⟨_,h4,h5⟩ | ⟨hlt,_⟩
      · exact ⟨h2,fun _=>h5,h4⟩
      · exact absurd hlt (Nat.not_lt_zero _)
  suffices h:dn=[]/\(is=true->s'=s)/\(is=true↔Md.hold c vs=true) by
    refine ⟨h.1,h.2.1,hi,?_⟩;rw [hr];exact h.2.2
  unfold ToldR at ht
  split at ht
  · rename_i hk
    obtain ⟨l,h2,h3⟩:=ht;obtain ⟨h4,rfl⟩:=ends_two hf hl h1 hn.2 h2;have hT:T=[]:=by
      have:=congrArg List.length h3;simpa using this
    subst hT;obtain ⟨a1,a2,a3⟩:=hnil hc;refine ⟨a1,a2,?_⟩;have hhold:Md.hold c vs=Md.diffB (c.xs.map (Md.val vs)):=by
      rw [hold_k 3 hk];rfl
    rw [a3,hhold,h4]
    exact dif_hold (fun x hx=>by
      have:=hfit.xs x hx;rw [hl.len]
      exact this)
  · rename_i hk
    obtain ⟨rfl,rfl⟩:=ht;have hck:(Md.check (stM c s.now.length)).2=0:=by rw [st_check hn.1 hn.2];exact fault_c0 hfl
    have htl:=cutR_tells hf hl h1 hk hck hfl;have hone:∀ q∈(cutR s.now c).1,∃ (x:Nat) (d:Dm) (v:Int),s.now[x]?=some d/\d.has v=true/\(∀ u,d.has u=true->u=v)/\q=⟨3,(x:Int),v⟩:=by
      intro q hq;unfold cutR at hq;rw [if_pos hck] at hq
      split at hq
      · cases hq
      · exact one_cuts hf hl h1 _ q hq
    obtain ⟨L,ok,hLo⟩:∃ L ok,cutR s.now c=(L,ok):=⟨_,_,rfl⟩;rw [hLo] at hc htl hone;dsimp only at hc htl hone;rw [<-htl]
    cases L with
    | nil =>
      obtain ⟨a1,a2,a3⟩:=hnil hc;refine ⟨a1,a2,?_⟩;rw [a3];simp
    | cons q L =>
      obtain ⟨x,d,v,hd,hv,ho,rfl⟩:=hone q (by simp);have hmay:s.may 3 (x:Int) v=false:=by
        obtain ⟨hx,ed⟩:=List.getElem?_eq_some_iff.1 hd;have hok:=(hA d (by rw [<-ed];exact List.getElem_mem hx)).1;unfold St.may;rw [Int.toNat_natCast,hd];show (!isB s.now.length (x:Int)||d.may 3 v)=false;rw [may_refused hok hv ho];have:isB s.now.length (x:Int)=true:=by simp [isB];omega
        rw [this];rfl
      have hfin:dn=[]/\is=false:=by
        rcases hc with ⟨_,_,h3,h4⟩ | ⟨_,n,hn,hj,h2,h3⟩
        · exact ⟨h3,h4⟩
        · have hn0:n=0:=by
            cases n with
            | zero=>rfl
            | succ n =>
              have:=hj 0 (by simp) (by omega);have e:(stT s (plT ⟨3,(x:Int),v⟩ :: L.map plT) 0).may 3 (x:Int) v=true:=this;rw [stT_zero,hmay] at e
              cases e
          subst hn0;rcases h3 with ⟨e,_⟩ | ⟨_,_,h5,_⟩
          · simp at e
          · exact ⟨h2,h5⟩
      refine ⟨hfin.1,(fun h=>by rw [hfin.2] at h;cases h),?_⟩;rw [hfin.2];simp
theorem fixed_reach {rs:List (Md.Cn × Int)} {s:St} {vs:List Int} (hA:Alls s) (hl:Lies s.now vs) (h1:Ones s.now) (hn:1<=s.now.length/\s.now.length<=32) (hrs:∀ r∈rs,Md.fault r.1 s.now.length=0) {f0 d i f:Nat} {s':St} {acc:List Tl} (h:Reach (RuleR rs) rs.length s f0 d i f s' acc):s'=s/\acc=[]/\i=d/\f+d=f0/\∀ j (hj:j<rs.length),j<d->Md.hold rs[j].1 vs=true:=by
  induction h using Reach.ind with
  | start=>exact ⟨rfl,rfl,rfl,rfl,fun j _ h=>absurd h (Nat.not_lt_zero _)⟩
  | wrap _ hd ih =>
    obtain ⟨_,_,h3,_⟩:=ih;omega
  | @step d i f s1 s2 acc dn _ hi hd hr ih =>
    obtain ⟨rfl,rfl,rfl,h4,h5⟩:=ih;obtain ⟨rfl,a2,hi2,a3⟩:=fixed_rule hA hl h1 hn hrs hr;refine ⟨a2 rfl,rfl,?_,?_,?_⟩
    · simp
    · simp
      omega
    · intro j hj hjd
      have hjd:j<i+1:=by simpa using hjd
      by_cases e:j=i
      · subst e
        exact a3.1 rfl
      · exact h5 j hj (by omega)
theorem fixed_run {rs:List (Md.Cn × Int)} {s:St} {vs:List Int} (hA:Alls s) (hl:Lies s.now vs) (h1:Ones s.now) (hn:1<=s.now.length/\s.now.length<=32) (hrs:∀ r∈rs,Md.fault r.1 s.now.length=0) {f0 f:Nat} {s':St} {acc:List Tl} {how:Int} (hf:rs.length<f0) (h:RunR (RuleR rs) rs.length s f0 acc f how s'):acc=[]/\how≠3/\(how=1↔∀ r∈rs,Md.hold r.1 vs=true):=by
  rcases h with ⟨rfl,i,h⟩ | ⟨_,rfl,d,i,h,hi,hd⟩ | ⟨rfl,d,i,s1,acc1,dn,h,hi,hd,hr,rfl⟩
  · obtain ⟨_,rfl,_,_,h5⟩:=fixed_reach hA hl h1 hn hrs h
    refine ⟨rfl,by decide,fun _ r hr=>?_,fun _=>rfl⟩;obtain ⟨j,hj,rfl⟩:=List.getElem_of_mem hr;exact h5 j hj hj
  · obtain ⟨_,_,h3,h4,_⟩:=fixed_reach hA hl h1 hn hrs h
    omega
  · obtain ⟨rfl,rfl,_,_,_⟩:=fixed_reach hA hl h1 hn hrs h
    obtain ⟨rfl,_,hi2,a3⟩:=fixed_rule hA hl h1 hn hrs hr;refine ⟨rfl,by decide,(fun h=>by cases h),fun h=>?_⟩;have:=a3.2 (h _ (List.getElem_mem hi2))
    cases this
end Go.Proofs.YtjnckfchgcmmpaaGreatDoor
