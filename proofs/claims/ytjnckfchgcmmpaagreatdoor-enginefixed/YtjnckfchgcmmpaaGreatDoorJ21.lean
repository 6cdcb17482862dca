import Derived.Test.YtjnckfchgcmmpaaGreatDoorJ05
import Derived.Test.YtjnckfchgcmmpaaGreatDoorMdBits
import Derived.Test.YtjnckfchgcmmpaaGreatDoorJ14
import Derived.Test.YtjnckfchgcmmpaaGreatDoorJ18
import Derived.Deep.RegionHeld3
import Derived.Test.YtjnckfchgcmmpaaGreatDoorMdHolds
namespace Go.Proofs.YtjnckfchgcmmpaaGreatDoor
open Go.RowKit
set_option maxRecDepth 10000
set_option maxHeartbeats 8000000
def CnCells (w:World) (b o:Nat) (c:Md.Cn) (vt vx vb vr:Value):Prop:=w.cell? ⟨b,o,none⟩=some (.int .i64 c.kind)/\w.cell? ⟨b,o+1,none⟩=some (.int .i64 c.op)/\w.cell? ⟨b,o+2,none⟩=some vt/\w.cell? ⟨b,o+3,none⟩=some (.int .i64 c.k)/\w.cell? ⟨b,o+4,none⟩=some (.int .i64 c.v)/\w.cell? ⟨b,o+5,none⟩=some (.int .i64 c.x)/\w.cell? ⟨b,o+6,none⟩=some (.int .i64 c.y)/\w.cell? ⟨b,o+7,none⟩=some vx/\w.cell? ⟨b,o+8,none⟩=some vb/\w.cell? ⟨b,o+9,none⟩=some vr
theorem CnCells.below {w w':World} {b o:Nat} {c:Md.Cn} {vt vx vb vr:Value} (h:CnCells w b o c vt vx vb vr) (hb:Below w.heap.size w w'):CnCells w' b o c vt vx vb vr:=by
  obtain ⟨h0,h1,h2,h3,h4,h5,h6,h7,h8,h9⟩:=h;exact ⟨one_next hb h0,one_next hb h1,one_next hb h2,one_next hb h3,one_next hb h4,one_next hb h5,one_next hb h6,one_next hb h7,one_next hb h8,one_next hb h9⟩
def ConsAt (w:World) (v:Value) (l:List Md.Cn):Prop:=
  ∃ a cap,v=.slice a l.length cap/\l.length<=maxLen/\(0<l.length->∃ b off,a=some ⟨b,off,none⟩/\b<w.heap.size /\
    ∀ j (h:j<l.length),∃ vt vx vb vr,CnAt w l[j] vt vx vb vr/\CnCells w b (off+j*10) l[j] vt vx vb vr)
theorem ConsAt.below {w w':World} {v:Value} {l:List Md.Cn} (h:ConsAt w v l) (hb:Below w.heap.size w w'):ConsAt w' v l:=by
  obtain ⟨a,cap,hv,hl,hc⟩:=h;refine ⟨a,cap,hv,hl,fun h0=>?_⟩;obtain ⟨b,off,ha,hbs,hcell⟩:=hc h0;refine ⟨b,off,ha,Nat.lt_of_lt_of_le hbs hb.size,fun j hj=>?_⟩;obtain ⟨vt,vx,vb,vr,h1,h2⟩:=hcell j hj;exact ⟨vt,vx,vb,vr,h1.below hb,h2.below hb⟩
theorem ConsAt.form {w:World} {v:Value} {l:List Md.Cn} (h:ConsAt w v l):∃ a cap,v=.slice a l.length cap/\l.length<=maxLen:=by
  obtain ⟨a,cap,hv,hl,_⟩:=h;exact ⟨a,cap,hv,hl⟩
def moVal (m:Md.Mo) (vv vc vg:Value):Value:=.agg #[vv,vc,.bool m.has,vg]
structure MoAt (w:World) (m:Md.Mo) (vv vc vg:Value):Prop where
  v:VarsAt w vv m.vars
  vcap:∀ a n cp,vv=.slice a n cp->n<=cp
  c:ConsAt w vc m.cons
  g:TermsAt w vg m.goal
theorem MoAt.below {w w':World} {m:Md.Mo} {vv vc vg:Value} (h:MoAt w m vv vc vg) (hb:Below w.heap.size w w'):MoAt w' m vv vc vg:=
  ⟨h.v.below hb,h.vcap,h.c.below hb,h.g.below hb⟩
theorem box4 {w:World} {N:Nat} {a0 a1 a2 a3:Value} {t:TypeId} (h:w.heap[N]?=some (.cells #[a0,a1,a2,a3] t (0,0))):(w.cell? ⟨N,0,none⟩=some a0/\w.cell? ⟨N,1,none⟩=some a1/\w.cell? ⟨N,2,none⟩=some a2/\w.cell? ⟨N,3,none⟩=some a3)/\∀ j,w.frozen? ⟨N,j,none⟩=false:=by
  refine ⟨⟨?_,?_,?_,?_⟩,fun j=>?_⟩ <;> simp [World.cell?,World.frozen?,h]
theorem gf_a {m:Md.Mo} (h1:m.has=false) (h2:0<m.goal.length):Md.goalFault m=48:=by simp only [Md.goalFault,h1,h2,if_true]
theorem gf_b {m:Md.Mo} (h1:m.has=false) (h2:¬ 0<m.goal.length):Md.goalFault m=0:=by simp only [Md.goalFault,h1,h2,if_true,if_false]
theorem gf_c {m:Md.Mo} (h1:m.has=true) (h2:Md.fewB m.goal.length 64=true):Md.goalFault m=47:=by simp [Md.goalFault,h1,h2]
theorem gf_d {m:Md.Mo} (h1:m.has=true) (h2:Md.fewB m.goal.length 64=false) (h3:(m.goal.all fun t=>Md.plB m.vars.length t.2)=false):Md.goalFault m=44:=by unfold Md.goalFault;rw [h1,h2,h3];rfl
theorem gf_e {m:Md.Mo} (h1:m.has=true) (h2:Md.fewB m.goal.length 64=false) (h3:(m.goal.all fun t=>Md.plB m.vars.length t.2)=true) (h4:Md.coefsB m.goal=false):Md.goalFault m=45:=by unfold Md.goalFault;rw [h1,h2,h3,h4];rfl
theorem gf_f {m:Md.Mo} (h1:m.has=true) (h2:Md.fewB m.goal.length 64=false) (h3:(m.goal.all fun t=>Md.plB m.vars.length t.2)=true) (h4:Md.coefsB m.goal=true):Md.goalFault m=0:=by unfold Md.goalFault;rw [h1,h2,h3,h4];rfl
theorem goalFault_any (m:Md.Mo) (vv vc vg:Value) (w:World) (h:MoAt w m vv vc vg):Calls Tryz.prog 20 #[moVal m vv vc vg] w fun e w'=>e=.returned (.int .i64 (Md.goalFault m))/\Below w.heap.size w w':=by
  obtain ⟨W,hW⟩:∃ W,w.alloc (.cells #[vv,vc,.bool m.has,vg] 26)=W:=⟨_,rfl⟩;have hbW:Below w.heap.size w W:=bAe hW;have hN:W.heap[w.heap.size]?=some (.cells #[vv,vc,.bool m.has,vg] 26):=hAe hW;have HB:Hid (Below w.heap.size w W):=hbW;have HG:Hid (∀ w',Below W.heap.size W w'->TermsAt w' vg m.goal):=fun w' hb=>(h.g.below hbW).below hb
  have HN:Hid (∀ w',Below W.heap.size W w'->w'.heap[w.heap.size]?=some (.cells #[vv,vc,.bool m.has,vg] 26)):=fun w' hb=>(hb.block _ (hLt hN)).trans hN
  obtain ⟨va,vp,rfl,hvm⟩:=h.v.form;obtain ⟨ca,cp,rfl,hcm⟩:=h.c.form;obtain ⟨ga,gp,rfl,hgm⟩:=h.g.form;unfold maxLen at hvm hcm hgm;obtain ⟨⟨p0,p1,p2,p3⟩,_⟩:=box4 hN;unfold moVal;clear h hbW hN
  cases hh:m.has
  · rw [hh] at p2 hW HN
    by_cases hg:0<m.goal.length
    · have hres:Hid (Md.goalFault m=48):=gf_a hh hg
      have hgI:(0:Int)<(m.goal.length:Int):=by omega
      clear hh;go_enter Tryz.func20,Tryz.ntmps20;go_wp2;go_ret;exact ⟨ret_int hres.out.symm,HB.out⟩
    · have hres:Hid (Md.goalFault m=0):=gf_b hh hg
      have hgI:¬ (0:Int)<(m.goal.length:Int):=by omega
      clear hh;go_enter Tryz.func20,Tryz.ntmps20;go_wp2;go_ret;exact ⟨ret_int hres.out.symm,HB.out⟩
  rw [hh] at p2 hW HN;have HH:Hid (m.has=true):=hh;clear hh
  cases hf:Md.fewB m.goal.length 64
  rotate_left
  · have hres:Hid (Md.goalFault m=47):=gf_c HH.out hf
    go_enter Tryz.func20,Tryz.ntmps20;go_wp2_with (go_at_call 52;refine (isMany_any m.goal.length 64 _).mono ?_;rintro e w' ⟨rfl,hww⟩;rw [hww];clear hww);go_ret;exact ⟨ret_int hres.out.symm,HB.out⟩
  go_enter Tryz.func20,Tryz.ntmps20;go_wp2_with (first | (go_at_call 52;refine (isMany_any m.goal.length 64 _).mono ?_;rintro e w' ⟨rfl,hww⟩;rw [hww];clear hww) | fail);have HF:Hid (Md.fewB m.goal.length 64=false):=hf;clear hf;refine cA (areTermPlaces_any _ m.goal (m.vars.length:Int) _ (HG.out W (Below.refl _ _))) ?_;rintro e w1 ⟨rfl,hb1⟩;have HB1:Hid (Below W.heap.size W w1):=hb1;clear hb1 p0 p1 p2 p3;obtain ⟨⟨p0,p1,p2,p3⟩,_⟩:=box4 (HN.out _ HB1.out)
  cases hp:(m.goal.all fun t=>Md.plB m.vars.length t.2)
  · have hres:Hid (Md.goalFault m=44):=gf_d HH.out HF.out hp
    go_wp2_with fail
    go_ret;exact ⟨ret_int hres.out.symm,HB.out.trans (HB1.out.mono HB.out.size)⟩
  have HP:Hid ((m.goal.all fun t=>Md.plB m.vars.length t.2)=true):=hp;clear hp;go_wp2_with fail
  refine cA (areCoefs_any _ m.goal _ (HG.out _ HB1.out)) ?_;rintro e w2 ⟨rfl,hb2⟩;have HB2:Hid (Below w.heap.size w w2):=(HB.out.trans (HB1.out.mono HB.out.size)).trans (hb2.mono (HB.out.trans (HB1.out.mono HB.out.size)).size);clear hb2
  cases hq:Md.coefsB m.goal
  · have hres:Hid (Md.goalFault m=45):=gf_e HH.out HF.out HP.out hq
    go_wp2_with fail
    go_ret;exact ⟨ret_int hres.out.symm,HB2.out⟩
  · have hres:Hid (Md.goalFault m=0):=gf_f HH.out HF.out HP.out hq
    go_wp2_with fail
    go_ret;exact ⟨ret_int hres.out.symm,HB2.out⟩
theorem Ck.next {V w1 w2:World} {P N:Nat} {v:Md.Vr} {vv:Value} (h:w1.cell? ⟨P,0,none⟩=some (.string v.name)/\w1.cell? ⟨P,1,none⟩=some (.int .i64 v.lo)/\w1.cell? ⟨P,2,none⟩=some (.int .i64 v.hi)/\w1.cell? ⟨N,0,none⟩=some vv/\Below V.heap.size V w1) (hb:Below w1.heap.size w1 w2):w2.cell? ⟨P,0,none⟩=some (.string v.name)/\w2.cell? ⟨P,1,none⟩=some (.int .i64 v.lo)/\w2.cell? ⟨P,2,none⟩=some (.int .i64 v.hi)/\w2.cell? ⟨N,0,none⟩=some vv/\Below V.heap.size V w2:=by
  obtain ⟨h0,h1,h2,h3,h4⟩:=h;exact ⟨one_next hb h0,one_next hb h1,one_next hb h2,one_next hb h3,h4.trans (hb.mono h4.size)⟩
theorem Ck.rest {V w1:World} {P N:Nat} {v:Md.Vr} {vv:Value} (h:w1.cell? ⟨P,0,none⟩=some (.string v.name)/\w1.cell? ⟨P,1,none⟩=some (.int .i64 v.lo)/\w1.cell? ⟨P,2,none⟩=some (.int .i64 v.hi)/\w1.cell? ⟨N,0,none⟩=some vv/\Below V.heap.size V w1):Below V.heap.size V w1:=h.2.2.2.2
theorem ret_pair {k1 k2:IntKind} {a b a' b':Int} (h:(a,b)=(a',b')):Ending.returned (.tuple #[.int k1 a,.int k2 b])=.returned (.tuple #[.int k1 a',.int k2 b']):=by
  injection h with h1 h2;rw [h1,h2]
theorem ck_vars {m:Md.Mo} (h:Md.fewB m.vars.length 32=true):Md.check m=(0,40):=by unfold Md.check;rw [if_pos h]
theorem ck_var {m:Md.Mo} {i:Nat} (h:Md.fewB m.vars.length 32=false) (hi:i<m.vars.length) (hb:Md.vFault m.vars i≠0) (ha:∀ j,j<i->Md.vFault m.vars j=0):Md.check m=((i:Int),Md.vFault m.vars i):=by
  unfold Md.check;rw [if_neg (by simp [h]),Md.firstBad_some hi hb ha]
theorem ck_cons {m:Md.Mo} (h:Md.fewB m.vars.length 32=false) (ha:∀ j,j<m.vars.length->Md.vFault m.vars j=0) (hc:64<m.cons.length):Md.check m=((m.vars.length:Int),49):=by
  unfold Md.check;rw [if_neg (by simp [h]),Md.firstBad_none ha];simp only [hc,if_true]
theorem ck_con {m:Md.Mo} {i:Nat} (h:Md.fewB m.vars.length 32=false) (ha:∀ j,j<m.vars.length->Md.vFault m.vars j=0) (hc:¬ 64<m.cons.length) (hi:i<m.cons.length) (hb:Md.cFault m.cons m.vars.length i≠0) (hp:∀ j,j<i->Md.cFault m.cons m.vars.length j=0):Md.check m=((m.vars.length:Int)+(i:Int),Md.cFault m.cons m.vars.length i):=by
  unfold Md.check;rw [if_neg (by simp [h]),Md.firstBad_none ha];simp only [hc,if_false,Md.firstBad_some hi hb hp]
theorem ck_goal {m:Md.Mo} (h:Md.fewB m.vars.length 32=false) (ha:∀ j,j<m.vars.length->Md.vFault m.vars j=0) (hc:¬ 64<m.cons.length) (hp:∀ j,j<m.cons.length->Md.cFault m.cons m.vars.length j=0) (hg:Md.goalFault m≠0):Md.check m=((m.vars.length:Int)+(m.cons.length:Int),Md.goalFault m):=by
  unfold Md.check;rw [if_neg (by simp [h]),Md.firstBad_none ha];simp only [hc,if_false,Md.firstBad_none hp,if_neg hg]
theorem ck_ok {m:Md.Mo} (h:Md.fewB m.vars.length 32=false) (ha:∀ j,j<m.vars.length->Md.vFault m.vars j=0) (hc:¬ 64<m.cons.length) (hp:∀ j,j<m.cons.length->Md.cFault m.cons m.vars.length j=0) (hg:Md.goalFault m=0):Md.check m=(0,0):=by
  unfold Md.check;rw [if_neg (by simp [h]),Md.firstBad_none ha];simp only [hc,if_false,Md.firstBad_none hp,if_pos hg]
theorem all_succ {f:Nat->Int} {k:Nat} (h:∀ j,j<k->f j=0) (hk:f k=0):∀ j,j<k+1->f j=0:=fun j hj=>by
  rcases Nat.lt_or_eq_of_le (Nat.le_of_lt_succ hj) with h1 | rfl
  · exact h j h1
  · exact hk
theorem check_any (m:Md.Mo) (vv vc vg:Value) (w:World) (h:MoAt w m vv vc vg):Calls Tryz.prog 5 #[moVal m vv vc vg] w fun e w'=>e=.returned (.tuple #[.int .i64 (Md.check m).1,.int .i64 (Md.check m).2])/\Below w.heap.size w w':=by
  obtain ⟨W,hW⟩:∃ W,w.alloc (.cells #[vv,vc,.bool m.has,vg] 26)=W:=⟨_,rfl⟩;have hbW:Below w.heap.size w W:=bAe hW;have hN:W.heap[w.heap.size]?=some (.cells #[vv,vc,.bool m.has,vg] 26):=hAe hW;have HB:Hid (Below w.heap.size w W):=hbW;have HM:Hid (∀ w',Below W.heap.size W w'->MoAt w' m vv vc vg):=fun w' hb=>(h.below hbW).below hb
  have HN:Hid (∀ w',Below W.heap.size W w'->w'.heap[w.heap.size]?=some (.cells #[vv,vc,.bool m.has,vg] 26)):=fun w' hb=>(hb.block _ (hLt hN)).trans hN
  have HNL:Hid (w.heap.size<W.heap.size):=(hLt hN);obtain ⟨va,vp,rfl,hvm,hvn,hvo⟩:=id h.v;obtain ⟨ca,cp,rfl,hcm,hco⟩:=id h.c;obtain ⟨ga,gp,rfl,hgm⟩:=h.g.form;have hvcap:m.vars.length<=vp:=h.vcap _ _ _ rfl;unfold maxLen at hvm hcm hgm;have HVN:Hid (∀ x∈m.vars,x.name.size<=maxLen):=hvn;have HVO:Hid (0<m.vars.length->∃ b off,va=some ⟨b,off,none⟩/\b<w.heap.size/\∀ j (h:j<m.vars.length),w.cell? ⟨b,off+j*3,none⟩=some (.string m.vars[j].name)/\w.cell? ⟨b,off+j*3+1,none⟩=some (.int .i64 m.vars[j].lo)/\w.cell? ⟨b,off+j*3+2,none⟩=some (.int .i64 m.vars[j].hi)):=hvo;have HCO:Hid (0<m.cons.length->∃ b off,ca=some ⟨b,off,none⟩/\b<w.heap.size/\∀ j (h:j<m.cons.length),∃ vt vx vb vr,CnAt w m.cons[j] vt vx vb vr/\CnCells w b (off+j*10) m.cons[j] vt vx vb vr):=hco
  obtain ⟨⟨p0,p1,p2,p3⟩,_⟩:=box4 hN;unfold moVal;clear h hbW hN hvn hvo hco
  by_cases hn0:m.vars.length=0
  · have hres:Hid (Md.check m=(0,40)):=ck_vars (by simp [Md.fewB,hn0])
    have h0I:((m.vars.length:Int)==0)=true:=by simp [hn0]
    clear hn0;go_enter Tryz.func5,Tryz.ntmps5;go_wp2;all_goals first
      | (go_ret2;exact ⟨ret_pair hres.out.symm,HB.out⟩)
      | (exfalso;omega)
  by_cases hn1:32<m.vars.length
  · have hres:Hid (Md.check m=(0,40)):=ck_vars (by simp [Md.fewB,hn1])
    have h0I:((m.vars.length:Int)==0)=false:=by rw [beq_eq_false_iff_ne];omega
    have h1I:(32:Int)<(m.vars.length:Int):=by omega
    go_enter Tryz.func5,Tryz.ntmps5;go_wp2;all_goals first
      | (go_ret2;exact ⟨ret_pair hres.out.symm,HB.out⟩)
      | (exfalso;omega)
  have HF:Hid (Md.fewB m.vars.length 32=false):=decide_eq_false (by omega);have h0I:((m.vars.length:Int)==0)=false:=by rw [beq_eq_false_iff_ne];omega
  have h1I:¬ (32:Int)<(m.vars.length:Int):=by omega
  go_enter Tryz.func5,Tryz.ntmps5;go_wp2;go_loopw [24] (fun iv wr=>∃ k:Nat,iv=.int .i64 (k:Int)/\k<=m.vars.length/\Hid (∀ j,j<k->Md.vFault m.vars j=0)/\Hid (Below W.heap.size W wr)) (fun iv _=>m.vars.length-(intOf iv).toNat)
  case atStart=>exact ⟨0,rfl,Nat.zero_le _,fun j h=>absurd h (Nat.not_lt_zero _),Below.refl _ _⟩
  case round=>
    obtain ⟨k,rfl,hk,hA,hR⟩:=hrel;clear p0 p1 p2 p3;obtain ⟨⟨p0,p1,p2,p3⟩,_⟩:=box4 (HN.out _ hR.out)
    by_cases hlt:k<m.vars.length
    · have hkI:(k:Int)<(m.vars.length:Int):=by omega
      obtain ⟨b,off,rfl,hb,hc⟩:=HVO.out (by omega);obtain ⟨d0,d1,d2⟩:=hc k hlt;have hbw:Below w.heap.size w wr:=HB.out.trans (hR.out.mono HB.out.size);have e0:=(hbw.cell (p:=⟨b,off+k*3,none⟩) hb).trans d0;have e1:=(hbw.cell (p:=⟨b,off+k*3+1,none⟩) hb).trans d1;have e2:=(hbw.cell (p:=⟨b,off+k*3+2,none⟩) hb).trans d2;have HG:Hid (Md.vFault m.vars k=Md.varFault m.vars[k] (m.vars.take k)):=Md.vFault_get hlt;have HV:Hid ((m.vars[k]).name.size<=maxLen):=HVN.out _ (List.getElem_mem hlt);have hkc:k<=vp:=by omega
      have hkcI:(k:Int)<=(vp:Int):=by omega
      clear hc d0 d1 d2 hbw;generalize hx:m.vars[k]=v at *
      clear hx;obtain ⟨V,hV⟩:∃ V,wr.alloc (.cells #[.string v.name,.int .i64 v.lo,.int .i64 v.hi] 51)=V:=⟨_,rfl⟩;have hbV:Below wr.heap.size wr V:=bAe hV;have hsV:V.heap.size=wr.heap.size+1:=by rw [<-hV];simp
      have q0:V.cell? ⟨wr.heap.size,0,none⟩=some (.string v.name):=by rw [<-hV];simp
      have q1:V.cell? ⟨wr.heap.size,1,none⟩=some (.int .i64 v.lo):=by rw [<-hV];simp
      have q2:V.cell? ⟨wr.heap.size,2,none⟩=some (.int .i64 v.hi):=by rw [<-hV];simp
      have q3:=one_next hbV p0;have HRV:Hid (Below W.heap.size W V):=hR.out.trans (hbV.mono hR.out.size);have hS0:Hid (V.cell? ⟨wr.heap.size,0,none⟩=some (.string v.name)/\V.cell? ⟨wr.heap.size,1,none⟩=some (.int .i64 v.lo)/\V.cell? ⟨wr.heap.size,2,none⟩=some (.int .i64 v.hi)/\V.cell? ⟨w.heap.size,0,none⟩=some (.slice (some ⟨b,off,none⟩) m.vars.length vp)/\Below V.heap.size V V):=⟨q0,q1,q2,q3,Below.refl _ _⟩;have H39:Hid (∀ w',Below V.heap.size V w'->Calls Tryz.prog 18 #[.agg #[.string v.name,.int .i64 v.lo,.int .i64 v.hi],.slice (some ⟨b,off,none⟩) k vp] w' fun e w''=>e=.returned (.int .i64 (Md.varFault v (m.vars.take k)))/\Below w'.heap.size w' w''):=fun w' hb'=>
        varFault_any v _ (m.vars.take k) w' HV.out (VarsAt.part (HM.out _ (HRV.out.trans (hb'.mono HRV.out.size))).v k vp (Nat.le_of_lt hlt))
      obtain ⟨r,hr⟩:∃ r,Md.varFault v (m.vars.take k)=r:=⟨_,rfl⟩;have HGR:Hid (Md.vFault m.vars k=r):=HG.out.trans hr;rw [hr] at H39;clear hbV hsV hr HG q0 q1 q2 q3
      by_cases hz:r=0
      · subst hz
        go_wp2_with fail
        go_region_held3 (fun w'=>w'.cell? ⟨wr.heap.size,0,none⟩=some (.string v.name)/\w'.cell? ⟨wr.heap.size,1,none⟩=some (.int .i64 v.lo)/\w'.cell? ⟨wr.heap.size,2,none⟩=some (.int .i64 v.hi)/\w'.cell? ⟨w.heap.size,0,none⟩=some (.slice (some ⟨b,off,none⟩) m.vars.length vp)/\Below V.heap.size V w')
          (first | exact Ck.next hS0.out (Below.refl _ _).drew | exact Ck.next (by assumption) (by assumption) | assumption)
          (first | (go_at_call 18;refine cA (H39.out _ (Ck.rest (by assumption))) ?_;rintro e w' ⟨rfl,hb⟩))
        rename_i hHeld
        have hfin:=Ck.rest hHeld;have HFIN:Hid (Below W.heap.size W _):=HRV.out.trans (hfin.mono HRV.out.size);clear hHeld hfin;go_wp2_with fail
        go_roundw
        case rel=>exact ⟨k+1,by go_num,by omega,all_succ hA.out HGR.out,HFIN⟩
        case measure=>simp [intOf];omega
      · have hzB:(r != 0)=true:=by simpa using hz
        have hres:Hid (Md.check m=((k:Int),r)):=by show _=_;rw [<-HGR.out];exact ck_var HF.out hlt (by rw [HGR.out];exact hz) hA.out
        go_wp2_with fail
        go_region_held3 (fun w'=>w'.cell? ⟨wr.heap.size,0,none⟩=some (.string v.name)/\w'.cell? ⟨wr.heap.size,1,none⟩=some (.int .i64 v.lo)/\w'.cell? ⟨wr.heap.size,2,none⟩=some (.int .i64 v.hi)/\w'.cell? ⟨w.heap.size,0,none⟩=some (.slice (some ⟨b,off,none⟩) m.vars.length vp)/\Below V.heap.size V w')
          (first | exact Ck.next hS0.out (Below.refl _ _).drew | exact Ck.next (by assumption) (by assumption) | assumption)
          (first | (go_at_call 18;refine cA (H39.out _ (Ck.rest (by assumption))) ?_;rintro e w' ⟨rfl,hb⟩))
        rename_i hHeld
        have hfin:=Ck.rest hHeld;have HFIN:Hid (Below W.heap.size W _):=HRV.out.trans (hfin.mono HRV.out.size);clear hHeld hfin;go_wp2_with fail
        go_ret2;exact ⟨ret_pair hres.out.symm,HB.out.trans (HFIN.out.mono HB.out.size)⟩
    · have hkI:¬ (k:Int)<(m.vars.length:Int):=by omega
      have HAll:Hid (∀ j,j<m.vars.length->Md.vFault m.vars j=0):=fun j hj=>hA.out j (by omega)
      rename World=>wk
      by_cases hc64:64<m.cons.length
      · have hcI:(64:Int)<(m.cons.length:Int):=by omega
        have hres:Hid (Md.check m=((m.vars.length:Int),49)):=ck_cons HF.out HAll.out hc64;go_wp2_with fail
        go_ret2;exact ⟨ret_pair hres.out.symm,HB.out.trans (hR.out.mono HB.out.size)⟩
      have hcI:¬ (64:Int)<(m.cons.length:Int):=by omega
      go_wp2_with fail
      go_loopw [48] (fun iv wr=>∃ k:Nat,iv=.int .i64 (k:Int)/\k<=m.cons.length/\Hid (∀ j,j<k->Md.cFault m.cons m.vars.length j=0)/\Hid (Below W.heap.size W wr)) (fun iv _=>m.cons.length-(intOf iv).toNat)
      case atStart=>exact ⟨0,rfl,Nat.zero_le _,fun j h=>absurd h (Nat.not_lt_zero _),hR⟩
      case round=>
        obtain ⟨i,rfl,hi,hP,hT⟩:=hrel;clear p0 p1 p2 p3;obtain ⟨⟨p0,p1,p2,p3⟩,_⟩:=box4 (HN.out _ hT.out)
        by_cases hit:i<m.cons.length
        · have hiI:(i:Int)<(m.cons.length:Int):=by omega
          obtain ⟨b,off,rfl,hb,hc⟩:=HCO.out (by omega);obtain ⟨vt,vx,vb,vr,hcn,hcl⟩:=hc i hit;have hbw:Below w.heap.size w wr:=HB.out.trans (hT.out.mono HB.out.size);obtain ⟨e0,e1,e2,e3,e4,e5,e6,e7,e8,e9⟩:=hcl.below hbw;have HCN:Hid (CnAt wr m.cons[i] vt vx vb vr):=hcn.below hbw;have HG:Hid (Md.cFault m.cons m.vars.length i=Md.fault m.cons[i] m.vars.length):=Md.cFault_get hit;obtain ⟨ta,tc,rfl,_⟩:=hcn.t.form;obtain ⟨xa,xc,rfl,_⟩:=hcn.x.form;obtain ⟨ba,bc,rfl,_⟩:=hcn.b.form;obtain ⟨ra,rc,rfl,_⟩:=hcn.r.form;clear hc hcn hcl hbw;generalize hx:m.cons[i]=c at *
          clear hx;obtain ⟨V,hV⟩:∃ V,wr.alloc (.cells #[.int .i64 c.kind,.int .i64 c.op,.slice ta c.terms.length tc,.int .i64 c.k,.int .i64 c.v,.int .i64 c.x,.int .i64 c.y,.slice xa c.xs.length xc,.slice ba c.table.length bc,.slice ra c.rows.length rc] 56)=V:=⟨_,rfl⟩;have hbV:Below wr.heap.size wr V:=bAe hV;have hNV:V.heap[wr.heap.size]?=some (.cells #[.int .i64 c.kind,.int .i64 c.op,.slice ta c.terms.length tc,.int .i64 c.k,.int .i64 c.v,.int .i64 c.x,.int .i64 c.y,.slice xa c.xs.length xc,.slice ba c.table.length bc,.slice ra c.rows.length rc] 56):=hAe hV;obtain ⟨⟨q0,q1,q2,q3,q4,q5,q6,q7,q8,q9⟩,_⟩:=box10 hNV;have HTV:Hid (Below W.heap.size W V):=hT.out.trans (hbV.mono hT.out.size);obtain ⟨r,hr⟩:∃ r,Md.fault c m.vars.length=r:=⟨_,rfl⟩;have HGR:Hid (Md.cFault m.cons m.vars.length i=r):=HG.out.trans hr
          have H40:Hid (Calls Tryz.prog 19 #[cnVal c (.slice ta c.terms.length tc) (.slice xa c.xs.length xc) (.slice ba c.table.length bc) (.slice ra c.rows.length rc),.int .i64 (m.vars.length:Int)] V fun e w'=>e=.returned (.int .i64 r)/\Below V.heap.size V w'):=by rw [<-hr];exact conFault_any c _ _ _ _ (m.vars.length:Int) V (HCN.out.below hbV)
          unfold cnVal at H40;clear hbV hNV hr HG HCN
          by_cases hz:r=0
          · subst hz
            go_wp2_with (go_at_call 19;refine cA H40.out ?_;rintro e w2 ⟨rfl,hb2⟩;have HF2:Hid (Below W.heap.size W w2):=HTV.out.trans (hb2.mono HTV.out.size);clear hb2);go_roundw
            case rel=>exact ⟨i+1,by go_num,by omega,all_succ hP.out HGR.out,HF2⟩
            case measure=>simp [intOf];omega
          · have hzB:(r != 0)=true:=by simpa using hz
            have hres:Hid (Md.check m=((m.vars.length:Int)+(i:Int),r)):=by show _=_;rw [<-HGR.out];exact ck_con HF.out HAll.out hc64 hit (by rw [HGR.out];exact hz) hP.out
            go_wp2_with (go_at_call 19;refine cA H40.out ?_;rintro e w2 ⟨rfl,hb2⟩;have HF2:Hid (Below W.heap.size W w2):=HTV.out.trans (hb2.mono HTV.out.size);clear hb2);go_ret2;exact ⟨ret_pair hres.out.symm,HB.out.trans (HF2.out.mono HB.out.size)⟩
        · have hiI:¬ (i:Int)<(m.cons.length:Int):=by omega
          have HCl:Hid (∀ j,j<m.cons.length->Md.cFault m.cons m.vars.length j=0):=fun j hj=>hP.out j (by omega)
          obtain ⟨r,hr⟩:∃ r,Md.goalFault m=r:=⟨_,rfl⟩;have HGR:Hid (Md.goalFault m=r):=hr;have H41:Hid (Calls Tryz.prog 20 #[moVal m (.slice va m.vars.length vp) (.slice ca m.cons.length cp) (.slice ga m.goal.length gp)] wr fun e w'=>e=.returned (.int .i64 r)/\Below wr.heap.size wr w'):=by rw [<-hr];exact goalFault_any m _ _ _ wr (HM.out _ hT.out)
          unfold moVal at H41;clear hr
          by_cases hz:r=0
          · subst hz
            have hres:Hid (Md.check m=(0,0)):=ck_ok HF.out HAll.out hc64 HCl.out HGR.out;go_wp2_with (go_at_call 20;refine cA H41.out ?_;rintro e w2 ⟨rfl,hb2⟩;have HF2:Hid (Below W.heap.size W w2):=hT.out.trans (hb2.mono hT.out.size);clear hb2);go_ret2;exact ⟨ret_pair hres.out.symm,HB.out.trans (HF2.out.mono HB.out.size)⟩
          · have hzB:(r != 0)=true:=by simpa using hz
            have hres:Hid (Md.check m=((m.vars.length:Int)+(m.cons.length:Int),r)):=by show _=_;rw [<-HGR.out];exact ck_goal HF.out HAll.out hc64 HCl.out (by rw [HGR.out];exact hz)
            go_wp2_with (go_at_call 20;refine cA H41.out ?_;rintro e w2 ⟨rfl,hb2⟩;have HF2:Hid (Below W.heap.size W w2):=hT.out.trans (hb2.mono hT.out.size);clear hb2;clear p0 p1 p2 p3;obtain ⟨⟨p0,p1,p2,p3⟩,_⟩:=box4 (HN.out _ HF2.out));go_ret2;exact ⟨ret_pair hres.out.symm,HB.out.trans (HF2.out.mono HB.out.size)⟩
end Go.Proofs.YtjnckfchgcmmpaaGreatDoor
namespace Go.Proofs.YtjnckfchgcmmpaaGreatDoor
open Go.RowKit
def Md.rightB (m:Md.Mo):Bool:=(Md.check m).2==0
theorem Md.rightB_of {m:Md.Mo} (h:Md.rightB m=true):Md.Right m:=Md.right_of (by simpa [Md.rightB] using h)
theorem Md.inside_iff:∀ {l:List Md.Vr} {vs:List Int},Md.insideB l vs=true↔vs.length=l.length/\∀ j (h1:j<l.length) (h2:j<vs.length),l[j].lo<=vs[j]/\vs[j]<=l[j].hi
  | [],[]=>by simp [Md.insideB]
  | [],x :: xs=>by simp [Md.insideB]
  | v :: l,[]=>by simp [Md.insideB]
  | v :: l, x :: xs => by
    rw [Md.insideB,Bool.and_eq_true,decide_eq_true_eq,Md.inside_iff]
    constructor
    · rintro ⟨h1,h2,h3⟩
      refine ⟨by simp [h2],fun j a b=>?_⟩
      cases j with
      | zero=>exact h1
      | succ j=>exact h3 j (by simpa using a) (by simpa using b)
    · rintro ⟨h1,h2⟩
      exact ⟨h2 0 (by simp) (by simp),by simpa using h1,fun j a b=>by have:=h2 (j+1) (by simpa using a) (by simpa using b);simpa using this⟩
theorem Md.inside_no {l:List Md.Vr} {vs:List Int} (h:vs.length≠l.length∨∃ j,∃ (h1:j<l.length) (h2:j<vs.length),¬ (l[j].lo<=vs[j]/\vs[j]<=l[j].hi)):Md.insideB l vs=false:=by
  rw [<-Bool.not_eq_true,Md.inside_iff];rintro ⟨h1,h2⟩;rcases h with h | ⟨j,a,b,c⟩
  · exact h h1
  · exact c (h2 j a b)
theorem Md.worth_no {m:Md.Mo} {vs:List Int} (h:Md.rightB m=false∨vs.length≠m.vars.length∨vs.all Md.numB=false):Md.worth m vs=0:=by
  unfold Md.worth;rw [if_neg];rintro ⟨h1,h2,h3⟩;rcases h with h | h | h
  · simp [Md.rightB,h1] at h
  · exact h h2
  · rw [h] at h3;cases h3
theorem Md.worth_yes {m:Md.Mo} {vs:List Int} (h1:Md.rightB m=true) (h2:vs.length=m.vars.length) (h3:vs.all Md.numB=true):Md.worth m vs=Md.sum m.goal vs:=by
  unfold Md.worth;rw [if_pos ⟨by simpa [Md.rightB] using h1,h2,h3⟩]
theorem Md.inside_num {m:Md.Mo} {vs:List Int} (h:Md.Right m) (hi:Md.insideB m.vars vs=true):vs.length=m.vars.length/\vs.all Md.numB=true:=by
  obtain ⟨h1,h2⟩:=Md.inside_iff.1 hi;refine ⟨h1,?_⟩;rw [List.all_eq_true];intro x hx;obtain ⟨j,hj,rfl⟩:=List.getElem_of_mem hx;have hb:=Md.bounds_of (h.var _ (List.getElem_mem (show j<m.vars.length by omega))).2;have:=h2 j (by omega) hj;simp [Md.numB];omega
theorem Md.sol_r {m:Md.Mo} {vs:List Int} (h:Md.rightB m=false):Md.solution m vs=false:=by
  unfold Md.solution;rw [decide_eq_false (by simpa [Md.rightB] using h)];rfl
theorem Md.sol_i {m:Md.Mo} {vs:List Int} (h:Md.insideB m.vars vs=false):Md.solution m vs=false:=by
  unfold Md.solution;rw [h];simp
theorem Md.sol_h {m:Md.Mo} {vs:List Int} (h:Md.rightB m=true) (h2:Md.insideB m.vars vs=true):Md.solution m vs=m.cons.all fun c=>Md.hold c vs:=by
  unfold Md.solution;rw [h2,decide_eq_true (by simpa [Md.rightB] using h)];rfl
end Go.Proofs.YtjnckfchgcmmpaaGreatDoor
namespace Go.Proofs.YtjnckfchgcmmpaaGreatDoor
open Go.RowKit
set_option maxRecDepth 10000
set_option maxHeartbeats 8000000
theorem right_any (m:Md.Mo) (vv vc vg:Value) (w:World) (h:MoAt w m vv vc vg):Calls Tryz.prog 33 #[moVal m vv vc vg] w fun e w'=>e=.returned (.bool (Md.rightB m))/\Below w.heap.size w w':=by
  obtain ⟨W,hW⟩:∃ W,w.alloc (.cells #[vv,vc,.bool m.has,vg] 26)=W:=⟨_,rfl⟩;have hbW:Below w.heap.size w W:=bAe hW;have hN:W.heap[w.heap.size]?=some (.cells #[vv,vc,.bool m.has,vg] 26):=hAe hW;have HB:Hid (Below w.heap.size w W):=hbW;have HM:Hid (∀ w',Below W.heap.size W w'->MoAt w' m vv vc vg):=fun w' hb=>(h.below hbW).below hb
  have HN:Hid (∀ w',Below W.heap.size W w'->w'.heap[w.heap.size]?=some (.cells #[vv,vc,.bool m.has,vg] 26)):=fun w' hb=>(hb.block _ (hLt hN)).trans hN
  have HNL:Hid (w.heap.size<W.heap.size):=(hLt hN);obtain ⟨va,vp,rfl,hvm⟩:=h.v.form;obtain ⟨ca,cp,rfl,hcm⟩:=h.c.form;obtain ⟨ga,gp,rfl,hgm⟩:=h.g.form;unfold maxLen at hvm hcm hgm;obtain ⟨⟨p0,p1,p2,p3⟩,_⟩:=box4 hN;have H10:Hid (Calls Tryz.prog 5 #[.agg #[.slice va m.vars.length vp,.slice ca m.cons.length cp,.bool m.has,.slice ga m.goal.length gp]] W fun e w'=>e=.returned (.tuple #[.int .i64 (Md.check m).1,.int .i64 (Md.check m).2])/\Below W.heap.size W w'):=check_any m _ _ _ W (HM.out W (Below.refl _ _));unfold moVal;clear h hbW hN;obtain ⟨r,hr⟩:∃ r,(Md.check m).2=r:=⟨_,rfl⟩;have hres:Hid (Md.rightB m=(r==0)):=by show _=_;unfold Md.rightB;rw [hr]
  rw [hr] at H10;clear hr;go_enter Tryz.func33,Tryz.ntmps33;go_wp2_with (go_at_call 5;refine cA H10.out ?_;rintro e w1 ⟨rfl,hb1⟩);go_ret;exact ⟨ret_bool hres.out.symm,HB.out.trans (hb1.mono HB.out.size)⟩
theorem within_any (va vx:Value) (l:List Md.Vr) (vs:List Int) (w:World) (hv:VarsAt w va l) (hx:IntsAt w vx vs):Calls Tryz.prog 34 #[va,vx] w fun e w'=>e=.returned (.bool (Md.insideB l vs))/\Below w.heap.size w w':=by
  obtain ⟨a,cap,rfl,hm,_,hc⟩:=hv;obtain ⟨xa,xc,rfl,hxm,hxo⟩:=hx;unfold maxLen at hm hxm;have HC:Hid (0<l.length->∃ b off,a=some ⟨b,off,none⟩/\b<w.heap.size/\∀ j (h:j<l.length),w.cell? ⟨b,off+j*3,none⟩=some (.string l[j].name)/\w.cell? ⟨b,off+j*3+1,none⟩=some (.int .i64 l[j].lo)/\w.cell? ⟨b,off+j*3+2,none⟩=some (.int .i64 l[j].hi)):=hc;have HX:Hid (0<vs.length->∃ b off,xa=some ⟨b,off,none⟩/\b<w.heap.size/\∀ j (h:j<vs.length),w.cell? ⟨b,off+j,none⟩=some (.int .i64 vs[j])):=hxo;clear hc hxo
  by_cases hl:vs.length=l.length
  rotate_left
  · have hres:Hid (Md.insideB l vs=false):=Md.inside_no (.inl hl)
    have hlI:((vs.length:Int) != (l.length:Int))=true:=by rw [bne_iff_ne];omega
    go_enter Tryz.func34,Tryz.ntmps34;go_wp2;go_ret;exact ⟨ret_bool hres.out.symm,Below.refl _ _⟩
  have HL:Hid (vs.length=l.length):=hl;have hlI:((vs.length:Int) != (l.length:Int))=false:=by rw [bne_eq_false_iff_eq];omega
  clear hl;go_enter Tryz.func34,Tryz.ntmps34;go_wp2;go_loopw [14] (fun iv wr=>∃ k:Nat,iv=.int .i64 (k:Int)/\k<=l.length/\Hid (∀ j (h1:j<l.length) (h2:j<vs.length),j<k->l[j].lo<=vs[j]/\vs[j]<=l[j].hi)/\Hid (Below w.heap.size w wr)) (fun iv _=>l.length-(intOf iv).toNat)
  case atStart=>exact ⟨0,rfl,Nat.zero_le _,fun j _ _ h=>absurd h (Nat.not_lt_zero _),Below.refl _ _⟩
  case round=>
    obtain ⟨k,rfl,hk,hA,hR⟩:=hrel
    by_cases hlt:k<l.length
    · have hkI:(k:Int)<(l.length:Int):=by omega
      have hkv:k<vs.length:=by have:=HL.out;omega
      have hkvI:(k:Int)<(vs.length:Int):=by omega
      obtain ⟨b,off,rfl,hb,hc⟩:=HC.out (by omega);obtain ⟨b2,o2,rfl,hb2,hc2⟩:=HX.out (by omega);obtain ⟨d0,d1,d2⟩:=hc k hlt;have e0:=(hR.out.cell (p:=⟨b,off+k*3,none⟩) hb).trans d0;have e1:=(hR.out.cell (p:=⟨b,off+k*3+1,none⟩) hb).trans d1;have e2:=(hR.out.cell (p:=⟨b,off+k*3+2,none⟩) hb).trans d2;have e3:=(hR.out.cell (p:=⟨b2,o2+k,none⟩) hb2).trans (hc2 k hkv);clear hc d0 d1 d2 hc2;have HNo:Hid (¬ (l[k].lo<=vs[k]/\vs[k]<=l[k].hi)->Md.insideB l vs=false):=fun h=>Md.inside_no (.inr ⟨k,hlt,hkv,h⟩)
      have HYes:Hid (l[k].lo<=vs[k]/\vs[k]<=l[k].hi->∀ j (h1:j<l.length) (h2:j<vs.length),j<k+1->l[j].lo<=vs[j]/\vs[j]<=l[j].hi):=fun h j h1 h2 hj=>by
        by_cases hjk:j<k
        · exact hA.out j h1 h2 hjk
        · obtain rfl:j=k:=by omega
          exact h
      generalize l[k]=v at *
      generalize vs[k]=x at *
      obtain ⟨V,hV⟩:∃ V,wr.alloc (.cells #[.string v.name,.int .i64 v.lo,.int .i64 v.hi] 51)=V:=⟨_,rfl⟩;have hbV:Below wr.heap.size wr V:=bAe hV;have q1:V.cell? ⟨wr.heap.size,1,none⟩=some (.int .i64 v.lo):=by rw [<-hV];simp
      have q2:V.cell? ⟨wr.heap.size,2,none⟩=some (.int .i64 v.hi):=by rw [<-hV];simp
      have q3:=one_next hbV e3;have HRV:Hid (Below w.heap.size w V):=hR.out.trans (hbV.mono hR.out.size);clear hbV
      by_cases h1:x<v.lo
      · have hres:Hid (Md.insideB l vs=false):=HNo.out (by omega)
        have h1B:decide (x<v.lo)=true:=by simpa using h1
        go_wp2_with fail
        go_quiet (fail)
        go_wp2;go_ret;exact ⟨ret_bool hres.out.symm,below_drewN HRV.out _⟩
      have h1B:decide (x<v.lo)=false:=by simpa using h1
      by_cases h2:v.hi<x
      · have hres:Hid (Md.insideB l vs=false):=HNo.out (by omega)
        have h2B:decide (v.hi<x)=true:=by simpa using h2
        go_wp2_with fail
        go_quiet (fail)
        go_wp2;go_ret;exact ⟨ret_bool hres.out.symm,below_drewN HRV.out _⟩
      · have h2B:decide (v.hi<x)=false:=by simpa using h2
        have hnx:=HYes.out ⟨by omega,by omega⟩;have HNX:Hid (∀ j (h1:j<l.length) (h2:j<vs.length),j<k+1->l[j].lo<=vs[j]/\vs[j]<=l[j].hi):=hnx;clear hnx;go_wp2_with fail
        go_quiet (fail)
        go_wp2;go_roundw
        case rel=>exact ⟨k+1,by go_num,by omega,HNX,below_drewN HRV.out _⟩
        case measure=>simp [intOf];omega
    · have hkI:¬ (k:Int)<(l.length:Int):=by omega
      have hres:Hid (Md.insideB l vs=true):=Md.inside_iff.2 ⟨HL.out,fun j h1 h2=>hA.out j h1 h2 (by omega)⟩;go_wp2_with fail
      go_ret;exact ⟨ret_bool hres.out.symm,hR.out⟩
theorem worth_any (m:Md.Mo) (vv vc vg vx:Value) (vs:List Int) (w:World) (h:MoAt w m vv vc vg) (hx:IntsAt w vx vs):Calls Tryz.prog 15 #[moVal m vv vc vg,vx] w fun e w'=>e=.returned (.int .i64 (Md.worth m vs))/\Below w.heap.size w w':=by
  obtain ⟨W,hW⟩:∃ W,w.alloc (.cells #[vv,vc,.bool m.has,vg] 26)=W:=⟨_,rfl⟩;have hbW:Below w.heap.size w W:=bAe hW;have hN:W.heap[w.heap.size]?=some (.cells #[vv,vc,.bool m.has,vg] 26):=hAe hW;have HB:Hid (Below w.heap.size w W):=hbW;have HM:Hid (∀ w',Below W.heap.size W w'->MoAt w' m vv vc vg):=fun w' hb=>(h.below hbW).below hb
  have HN:Hid (∀ w',Below W.heap.size W w'->w'.heap[w.heap.size]?=some (.cells #[vv,vc,.bool m.has,vg] 26)):=fun w' hb=>(hb.block _ (hLt hN)).trans hN
  have HNL:Hid (w.heap.size<W.heap.size):=(hLt hN);obtain ⟨va,vp,rfl,hvm⟩:=h.v.form;obtain ⟨ca,cp,rfl,hcm⟩:=h.c.form;obtain ⟨ga,gp,rfl,hgm⟩:=h.g.form;unfold maxLen at hvm hcm hgm;obtain ⟨⟨p0,p1,p2,p3⟩,_⟩:=box4 hN;have H42:Hid (Calls Tryz.prog 33 #[.agg #[.slice va m.vars.length vp,.slice ca m.cons.length cp,.bool m.has,.slice ga m.goal.length gp]] W fun e w'=>e=.returned (.bool (Md.rightB m))/\Below W.heap.size W w'):=right_any m _ _ _ W (HM.out W (Below.refl _ _));have HX:Hid (∀ w',Below W.heap.size W w'->IntsAt w' vx vs):=fun w' hb=>(hx.below hbW).below hb
  obtain ⟨xa,xc,rfl,hxm⟩:=hx.form;unfold moVal;clear h hbW hN hx
  cases hr:Md.rightB m
  · have hres:Hid (Md.worth m vs=0):=Md.worth_no (.inl hr)
    rw [hr] at H42;clear hr;go_enter Tryz.func15,Tryz.ntmps15;go_wp2_with (go_at_call 33;refine cA H42.out ?_;rintro e w1 ⟨rfl,hb1⟩);go_ret;exact ⟨ret_int hres.out.symm,HB.out.trans (hb1.mono HB.out.size)⟩
  have HR:Hid (Md.rightB m=true):=hr;rw [hr] at H42;clear hr
  by_cases hl:vs.length=m.vars.length
  rotate_left
  · have hres:Hid (Md.worth m vs=0):=Md.worth_no (.inr (.inl hl))
    have hlI:((vs.length:Int) != (m.vars.length:Int))=true:=by rw [bne_iff_ne];omega
    go_enter Tryz.func15,Tryz.ntmps15;go_wp2_with (go_at_call 33;refine cA H42.out ?_;rintro e w1 ⟨rfl,hb1⟩;have HB1:Hid (Below W.heap.size W w1):=hb1;clear hb1 p0 p1 p2 p3;obtain ⟨⟨p0,p1,p2,p3⟩,_⟩:=box4 (HN.out _ HB1.out));go_ret;exact ⟨ret_int hres.out.symm,HB.out.trans (HB1.out.mono HB.out.size)⟩
  have hlI:((vs.length:Int) != (m.vars.length:Int))=false:=by rw [bne_eq_false_iff_eq];omega
  have HL:Hid (vs.length=m.vars.length):=hl;clear hl;go_enter Tryz.func15,Tryz.ntmps15;go_wp2_with (first | (go_at_call 33;refine cA H42.out ?_;rintro e w1 ⟨rfl,hb1⟩;have HB1:Hid (Below W.heap.size W w1):=hb1;clear hb1 p0 p1 p2 p3;obtain ⟨⟨p0,p1,p2,p3⟩,_⟩:=box4 (HN.out _ HB1.out)) | fail);refine (areNumbers_any _ vs _ (HX.out _ HB1.out)).mono ?_;rintro e w' ⟨rfl,hww⟩;rw [hww];clear hww
  cases hn:vs.all Md.numB
  · have hres:Hid (Md.worth m vs=0):=Md.worth_no (.inr (.inr hn))
    clear hn;go_wp2_with fail
    go_ret;exact ⟨ret_int hres.out.symm,HB.out.trans (HB1.out.mono HB.out.size)⟩
  have hres:Hid (Md.worth m vs=Md.sum m.goal vs):=Md.worth_yes HR.out HL.out hn;have hg:=Md.goal_of (Md.rightB_of HR.out).goal;have H52:Hid (Calls Tryz.prog 39 #[.slice ga m.goal.length gp,.slice xa vs.length xc] w1 fun e w'=>e=.returned (.int .i64 (Md.sum m.goal vs))/\Below w1.heap.size w1 w'):=sum_any _ _ m.goal vs w1 (HM.out _ HB1.out).g (HX.out _ HB1.out) hn (fun x hx=>by rw [HL.out];exact hg.2.2.1 x hx) (fun x hx=>(hg.2.2.2 x hx).2) hg.2.1;clear hn hg;go_wp2_with (go_at_call 39;refine cA H52.out ?_;rintro e w2 ⟨rfl,hb2⟩);go_ret;exact ⟨ret_int hres.out.symm,(HB.out.trans (HB1.out.mono HB.out.size)).trans (hb2.mono (HB.out.trans (HB1.out.mono HB.out.size)).size)⟩
theorem clos49 (c:Md.Cn) (vt vx vb vr vv:Value) (vs:List Int) (q:Nat) (w:World) (hC:CnAt w c vt vx vb vr) (hV:IntsAt w vv vs) (hq:w.cell? ⟨q,0,none⟩=some vv) (hf:Md.fault c vs.length=0) (hn:vs.all Md.numB=true) :
    Calls Tryz.prog 36 #[cnVal c vt vx vb vr,.pointer (some ⟨q,0,none⟩)] w fun e w'=>e=.returned (.bool (Md.hold c vs))/\Below w.heap.size w w':=by
  obtain ⟨W,hW⟩:∃ W,w.alloc (.cells #[.int .i64 c.kind,.int .i64 c.op,vt,.int .i64 c.k,.int .i64 c.v,.int .i64 c.x,.int .i64 c.y,vx,vb,vr] 56)=W:=⟨_,rfl⟩;have hbW:Below w.heap.size w W:=bAe hW;have hN:W.heap[w.heap.size]?=some (.cells #[.int .i64 c.kind,.int .i64 c.op,vt,.int .i64 c.k,.int .i64 c.v,.int .i64 c.x,.int .i64 c.y,vx,vb,vr] 56):=hAe hW;have HB:Hid (Below w.heap.size w W):=hbW;have H50:Hid (Calls Tryz.prog 37 #[cnVal c vt vx vb vr,vv] W fun e w'=>e=.returned (.bool (Md.hold c vs))/\Below W.heap.size W w'):=hold_any c vt vx vb vr vv vs W (hC.below hbW) (hV.below hbW) hf hn;have hq':=one_next hbW hq;obtain ⟨ta,tc,rfl,_⟩:=hC.t.form;obtain ⟨xa,xc,rfl,_⟩:=hC.x.form;obtain ⟨ba,bc,rfl,_⟩:=hC.b.form;obtain ⟨ra,rc,rfl,_⟩:=hC.r.form;obtain ⟨va,vp,rfl,_⟩:=hV.form
  obtain ⟨⟨p0,p1,p2,p3,p4,p5,p6,p7,p8,p9⟩,_⟩:=box10 hN;unfold cnVal at H50 ⊢;clear hC hV hf hn hbW hN hq;go_enter Tryz.func36,Tryz.ntmps36;go_wp2_with (go_at_call 37;refine cA H50.out ?_;rintro e w1 ⟨rfl,hb1⟩);go_ret;exact ⟨rfl,HB.out.trans (hb1.mono HB.out.size)⟩
theorem everyC_hold (vc vv:Value) (l:List Md.Cn) (vs:List Int) (q:Nat) (w:World) (hc:ConsAt w vc l) (hV:IntsAt w vv vs) (hq:w.cell? ⟨q,0,none⟩=some vv) (hf:∀ c∈l,Md.fault c vs.length=0) (hn:vs.all Md.numB=true) :
    Calls Tryz.prog 35 #[vc,.func (.func 36) #[] #[.pointer (some ⟨q,0,none⟩)]] w fun e w'=>e=.returned (.bool (l.all fun c=>Md.hold c vs))/\Below w.heap.size w w':=by
  have HH:Hid (∀ (w':World) (c:Md.Cn) (vt vx vb vr:Value),Below w.heap.size w w'->CnAt w' c vt vx vb vr->Md.fault c vs.length=0->Calls Tryz.prog 36 #[cnVal c vt vx vb vr,.pointer (some ⟨q,0,none⟩)] w' fun e w''=>e=.returned (.bool (Md.hold c vs))/\Below w'.heap.size w' w''):=fun w' c vt vx vb vr hb h1 h2=>
    clos49 c vt vx vb vr vv vs q w' h1 (hV.below hb) (one_next hb hq) h2 hn
  obtain ⟨a,cap,rfl,hm,ho⟩:=hc;unfold maxLen at hm;have HC:Hid (0<l.length->∃ b off,a=some ⟨b,off,none⟩/\b<w.heap.size/\∀ j (h:j<l.length),∃ vt vx vb vr,CnAt w l[j] vt vx vb vr/\CnCells w b (off+j*10) l[j] vt vx vb vr):=ho;have HF:Hid (∀ c∈l,Md.fault c vs.length=0):=hf;obtain ⟨f,hfd⟩:∃ f:Md.Cn->Bool,(fun c=>Md.hold c vs)=f:=⟨_,rfl⟩;have HFD:Hid ((fun c=>Md.hold c vs)=f):=hfd;rw [hfd];clear ho hV hq hf hn hfd;go_enter Tryz.func35,Tryz.ntmps35;go_wp2;go_loopw [9] (fun iv wr=>∃ k:Nat,iv=.int .i64 (k:Int)/\k<=l.length/\Hid ((l.take k).all f=true)/\Hid (Below w.heap.size w wr)) (fun iv _=>l.length-(intOf iv).toNat)
  case atStart=>exact ⟨0,rfl,Nat.zero_le _,(show _=_ by simp),Below.refl _ _⟩
  case round=>
    obtain ⟨k,rfl,hk,hA,hR⟩:=hrel
    by_cases hlt:k<l.length
    · have hkI:(k:Int)<(l.length:Int):=by omega
      obtain ⟨b,off,rfl,hb,hc⟩:=HC.out (by omega);obtain ⟨vt,vx,vb,vr,hcn,hcl⟩:=hc k hlt;obtain ⟨e0,e1,e2,e3,e4,e5,e6,e7,e8,e9⟩:=hcl.below hR.out;obtain ⟨ta,tc,rfl,_⟩:=hcn.t.form;obtain ⟨xa,xc,rfl,_⟩:=hcn.x.form;obtain ⟨ba,bc,rfl,_⟩:=hcn.b.form;obtain ⟨ra,rc,rfl,_⟩:=hcn.r.form;have HCN:Hid (CnAt wr l[k] (.slice ta l[k].terms.length tc) (.slice xa l[k].xs.length xc) (.slice ba l[k].table.length bc) (.slice ra l[k].rows.length rc)):=hcn.below hR.out;have HNo:Hid (f l[k]=false->l.all f=false):=fun h=>Md.all_stop hlt h
      have HYes:Hid (f l[k]=true->(l.take (k+1)).all f=true):=fun h=>Md.all_next hA.out hlt h
      have HK:Hid (f l[k]=Md.hold l[k] vs):=by show _=_;rw [<-HFD.out]
      have HF0:Hid (Md.fault l[k] vs.length=0):=HF.out _ (List.getElem_mem hlt);clear hc hcn hcl;generalize l[k]=c at *
      obtain ⟨V,hV⟩:∃ V,wr.alloc (.cells #[.int .i64 c.kind,.int .i64 c.op,.slice ta c.terms.length tc,.int .i64 c.k,.int .i64 c.v,.int .i64 c.x,.int .i64 c.y,.slice xa c.xs.length xc,.slice ba c.table.length bc,.slice ra c.rows.length rc] 56)=V:=⟨_,rfl⟩;have hbV:Below wr.heap.size wr V:=bAe hV;have hNV:V.heap[wr.heap.size]?=some (.cells #[.int .i64 c.kind,.int .i64 c.op,.slice ta c.terms.length tc,.int .i64 c.k,.int .i64 c.v,.int .i64 c.x,.int .i64 c.y,.slice xa c.xs.length xc,.slice ba c.table.length bc,.slice ra c.rows.length rc] 56):=hAe hV;obtain ⟨⟨q0,q1,q2,q3,q4,q5,q6,q7,q8,q9⟩,_⟩:=box10 hNV;have HRV:Hid (Below w.heap.size w V):=hR.out.trans (hbV.mono hR.out.size)
      have HU:Hid (Calls Tryz.prog 36 #[.agg #[.int .i64 c.kind,.int .i64 c.op,.slice ta c.terms.length tc,.int .i64 c.k,.int .i64 c.v,.int .i64 c.x,.int .i64 c.y,.slice xa c.xs.length xc,.slice ba c.table.length bc,.slice ra c.rows.length rc],.pointer (some ⟨q,0,none⟩)] V fun e w'=>e=.returned (.bool (f c))/\Below V.heap.size V w'):=by rw [HK.out];exact HH.out V c _ _ _ _ HRV.out (HCN.out.below hbV) HF0.out
      clear hbV hNV
      cases hp:f c
      · rw [hp] at HU
        have hres:Hid (l.all f=false):=HNo.out hp;clear hp;go_wp2_with (go_at_call 36;refine cA HU.out ?_;rintro e w2 ⟨rfl,hb2⟩);go_ret;exact ⟨ret_bool hres.out.symm,HRV.out.trans (hb2.mono HRV.out.size)⟩
      · rw [hp] at HU
        have hnx:Hid ((l.take (k+1)).all f=true):=HYes.out hp;clear hp;go_wp2_with (go_at_call 36;refine cA HU.out ?_;rintro e w2 ⟨rfl,hb2⟩);go_roundw
        case rel=>exact ⟨k+1,by go_num,by omega,hnx,HRV.out.trans (hb2.mono HRV.out.size)⟩
        case measure=>simp [intOf];omega
    · have hkI:¬ (k:Int)<(l.length:Int):=by omega
      have hres:Hid (l.all f=true):=Md.all_done hA.out (by omega);go_wp2_with fail
      go_ret;exact ⟨ret_bool hres.out.symm,hR.out⟩
theorem solution_any (m:Md.Mo) (vv vc vg vx:Value) (vs:List Int) (w:World) (h:MoAt w m vv vc vg) (hx:IntsAt w vx vs):Calls Tryz.prog 14 #[moVal m vv vc vg,vx] w fun e w'=>e=.returned (.bool (Md.solution m vs))/\Below w.heap.size w w':=by
  obtain ⟨xa,xc,rfl,hxm⟩:=hx.form;obtain ⟨va,vp,rfl,hvm⟩:=h.v.form;obtain ⟨ca,cp,rfl,hcm⟩:=h.c.form;obtain ⟨ga,gp,rfl,hgm⟩:=h.g.form;obtain ⟨W0,hW0⟩:∃ W,w.alloc (.cells #[.slice va m.vars.length vp,.slice ca m.cons.length cp,.bool m.has,.slice ga m.goal.length gp] 26)=W:=⟨_,rfl⟩;have hb0:Below w.heap.size w W0:=bAe hW0;have hN0:W0.heap[w.heap.size]?=some (.cells #[.slice va m.vars.length vp,.slice ca m.cons.length cp,.bool m.has,.slice ga m.goal.length gp] 26):=hAe hW0;have hs0:W0.heap.size=w.heap.size+1:=by rw [<-hW0];simp
  obtain ⟨W,hW⟩:∃ W,W0.alloc (.cells #[.slice xa vs.length xc] 27)=W:=⟨_,rfl⟩;have hb1:Below W0.heap.size W0 W:=bAe hW;have hbW:Below w.heap.size w W:=hb0.trans (hb1.mono hb0.size);have hN:W.heap[w.heap.size]?=some (.cells #[.slice va m.vars.length vp,.slice ca m.cons.length cp,.bool m.has,.slice ga m.goal.length gp] 26):=(hb1.block _ (by omega)).trans hN0;have hq:W.cell? ⟨w.heap.size+1,0,none⟩=some (.slice xa vs.length xc):=by rw [<-hs0,<-hW];simp
  have HB:Hid (Below w.heap.size w W):=hbW;have HM:Hid (∀ w',Below W.heap.size W w'->MoAt w' m (.slice va m.vars.length vp) (.slice ca m.cons.length cp) (.slice ga m.goal.length gp)):=fun w' hb=>(h.below hbW).below hb
  have HX:Hid (∀ w',Below W.heap.size W w'->IntsAt w' (.slice xa vs.length xc) vs):=fun w' hb=>(hx.below hbW).below hb
  have HN:Hid (∀ w',Below W.heap.size W w'->w'.heap[w.heap.size]?=some (.cells #[.slice va m.vars.length vp,.slice ca m.cons.length cp,.bool m.has,.slice ga m.goal.length gp] 26)):=fun w' hb=>(hb.block _ (hLt hN)).trans hN
  have HQ:Hid (∀ w',Below W.heap.size W w'->w'.cell? ⟨w.heap.size+1,0,none⟩=some (.slice xa vs.length xc)):=fun w' hb=>one_next hb hq
  obtain ⟨⟨p0,p1,p2,p3⟩,_⟩:=box4 hN;have H42:Hid (Calls Tryz.prog 33 #[.agg #[.slice va m.vars.length vp,.slice ca m.cons.length cp,.bool m.has,.slice ga m.goal.length gp]] W fun e w'=>e=.returned (.bool (Md.rightB m))/\Below W.heap.size W w'):=right_any m _ _ _ W (HM.out W (Below.refl _ _));unfold moVal;clear h hbW hN hx hb0 hb1 hN0
  cases hr:Md.rightB m
  · have hres:Hid (Md.solution m vs=false):=Md.sol_r hr
    rw [hr] at H42;clear hr;go_enter Tryz.func14,Tryz.ntmps14;go_wp2_with (go_at_call 33;refine cA H42.out ?_;rintro e w1 ⟨rfl,hb1⟩);go_ret;exact ⟨ret_bool hres.out.symm,HB.out.trans (hb1.mono HB.out.size)⟩
  have HR:Hid (Md.rightB m=true):=hr;rw [hr] at H42;clear hr;go_enter Tryz.func14,Tryz.ntmps14;go_wp2_with fail
  refine cA H42.out ?_;rintro e w1 ⟨rfl,hb1⟩;have HB1:Hid (Below W.heap.size W w1):=hb1;clear hb1 p0 p1 p2 p3 hq;obtain ⟨⟨p0,p1,p2,p3⟩,_⟩:=box4 (HN.out _ HB1.out);have hq:=HQ.out _ HB1.out;go_wp2_with fail
  refine cA (within_any _ _ m.vars vs w1 (HM.out _ HB1.out).v (HX.out _ HB1.out)) ?_;rintro e w2 ⟨rfl,hb2⟩;have HB2:Hid (Below W.heap.size W w2):=HB1.out.trans (hb2.mono HB1.out.size);clear hb2 p0 p1 p2 p3 hq;obtain ⟨⟨p0,p1,p2,p3⟩,_⟩:=box4 (HN.out _ HB2.out)
  cases hi:Md.insideB m.vars vs
  · have hres:Hid (Md.solution m vs=false):=Md.sol_i hi
    clear hi;go_wp2_with fail
    go_ret;exact ⟨ret_bool hres.out.symm,HB.out.trans (HB2.out.mono HB.out.size)⟩
  have hres:Hid (Md.solution m vs=m.cons.all fun c=>Md.hold c vs):=Md.sol_h HR.out hi;have hnum:=Md.inside_num (Md.rightB_of HR.out) hi;have H48:Hid (Calls Tryz.prog 35 #[.slice ca m.cons.length cp,.func (.func 36) #[] #[.pointer (some ⟨w.heap.size+1,0,none⟩)]] w2 fun e w'=>e=.returned (.bool (m.cons.all fun c=>Md.hold c vs))/\Below w2.heap.size w2 w'):=everyC_hold _ _ m.cons vs (w.heap.size+1) w2 (HM.out _ HB2.out).c (HX.out _ HB2.out) (HQ.out _ HB2.out) (fun c hc=>by rw [hnum.1];exact (Md.rightB_of HR.out).con c hc) hnum.2;clear hi hnum;go_wp2_with (go_at_call 35;refine cA H48.out ?_;rintro e w3 ⟨rfl,hb3⟩;have HB3:Hid (Below W.heap.size W w3):=HB2.out.trans (hb3.mono HB2.out.size);clear hb3);go_ret;exact ⟨ret_bool hres.out.symm,HB.out.trans (HB3.out.mono HB.out.size)⟩
end Go.Proofs.YtjnckfchgcmmpaaGreatDoor
