/-
  Put together: MdV4, MdV5, DcV1, DcD1, DcD2, MdV6, MdV7, MdV9, MdFewM, AnFew.
-/
import Derived.Test.YtjgghimjnbjlbaaGreatDoorJ04
import Derived.Test.YtjgghimjnbjlbaaGreatDoorJ17
import Derived.Test.YtjgghimjnbjlbaaGreatDoorJ09
import Derived.Deep.RegionHeld3
import Derived.Test.YtjgghimjnbjlbaaGreatDoorMdHolds
import Derived.BigQuiet
namespace Go.Proofs.YtjgghimjnbjlbaaGreatDoor
open Go.RowKit
set_option maxRecDepth 10000
set_option maxHeartbeats 8000000
def CnCells (w:World) (b o:Nat) (c:Md.Cn) (vt vx vb vr:Value):Prop:=w.cell? ⟨b,o,none⟩=some (.int .i64 c.kind)/\w.cell? ⟨b,o+1,none⟩=some (.int .i64 c.op)/\w.cell? ⟨b,o+2,none⟩=some vt/\w.cell? ⟨b,o+3,none⟩=some (.int .i64 c.k)/\w.cell? ⟨b,o+4,none⟩=some (.int .i64 c.v)/\w.cell? ⟨b,o+5,none⟩=some (.int .i64 c.x)/\w.cell? ⟨b,o+6,none⟩=some (.int .i64 c.y)/\w.cell? ⟨b,o+7,none⟩=some vx/\w.cell? ⟨b,o+8,none⟩=some vb/\w.cell? ⟨b,o+9,none⟩=some vr
theorem CnCells.below {w w':World} {b o:Nat} {c:Md.Cn} {vt vx vb vr:Value} (h:CnCells w b o c vt vx vb vr) (hb:Below w.heap.size w w'):CnCells w' b o c vt vx vb vr:=by
  obtain ⟨h0,h1,h2,h3,h4,h5,h6,h7,h8,h9⟩:=h;exact ⟨yA hb h0,yA hb h1,yA hb h2,yA hb h3,yA hb h4,yA hb h5,yA hb h6,yA hb h7,yA hb h8,yA hb h9⟩
def ConsAt (w:World) (v:Value) (l:List Md.Cn):Prop:=
  ∃ a cap,v=.slice a l.length cap/\l.length<=maxLen/\(0<l.length->∃ b off,a=some ⟨b,off,none⟩/\b<w.heap.size /\
    ∀ j (h:j<l.length),∃ vt vx vb vr,CnAt w l[j] vt vx vb vr/\CnCells w b (off+j * 10) l[j] vt vx vb vr)
theorem ConsAt.below {w w':World} {v:Value} {l:List Md.Cn} (h:ConsAt w v l) (hb:Below w.heap.size w w'):ConsAt w' v l:=by
  obtain ⟨a,cap,hv,hl,hc⟩:=h;refine ⟨a,cap,hv,hl,fun h0=>?_⟩;obtain ⟨b,off,ha,hbs,hcell⟩:=hc h0;refine ⟨b,off,ha,Nat.lt_of_lt_of_le hbs hb.size,fun j hj=>?_⟩;obtain ⟨vt,vx,vb,vr,h1,h2⟩:=hcell j hj;exact ⟨vt,vx,vb,vr,h1.below hb,h2.below hb⟩
theorem ConsAt.form {w:World} {v:Value} {l:List Md.Cn} (h:ConsAt w v l):∃ a cap,v=.slice a l.length cap/\l.length<=maxLen:=by
  obtain ⟨a,cap,hv,hl,_⟩:=h;exact ⟨a,cap,hv,hl⟩
def yp (m:Md.Mo) (vv vc vg:Value):Value:=.agg #[vv,vc,.bool m.has,vg]
structure MoAt (w:World) (m:Md.Mo) (vv vc vg:Value):Prop where
  v:VarsAt w vv m.vars
  vcap:∀ a n cp,vv=.slice a n cp->n<=cp
  c:ConsAt w vc m.cons
  g:TermsAt w vg m.goal
theorem MoAt.below {w w':World} {m:Md.Mo} {vv vc vg:Value} (h:MoAt w m vv vc vg) (hb:Below w.heap.size w w'):MoAt w' m vv vc vg:=
  ⟨h.v.below hb,h.vcap,h.c.below hb,h.g.below hb⟩
theorem box4 {w:World} {N:Nat} {a0 a1 a2 a3:Value} {t:TypeId} (h:w.heap[N]?=some (.cells #[a0,a1,a2,a3] t (0,0))):(w.cell? ⟨N,0,none⟩=some a0/\w.cell? ⟨N,1,none⟩=some a1/\w.cell? ⟨N,2,none⟩=some a2/\w.cell? ⟨N,3,none⟩=some a3)/\∀ j,w.frozen? ⟨N,j,none⟩=false:=by
  refine ⟨⟨?_,?_,?_,?_⟩,fun j=>?_⟩ <;> simp [World.cell?,World.frozen?,h]
theorem gf_a {m:Md.Mo} (h1:m.has=false) (h2:0<m.goal.length):Md.goalFault m=48:=by simp only [Md.goalFault,h1,h2,if_true]
theorem gf_b {m:Md.Mo} (h1:m.has=false) (h2:¬ 0<m.goal.length):Md.goalFault m=0:=by simp only [Md.goalFault,h1,h2,if_true,if_false]
theorem gf_c {m:Md.Mo} (h1:m.has=true) (h2:Md.fewB m.goal.length 64=true):Md.goalFault m=47:=by simp [Md.goalFault,h1,h2]
theorem gf_d {m:Md.Mo} (h1:m.has=true) (h2:Md.fewB m.goal.length 64=false) (h3:(m.goal.all fun t=>Md.plB m.vars.length t.2)=false):Md.goalFault m=44:=by unfold Md.goalFault;rw [h1,h2,h3];rfl
theorem gf_e {m:Md.Mo} (h1:m.has=true) (h2:Md.fewB m.goal.length 64=false) (h3:(m.goal.all fun t=>Md.plB m.vars.length t.2)=true) (h4:Md.coefsB m.goal=false):Md.goalFault m=45:=by unfold Md.goalFault;rw [h1,h2,h3,h4];rfl
theorem gf_f {m:Md.Mo} (h1:m.has=true) (h2:Md.fewB m.goal.length 64=false) (h3:(m.goal.all fun t=>Md.plB m.vars.length t.2)=true) (h4:Md.coefsB m.goal=true):Md.goalFault m=0:=by unfold Md.goalFault;rw [h1,h2,h3,h4];rfl
theorem y4A (m:Md.Mo) (vv vc vg:Value) (w:World) (h:MoAt w m vv vc vg):Calls Tryz.prog 76 #[yp m vv vc vg] w fun e w'=>e=.returned (.int .i64 (Md.goalFault m))/\Below w.heap.size w w':=by
  obtain ⟨W,hW⟩:∃ W,w.alloc (.cells #[vv,vc,.bool m.has,vg] 26)=W:=⟨_,rfl⟩;have hbW:Below w.heap.size w W:=bAe hW;have hN:W.heap[w.heap.size]?=some (.cells #[vv,vc,.bool m.has,vg] 26):=hAe hW;have HB:Hid (Below w.heap.size w W):=hbW;have HG:Hid (∀ w',Below W.heap.size W w'->TermsAt w' vg m.goal):=fun w' hb=>(h.g.below hbW).below hb
  have HN:Hid (∀ w',Below W.heap.size W w'->w'.heap[w.heap.size]?=some (.cells #[vv,vc,.bool m.has,vg] 26)):=fun w' hb=>(hb.block _ (hLt hN)).trans hN
  obtain ⟨va,vp,rfl,hvm⟩:=h.v.form;obtain ⟨ca,cp,rfl,hcm⟩:=h.c.form;obtain ⟨ga,gp,rfl,hgm⟩:=h.g.form;unfold maxLen at hvm hcm hgm;obtain ⟨⟨p0,p1,p2,p3⟩,_⟩:=box4 hN;unfold yp;clear h hbW hN
  cases hh:m.has
  · rw [hh] at p2 hW HN
    by_cases hg:0<m.goal.length
    · have hres:Hid (Md.goalFault m=48):=gf_a hh hg
      have hgI:(0:Int)<(m.goal.length:Int):=by omega
      clear hh;go_enter Tryz.func76,Tryz.ntmps76;go_wp2;go_ret;exact ⟨yi hres.out.symm,HB.out⟩
    · have hres:Hid (Md.goalFault m=0):=gf_b hh hg
      have hgI:¬ (0:Int)<(m.goal.length:Int):=by omega
      clear hh;go_enter Tryz.func76,Tryz.ntmps76;go_wp2;go_ret;exact ⟨yi hres.out.symm,HB.out⟩
  rw [hh] at p2 hW HN;have HH:Hid (m.has=true):=hh;clear hh
  cases hf:Md.fewB m.goal.length 64
  rotate_left
  · have hres:Hid (Md.goalFault m=47):=gf_c HH.out hf
    go_enter Tryz.func76,Tryz.ntmps76;go_wp2_with (go_at_call 102;refine (zV m.goal.length 64 _).mono ?_;rintro e w' ⟨rfl,hww⟩;rw [hww];clear hww);go_ret;exact ⟨yi hres.out.symm,HB.out⟩
  go_enter Tryz.func76,Tryz.ntmps76;go_wp2_with (first | (go_at_call 102;refine (zV m.goal.length 64 _).mono ?_;rintro e w' ⟨rfl,hww⟩;rw [hww];clear hww) | fail);have HF:Hid (Md.fewB m.goal.length 64=false):=hf;clear hf;refine mcA (Zz _ m.goal (m.vars.length:Int) _ (HG.out W (Below.refl _ _))) ?_;rintro e w1 ⟨rfl,hb1⟩;have HB1:Hid (Below W.heap.size W w1):=hb1;clear hb1 p0 p1 p2 p3;obtain ⟨⟨p0,p1,p2,p3⟩,_⟩:=box4 (HN.out _ HB1.out)
  cases hp:(m.goal.all fun t=>Md.plB m.vars.length t.2)
  · have hres:Hid (Md.goalFault m=44):=gf_d HH.out HF.out hp
    go_wp2_with fail
    go_ret;exact ⟨yi hres.out.symm,HB.out.trans (HB1.out.mono HB.out.size)⟩
  have HP:Hid ((m.goal.all fun t=>Md.plB m.vars.length t.2)=true):=hp;clear hp;go_wp2_with fail
  refine mcA (zc _ m.goal _ (HG.out _ HB1.out)) ?_;rintro e w2 ⟨rfl,hb2⟩;have HB2:Hid (Below w.heap.size w w2):=(HB.out.trans (HB1.out.mono HB.out.size)).trans (hb2.mono (HB.out.trans (HB1.out.mono HB.out.size)).size);clear hb2
  cases hq:Md.coefsB m.goal
  · have hres:Hid (Md.goalFault m=45):=gf_e HH.out HF.out HP.out hq
    go_wp2_with fail
    go_ret;exact ⟨yi hres.out.symm,HB2.out⟩
  · have hres:Hid (Md.goalFault m=0):=gf_f HH.out HF.out HP.out hq
    go_wp2_with fail
    go_ret;exact ⟨yi hres.out.symm,HB2.out⟩
end Go.Proofs.YtjgghimjnbjlbaaGreatDoor

namespace Go.Proofs.YtjgghimjnbjlbaaGreatDoor
open Go.RowKit
set_option maxRecDepth 10000
set_option maxHeartbeats 8000000
theorem Ck.next {V w1 w2:World} {P N:Nat} {v:Md.Vr} {vv:Value} (h:w1.cell? ⟨P,0,none⟩=some (.string v.name)/\w1.cell? ⟨P,1,none⟩=some (.int .i64 v.lo)/\w1.cell? ⟨P,2,none⟩=some (.int .i64 v.hi)/\w1.cell? ⟨N,0,none⟩=some vv/\Below V.heap.size V w1) (hb:Below w1.heap.size w1 w2):w2.cell? ⟨P,0,none⟩=some (.string v.name)/\w2.cell? ⟨P,1,none⟩=some (.int .i64 v.lo)/\w2.cell? ⟨P,2,none⟩=some (.int .i64 v.hi)/\w2.cell? ⟨N,0,none⟩=some vv/\Below V.heap.size V w2:=by
  obtain ⟨h0,h1,h2,h3,h4⟩:=h;exact ⟨yA hb h0,yA hb h1,yA hb h2,yA hb h3,h4.trans (hb.mono h4.size)⟩
theorem Ck.rest {V w1:World} {P N:Nat} {v:Md.Vr} {vv:Value} (h:w1.cell? ⟨P,0,none⟩=some (.string v.name)/\w1.cell? ⟨P,1,none⟩=some (.int .i64 v.lo)/\w1.cell? ⟨P,2,none⟩=some (.int .i64 v.hi)/\w1.cell? ⟨N,0,none⟩=some vv/\Below V.heap.size V w1):Below V.heap.size V w1:=h.2.2.2.2
theorem yY {k1 k2:IntKind} {a b a' b':Int} (h:(a,b)=(a',b')):Ending.returned (.tuple #[.int k1 a,.int k2 b])=.returned (.tuple #[.int k1 a',.int k2 b']):=by
  injection h with h1 h2;rw [h1,h2]
theorem Kr {m:Md.Mo} (h:Md.fewB m.vars.length 32=true):Md.check m=(0,40):=by unfold Md.check;rw [if_pos h]
theorem y4B {m:Md.Mo} {i:Nat} (h:Md.fewB m.vars.length 32=false) (hi:i<m.vars.length) (hb:Md.vFault m.vars i≠0) (ha:∀ j,j<i->Md.vFault m.vars j=0):Md.check m=((i:Int),Md.vFault m.vars i):=by
  unfold Md.check;rw [if_neg (by simp [h]),Md.firstBad_some hi hb ha]
theorem Qd {m:Md.Mo} (h:Md.fewB m.vars.length 32=false) (ha:∀ j,j<m.vars.length->Md.vFault m.vars j=0) (hc:64<m.cons.length):Md.check m=((m.vars.length:Int),49):=by
  unfold Md.check;rw [if_neg (by simp [h]),Md.firstBad_none ha];simp only [hc,if_true]
theorem Qe {m:Md.Mo} {i:Nat} (h:Md.fewB m.vars.length 32=false) (ha:∀ j,j<m.vars.length->Md.vFault m.vars j=0) (hc:¬ 64<m.cons.length) (hi:i<m.cons.length) (hb:Md.cFault m.cons m.vars.length i≠0) (hp:∀ j,j<i->Md.cFault m.cons m.vars.length j=0):Md.check m=((m.vars.length:Int)+(i:Int),Md.cFault m.cons m.vars.length i):=by
  unfold Md.check;rw [if_neg (by simp [h]),Md.firstBad_none ha];simp only [hc,if_false,Md.firstBad_some hi hb hp]
theorem Qf {m:Md.Mo} (h:Md.fewB m.vars.length 32=false) (ha:∀ j,j<m.vars.length->Md.vFault m.vars j=0) (hc:¬ 64<m.cons.length) (hp:∀ j,j<m.cons.length->Md.cFault m.cons m.vars.length j=0) (hg:Md.goalFault m≠0):Md.check m=((m.vars.length:Int)+(m.cons.length:Int),Md.goalFault m):=by
  unfold Md.check;rw [if_neg (by simp [h]),Md.firstBad_none ha];simp only [hc,if_false,Md.firstBad_none hp,if_neg hg]
theorem Qg {m:Md.Mo} (h:Md.fewB m.vars.length 32=false) (ha:∀ j,j<m.vars.length->Md.vFault m.vars j=0) (hc:¬ 64<m.cons.length) (hp:∀ j,j<m.cons.length->Md.cFault m.cons m.vars.length j=0) (hg:Md.goalFault m=0):Md.check m=(0,0):=by
  unfold Md.check;rw [if_neg (by simp [h]),Md.firstBad_none ha];simp only [hc,if_false,Md.firstBad_none hp,if_pos hg]
theorem YE {f:Nat->Int} {k:Nat} (h:∀ j,j<k->f j=0) (hk:f k=0):∀ j,j<k+1->f j=0:=fun j hj=>by
  rcases Nat.lt_or_eq_of_le (Nat.le_of_lt_succ hj) with h1 | rfl
  · exact h j h1
  · exact hk
theorem y4C (m:Md.Mo) (vv vc vg:Value) (w:World) (h:MoAt w m vv vc vg):Calls Tryz.prog 60 #[yp m vv vc vg] w fun e w'=>e=.returned (.tuple #[.int .i64 (Md.check m).1,.int .i64 (Md.check m).2])/\Below w.heap.size w w':=by
  obtain ⟨W,hW⟩:∃ W,w.alloc (.cells #[vv,vc,.bool m.has,vg] 26)=W:=⟨_,rfl⟩;have hbW:Below w.heap.size w W:=bAe hW;have hN:W.heap[w.heap.size]?=some (.cells #[vv,vc,.bool m.has,vg] 26):=hAe hW;have HB:Hid (Below w.heap.size w W):=hbW;have HM:Hid (∀ w',Below W.heap.size W w'->MoAt w' m vv vc vg):=fun w' hb=>(h.below hbW).below hb
  have HN:Hid (∀ w',Below W.heap.size W w'->w'.heap[w.heap.size]?=some (.cells #[vv,vc,.bool m.has,vg] 26)):=fun w' hb=>(hb.block _ (hLt hN)).trans hN
  have HNL:Hid (w.heap.size<W.heap.size):=(hLt hN);obtain ⟨va,vp,rfl,hvm,hvn,hvo⟩:=id h.v;obtain ⟨ca,cp,rfl,hcm,hco⟩:=id h.c;obtain ⟨ga,gp,rfl,hgm⟩:=h.g.form;have hvcap:m.vars.length<=vp:=h.vcap _ _ _ rfl;unfold maxLen at hvm hcm hgm;have HVN:Hid (∀ x∈m.vars,x.name.size<=maxLen):=hvn;have HVO:Hid (0<m.vars.length->∃ b off,va=some ⟨b,off,none⟩/\b<w.heap.size/\∀ j (h:j<m.vars.length),w.cell? ⟨b,off+j * 3,none⟩=some (.string m.vars[j].name)/\w.cell? ⟨b,off+j * 3+1,none⟩=some (.int .i64 m.vars[j].lo)/\w.cell? ⟨b,off+j * 3+2,none⟩=some (.int .i64 m.vars[j].hi)):=hvo;have HCO:Hid (0<m.cons.length->∃ b off,ca=some ⟨b,off,none⟩/\b<w.heap.size/\∀ j (h:j<m.cons.length),∃ vt vx vb vr,CnAt w m.cons[j] vt vx vb vr/\CnCells w b (off+j * 10) m.cons[j] vt vx vb vr):=hco
  obtain ⟨⟨p0,p1,p2,p3⟩,_⟩:=box4 hN;unfold yp;clear h hbW hN hvn hvo hco
  by_cases hn0:m.vars.length=0
  · have hres:Hid (Md.check m=(0,40)):=Kr (by simp [Md.fewB,hn0])
    have h0I:((m.vars.length:Int)==0)=true:=by simp [hn0]
    clear hn0;go_enter Tryz.func60,Tryz.ntmps60;go_wp2;all_goals first
      | (go_ret2;exact ⟨yY hres.out.symm,HB.out⟩)
      | (exfalso;omega)
  by_cases hn1:32<m.vars.length
  · have hres:Hid (Md.check m=(0,40)):=Kr (by simp [Md.fewB,hn1])
    have h0I:((m.vars.length:Int)==0)=false:=by rw [beq_eq_false_iff_ne];omega
    have h1I:(32:Int)<(m.vars.length:Int):=by omega
    go_enter Tryz.func60,Tryz.ntmps60;go_wp2;all_goals first
      | (go_ret2;exact ⟨yY hres.out.symm,HB.out⟩)
      | (exfalso;omega)
  have HF:Hid (Md.fewB m.vars.length 32=false):=decide_eq_false (by omega);have h0I:((m.vars.length:Int)==0)=false:=by rw [beq_eq_false_iff_ne];omega
  have h1I:¬ (32:Int)<(m.vars.length:Int):=by omega
  go_enter Tryz.func60,Tryz.ntmps60;go_wp2;go_loopw [24] (fun iv wr=>∃ k:Nat,iv=.int .i64 (k:Int)/\k<=m.vars.length/\Hid (∀ j,j<k->Md.vFault m.vars j=0)/\Hid (Below W.heap.size W wr)) (fun iv _=>m.vars.length-(intOf iv).toNat)
  case atStart=>exact ⟨0,rfl,Nat.zero_le _,fun j h=>absurd h (Nat.not_lt_zero _),Below.refl _ _⟩
  case round=>
    obtain ⟨k,rfl,hk,hA,hR⟩:=hrel;clear p0 p1 p2 p3;obtain ⟨⟨p0,p1,p2,p3⟩,_⟩:=box4 (HN.out _ hR.out)
    by_cases hlt:k<m.vars.length
    · have hkI:(k:Int)<(m.vars.length:Int):=by omega
      obtain ⟨b,off,rfl,hb,hc⟩:=HVO.out (by omega);obtain ⟨d0,d1,d2⟩:=hc k hlt;have hbw:Below w.heap.size w wr:=HB.out.trans (hR.out.mono HB.out.size);have e0:=(hbw.cell (p:=⟨b,off+k * 3,none⟩) hb).trans d0;have e1:=(hbw.cell (p:=⟨b,off+k * 3+1,none⟩) hb).trans d1;have e2:=(hbw.cell (p:=⟨b,off+k * 3+2,none⟩) hb).trans d2;have HG:Hid (Md.vFault m.vars k=Md.varFault m.vars[k] (m.vars.take k)):=Md.vFault_get hlt;have HV:Hid ((m.vars[k]).name.size<=maxLen):=HVN.out _ (List.getElem_mem hlt);have hkc:k<=vp:=by omega
      have hkcI:(k:Int)<=(vp:Int):=by omega
      clear hc d0 d1 d2 hbw;generalize hx:m.vars[k]=v at *
      clear hx;obtain ⟨V,hV⟩:∃ V,wr.alloc (.cells #[.string v.name,.int .i64 v.lo,.int .i64 v.hi] 49)=V:=⟨_,rfl⟩;have hbV:Below wr.heap.size wr V:=bAe hV;have hsV:V.heap.size=wr.heap.size+1:=by rw [<-hV];simp
      have q0:V.cell? ⟨wr.heap.size,0,none⟩=some (.string v.name):=by rw [<-hV];simp
      have q1:V.cell? ⟨wr.heap.size,1,none⟩=some (.int .i64 v.lo):=by rw [<-hV];simp
      have q2:V.cell? ⟨wr.heap.size,2,none⟩=some (.int .i64 v.hi):=by rw [<-hV];simp
      have q3:=yA hbV p0;have HRV:Hid (Below W.heap.size W V):=hR.out.trans (hbV.mono hR.out.size);have hS0:Hid (V.cell? ⟨wr.heap.size,0,none⟩=some (.string v.name)/\V.cell? ⟨wr.heap.size,1,none⟩=some (.int .i64 v.lo)/\V.cell? ⟨wr.heap.size,2,none⟩=some (.int .i64 v.hi)/\V.cell? ⟨w.heap.size,0,none⟩=some (.slice (some ⟨b,off,none⟩) m.vars.length vp)/\Below V.heap.size V V):=⟨q0,q1,q2,q3,Below.refl _ _⟩;have H39:Hid (∀ w',Below V.heap.size V w'->Calls Tryz.prog 75 #[.agg #[.string v.name,.int .i64 v.lo,.int .i64 v.hi],.slice (some ⟨b,off,none⟩) k vp] w' fun e w''=>e=.returned (.int .i64 (Md.varFault v (m.vars.take k)))/\Below w'.heap.size w' w''):=fun w' hb'=>
        y4z v _ (m.vars.take k) w' HV.out (VarsAt.part (HM.out _ (HRV.out.trans (hb'.mono HRV.out.size))).v k vp (Nat.le_of_lt hlt))
      obtain ⟨r,hr⟩:∃ r,Md.varFault v (m.vars.take k)=r:=⟨_,rfl⟩;have HGR:Hid (Md.vFault m.vars k=r):=HG.out.trans hr;rw [hr] at H39;clear hbV hsV hr HG q0 q1 q2 q3
      by_cases hz:r=0
      · subst hz
        go_wp2_with fail
        go_region_held3 (fun w'=>w'.cell? ⟨wr.heap.size,0,none⟩=some (.string v.name)/\w'.cell? ⟨wr.heap.size,1,none⟩=some (.int .i64 v.lo)/\w'.cell? ⟨wr.heap.size,2,none⟩=some (.int .i64 v.hi)/\w'.cell? ⟨w.heap.size,0,none⟩=some (.slice (some ⟨b,off,none⟩) m.vars.length vp)/\Below V.heap.size V w')
          (first | exact Ck.next hS0.out (Below.refl _ _).drew | exact Ck.next (by assumption) (by assumption) | assumption)
          (first | (go_at_call 75;refine mcA (H39.out _ (Ck.rest (by assumption))) ?_;rintro e w' ⟨rfl,hb⟩))
        rename_i hHeld
        have hfin:=Ck.rest hHeld;have HFIN:Hid (Below W.heap.size W _):=HRV.out.trans (hfin.mono HRV.out.size);clear hHeld hfin;go_wp2_with fail
        go_roundw
        case rel=>exact ⟨k+1,by go_num,by omega,YE hA.out HGR.out,HFIN⟩
        case measure=>simp [intOf];omega
      · have hzB:(r != 0)=true:=by simpa using hz
        have hres:Hid (Md.check m=((k:Int),r)):=by show _=_;rw [<-HGR.out];exact y4B HF.out hlt (by rw [HGR.out];exact hz) hA.out
        go_wp2_with fail
        go_region_held3 (fun w'=>w'.cell? ⟨wr.heap.size,0,none⟩=some (.string v.name)/\w'.cell? ⟨wr.heap.size,1,none⟩=some (.int .i64 v.lo)/\w'.cell? ⟨wr.heap.size,2,none⟩=some (.int .i64 v.hi)/\w'.cell? ⟨w.heap.size,0,none⟩=some (.slice (some ⟨b,off,none⟩) m.vars.length vp)/\Below V.heap.size V w')
          (first | exact Ck.next hS0.out (Below.refl _ _).drew | exact Ck.next (by assumption) (by assumption) | assumption)
          (first | (go_at_call 75;refine mcA (H39.out _ (Ck.rest (by assumption))) ?_;rintro e w' ⟨rfl,hb⟩))
        rename_i hHeld
        have hfin:=Ck.rest hHeld;have HFIN:Hid (Below W.heap.size W _):=HRV.out.trans (hfin.mono HRV.out.size);clear hHeld hfin;go_wp2_with fail
        go_ret2;exact ⟨yY hres.out.symm,HB.out.trans (HFIN.out.mono HB.out.size)⟩
    · have hkI:¬ (k:Int)<(m.vars.length:Int):=by omega
      have HAll:Hid (∀ j,j<m.vars.length->Md.vFault m.vars j=0):=fun j hj=>hA.out j (by omega)
      rename World=>wk
      by_cases hc64:64<m.cons.length
      · have hcI:(64:Int)<(m.cons.length:Int):=by omega
        have hres:Hid (Md.check m=((m.vars.length:Int),49)):=Qd HF.out HAll.out hc64;go_wp2_with fail
        go_ret2;exact ⟨yY hres.out.symm,HB.out.trans (hR.out.mono HB.out.size)⟩
      have hcI:¬ (64:Int)<(m.cons.length:Int):=by omega
      go_wp2_with fail
      go_loopw [48] (fun iv wr=>∃ k:Nat,iv=.int .i64 (k:Int)/\k<=m.cons.length/\Hid (∀ j,j<k->Md.cFault m.cons m.vars.length j=0)/\Hid (Below W.heap.size W wr)) (fun iv _=>m.cons.length-(intOf iv).toNat)
      case atStart=>exact ⟨0,rfl,Nat.zero_le _,fun j h=>absurd h (Nat.not_lt_zero _),hR⟩
      case round=>
        obtain ⟨i,rfl,hi,hP,hT⟩:=hrel;clear p0 p1 p2 p3;obtain ⟨⟨p0,p1,p2,p3⟩,_⟩:=box4 (HN.out _ hT.out)
        by_cases hit:i<m.cons.length
        · have hiI:(i:Int)<(m.cons.length:Int):=by omega
          obtain ⟨b,off,rfl,hb,hc⟩:=HCO.out (by omega);obtain ⟨vt,vx,vb,vr,hcn,hcl⟩:=hc i hit;have hbw:Below w.heap.size w wr:=HB.out.trans (hT.out.mono HB.out.size);obtain ⟨e0,e1,e2,e3,e4,e5,e6,e7,e8,e9⟩:=hcl.below hbw;have HCN:Hid (CnAt wr m.cons[i] vt vx vb vr):=hcn.below hbw;have HG:Hid (Md.cFault m.cons m.vars.length i=Md.fault m.cons[i] m.vars.length):=Md.cFault_get hit;obtain ⟨ta,tc,rfl,_⟩:=hcn.t.form;obtain ⟨xa,xc,rfl,_⟩:=hcn.x.form;obtain ⟨ba,bc,rfl,_⟩:=hcn.b.form;obtain ⟨ra,rc,rfl,_⟩:=hcn.r.form;clear hc hcn hcl hbw;generalize hx:m.cons[i]=c at *
          clear hx;obtain ⟨V,hV⟩:∃ V,wr.alloc (.cells #[.int .i64 c.kind,.int .i64 c.op,.slice ta c.terms.length tc,.int .i64 c.k,.int .i64 c.v,.int .i64 c.x,.int .i64 c.y,.slice xa c.xs.length xc,.slice ba c.table.length bc,.slice ra c.rows.length rc] 51)=V:=⟨_,rfl⟩;have hbV:Below wr.heap.size wr V:=bAe hV;have hNV:V.heap[wr.heap.size]?=some (.cells #[.int .i64 c.kind,.int .i64 c.op,.slice ta c.terms.length tc,.int .i64 c.k,.int .i64 c.v,.int .i64 c.x,.int .i64 c.y,.slice xa c.xs.length xc,.slice ba c.table.length bc,.slice ra c.rows.length rc] 51):=hAe hV;obtain ⟨⟨q0,q1,q2,q3,q4,q5,q6,q7,q8,q9⟩,_⟩:=xG hNV;have HTV:Hid (Below W.heap.size W V):=hT.out.trans (hbV.mono hT.out.size);obtain ⟨r,hr⟩:∃ r,Md.fault c m.vars.length=r:=⟨_,rfl⟩;have HGR:Hid (Md.cFault m.cons m.vars.length i=r):=HG.out.trans hr
          have H40:Hid (Calls Tryz.prog 74 #[yh c (.slice ta c.terms.length tc) (.slice xa c.xs.length xc) (.slice ba c.table.length bc) (.slice ra c.rows.length rc),.int .i64 (m.vars.length:Int)] V fun e w'=>e=.returned (.int .i64 r)/\Below V.heap.size V w'):=by rw [<-hr];exact QX c _ _ _ _ (m.vars.length:Int) V (HCN.out.below hbV)
          unfold yh at H40;clear hbV hNV hr HG HCN
          by_cases hz:r=0
          · subst hz
            go_wp2_with (go_at_call 74;refine mcA H40.out ?_;rintro e w2 ⟨rfl,hb2⟩;have HF2:Hid (Below W.heap.size W w2):=HTV.out.trans (hb2.mono HTV.out.size);clear hb2);go_roundw
            case rel=>exact ⟨i+1,by go_num,by omega,YE hP.out HGR.out,HF2⟩
            case measure=>simp [intOf];omega
          · have hzB:(r != 0)=true:=by simpa using hz
            have hres:Hid (Md.check m=((m.vars.length:Int)+(i:Int),r)):=by show _=_;rw [<-HGR.out];exact Qe HF.out HAll.out hc64 hit (by rw [HGR.out];exact hz) hP.out
            go_wp2_with (go_at_call 74;refine mcA H40.out ?_;rintro e w2 ⟨rfl,hb2⟩;have HF2:Hid (Below W.heap.size W w2):=HTV.out.trans (hb2.mono HTV.out.size);clear hb2);go_ret2;exact ⟨yY hres.out.symm,HB.out.trans (HF2.out.mono HB.out.size)⟩
        · have hiI:¬ (i:Int)<(m.cons.length:Int):=by omega
          have HCl:Hid (∀ j,j<m.cons.length->Md.cFault m.cons m.vars.length j=0):=fun j hj=>hP.out j (by omega)
          obtain ⟨r,hr⟩:∃ r,Md.goalFault m=r:=⟨_,rfl⟩;have HGR:Hid (Md.goalFault m=r):=hr;have H41:Hid (Calls Tryz.prog 76 #[yp m (.slice va m.vars.length vp) (.slice ca m.cons.length cp) (.slice ga m.goal.length gp)] wr fun e w'=>e=.returned (.int .i64 r)/\Below wr.heap.size wr w'):=by rw [<-hr];exact y4A m _ _ _ wr (HM.out _ hT.out)
          unfold yp at H41;clear hr
          by_cases hz:r=0
          · subst hz
            have hres:Hid (Md.check m=(0,0)):=Qg HF.out HAll.out hc64 HCl.out HGR.out;go_wp2_with (go_at_call 76;refine mcA H41.out ?_;rintro e w2 ⟨rfl,hb2⟩;have HF2:Hid (Below W.heap.size W w2):=hT.out.trans (hb2.mono hT.out.size);clear hb2);go_ret2;exact ⟨yY hres.out.symm,HB.out.trans (HF2.out.mono HB.out.size)⟩
          · have hzB:(r != 0)=true:=by simpa using hz
            have hres:Hid (Md.check m=((m.vars.length:Int)+(m.cons.length:Int),r)):=by show _=_;rw [<-HGR.out];exact Qf HF.out HAll.out hc64 HCl.out (by rw [HGR.out];exact hz)
            go_wp2_with (go_at_call 76;refine mcA H41.out ?_;rintro e w2 ⟨rfl,hb2⟩;have HF2:Hid (Below W.heap.size W w2):=hT.out.trans (hb2.mono hT.out.size);clear hb2;clear p0 p1 p2 p3;obtain ⟨⟨p0,p1,p2,p3⟩,_⟩:=box4 (HN.out _ HF2.out));go_ret2;exact ⟨yY hres.out.symm,HB.out.trans (HF2.out.mono HB.out.size)⟩
end Go.Proofs.YtjgghimjnbjlbaaGreatDoor

namespace Go.Proofs.YtjgghimjnbjlbaaGreatDoor.Doc
open Go.RowKit
set_option maxRecDepth 10000
set_option maxHeartbeats 8000000
theorem Yi (n:Int) (w:World):Calls Tryz.prog 200 #[.int .u8 n] w fun e w'=>e=.returned (.bool (Md.ltrI n))/\w'=w:=by
  go_enter Tryz.func200,Tryz.ntmps200;go_wp2
  all_goals
    go_ret;refine ⟨yk ?_,rfl⟩;unfold Md.ltrI;rw [Bool.eq_iff_iff]
    simp <;> omega
theorem Qc (lo hi:Int) (w:World):Calls Tryz.prog 156 #[.int .i64 lo,.int .i64 hi] w fun e w'=>e=.returned (.bool (Md.boundsB lo hi))/\w'=w:=by
  cases h1:Md.numB lo
  · have hres:Hid (Md.boundsB lo hi=false):=by show _=_;simp [Md.boundsB,h1]
    go_enter Tryz.func156,Tryz.ntmps156;go_wp2_with (go_at_call 201;refine (YF _ _).mono ?_;rintro e w' ⟨rfl,rfl⟩);go_ret;exact ⟨yk hres.out.symm,rfl⟩
  cases h2:Md.numB hi
  · have hres:Hid (Md.boundsB lo hi=false):=by show _=_;simp [Md.boundsB,h2]
    go_enter Tryz.func156,Tryz.ntmps156;go_wp2_with (go_at_call 201;refine (YF _ _).mono ?_;rintro e w' ⟨rfl,rfl⟩);go_ret;exact ⟨yk hres.out.symm,rfl⟩
  have hres:Hid (Md.boundsB lo hi=decide (lo<=hi/\hi-lo<64)):=by show _=_;simp [Md.boundsB,h1,h2]
  have a1:-1000000000<=lo/\lo<=1000000000:=by simpa [Md.numB] using h1
  have a2:-1000000000<=hi/\hi<=1000000000:=by simpa [Md.numB] using h2
  obtain ⟨a3,a4⟩:=a1;obtain ⟨a5,a6⟩:=a2;go_enter Tryz.func156,Tryz.ntmps156;go_wp2_with (go_at_call 201;refine (YF _ _).mono ?_;rintro e w' ⟨rfl,rfl⟩)
  all_goals
    go_ret;refine ⟨yk ?_,rfl⟩;rw [hres.out,Bool.eq_iff_iff]
    simp <;> omega
end Go.Proofs.YtjgghimjnbjlbaaGreatDoor.Doc

namespace Go.Proofs.YtjgghimjnbjlbaaGreatDoor.Doc
open Go.RowKit
set_option maxRecDepth 10000
set_option maxHeartbeats 8000000
theorem y29 {n:Int} (h:Md.ltrI n=true):Md.digI n=false:=by
  simp [Md.ltrI,Md.digI] at *;omega
theorem y2a {s:ByteArray} (h1:0<s.size) (h:Md.ltrI ((s[0]).toNat:Int)=false):Md.nameB s.data.toList=false:=by
  cases hd:Md.digI ((s[0]).toNat:Int)
  · exact Zt h1 (by simp [Md.wordB,Md.byteI,h,hd])
  · exact Q8 h1 hd
theorem Q9 (s:ByteArray) (w:World) (hs:s.size<=maxLen):Calls Tryz.prog 155 #[.string s] w fun e w'=>e=.returned (.bool (Md.nameB s.data.toList))/\w'=w:=by
  unfold maxLen at hs
  by_cases h0:s.size<1
  · have hres:Hid (Md.nameB s.data.toList=false):=YD (.inl h0)
    have h0I:(s.size:Int)<1:=by omega
    go_enter Tryz.func155,Tryz.ntmps155;go_wp2;go_ret;exact ⟨yk hres.out.symm,rfl⟩
  have h0I:¬ (s.size:Int)<1:=by omega
  by_cases h1:16<s.size
  · have hres:Hid (Md.nameB s.data.toList=false):=YD (.inr h1)
    have hI:(16:Int)<(s.size:Int):=by omega
    go_enter Tryz.func155,Tryz.ntmps155;go_wp2;go_ret;exact ⟨yk hres.out.symm,rfl⟩
  have hI:¬ (16:Int)<(s.size:Int):=by omega
  have h00:0<s.size:=by omega
  have hI0:(0:Int)<(s.size:Int):=by omega
  cases hd:Md.ltrI ((s[0]).toNat:Int)
  · have hres:Hid (Md.nameB s.data.toList=false):=y2a h00 hd
    go_enter Tryz.func155,Tryz.ntmps155;go_wp2_with (go_at_call 200;refine (Yi _ _).mono ?_;rintro e w' ⟨rfl,hww⟩;rw [hww]);go_ret;exact ⟨yk hres.out.symm,rfl⟩
  have HD:Hid (Md.digI ((s[0]).toNat:Int)=false):=y29 hd;have H1:Hid ((s.data.toList.take 1).all Md.wordB=true):=Yj h00 (by simp) (by simp [Md.wordB,Md.byteI,hd]);go_enter Tryz.func155,Tryz.ntmps155;go_wp2_with (go_at_call 200;refine (Yi _ _).mono ?_;rintro e w' ⟨rfl,hww⟩;rw [hww]);clear hd;go_loop [3] (fun iv=>∃ k:Nat,iv=.int .i64 (k:Int)/\k<=s.size/\Hid ((s.data.toList.take k).all Md.wordB=true)) (fun iv=>s.size-(intOf iv).toNat)
  case atStart=>exact ⟨1,rfl,h00,H1⟩
  case round=>
    obtain ⟨k,rfl,hk,hA⟩:=hrel
    by_cases hlt:k<s.size
    · have hkI:(k:Int)<(s.size:Int):=by omega
      cases hL:Md.ltrI ((s[k]).toNat:Int)
      · cases hG:Md.digI ((s[k]).toNat:Int)
        · have hres:Hid (Md.nameB s.data.toList=false):=Zt hlt (by simp [Md.wordB,Md.byteI,hL,hG])
          have hG':¬ (48<=((s[k]).toNat:Int)/\((s[k]).toNat:Int)<=57):=by simpa [Md.digI] using hG
          clear hG;go_wp2_with (go_at_call 200;refine (Yi _ _).mono ?_;rintro e w' ⟨rfl,hww⟩;rw [hww]);all_goals first
            | (go_ret;exact ⟨yk hres.out.symm,rfl⟩)
            | (exfalso;omega)
        · have hnx:Hid ((s.data.toList.take (k+1)).all Md.wordB=true):=Yj hlt hA.out (by simp [Md.wordB,Md.byteI,hG])
          obtain ⟨g1,g2⟩:48<=((s[k]).toNat:Int)/\((s[k]).toNat:Int)<=57:=by simpa [Md.digI] using hG
          have g3:¬ ((s[k]).toNat:Int)<48:=by omega
          have g4:¬ 57<((s[k]).toNat:Int):=by omega
          clear hG;go_wp2_with (go_at_call 200;refine (Yi _ _).mono ?_;rintro e w' ⟨rfl,hww⟩;rw [hww]);all_goals first
            | (go_round;(case rel=>exact ⟨k+1,by go_num,by omega,hnx⟩);(case measure=>simp [intOf];omega))
            | (exfalso;omega)
      · have hnx:Hid ((s.data.toList.take (k+1)).all Md.wordB=true):=Yj hlt hA.out (by simp [Md.wordB,Md.byteI,hL])
        go_wp2_with (go_at_call 200;refine (Yi _ _).mono ?_;rintro e w' ⟨rfl,hww⟩;rw [hww]);go_round
        case rel=>exact ⟨k+1,by go_num,by omega,hnx⟩
        case measure=>simp [intOf];omega
    · have hkI:¬ (k:Int)<(s.size:Int):=by omega
      have hres:Hid (Md.nameB s.data.toList=true):=Qa h00 (by omega) HD.out hA.out (by omega);go_wp2_with fail
      go_ret;exact ⟨yk hres.out.symm,rfl⟩
def yP (l:List Md.Vr):Int × Int:=
  if Md.fewB l.length 32 then (0,40) else match Md.firstBad l.length (Md.vFault l) with | some i=>((i:Int),Md.vFault l i) | none=>(0,0)
theorem Qb {l:List Md.Vr} (h:Md.fewB l.length 32=true):yP l=(0,40):=by unfold yP;rw [if_pos h]
theorem y2b {l:List Md.Vr} {i:Nat} (h:Md.fewB l.length 32=false) (hi:i<l.length) (hb:Md.vFault l i≠0) (ha:∀ j,j<i->Md.vFault l j=0):yP l=((i:Int),Md.vFault l i):=by
  unfold yP;rw [if_neg (by simp [h]),Md.firstBad_some hi hb ha]
theorem y2c {l:List Md.Vr} (h:Md.fewB l.length 32=false) (ha:∀ j,j<l.length->Md.vFault l j=0):yP l=(0,0):=by
  unfold yP;rw [if_neg (by simp [h]),Md.firstBad_none ha]
theorem y2d (va:Value) (l:List Md.Vr) (w:World) (h:VarsAt w va l):Calls Tryz.prog 89 #[va] w fun e w'=>e=.returned (.tuple #[.int .i64 (yP l).1,.int .i64 (yP l).2])/\Below w.heap.size w w':=by
  obtain ⟨a,cap,rfl,hm,hn,hc⟩:=h;unfold maxLen at hm;have HNM:Hid (∀ x∈l,x.name.size<=maxLen):=hn;have HC:Hid (0<l.length->∃ b off,a=some ⟨b,off,none⟩/\b<w.heap.size/\∀ j (h:j<l.length),w.cell? ⟨b,off+j * 3,none⟩=some (.string l[j].name)/\w.cell? ⟨b,off+j * 3+1,none⟩=some (.int .i64 l[j].lo)/\w.cell? ⟨b,off+j * 3+2,none⟩=some (.int .i64 l[j].hi)):=hc;clear hn hc
  by_cases hn0:l.length<1
  · have hres:Hid (yP l=(0,40)):=Qb (decide_eq_true (.inl hn0))
    have hI:(l.length:Int)<1:=by omega
    go_enter Tryz.func89,Tryz.ntmps89;go_wp2;go_ret2;exact ⟨yY hres.out.symm,Below.refl _ _⟩
  have hI0:¬ (l.length:Int)<1:=by omega
  by_cases hn1:32<l.length
  · have hres:Hid (yP l=(0,40)):=Qb (decide_eq_true (.inr hn1))
    have hI:(32:Int)<(l.length:Int):=by omega
    go_enter Tryz.func89,Tryz.ntmps89;go_wp2;go_ret2;exact ⟨yY hres.out.symm,Below.refl _ _⟩
  have hI1:¬ (32:Int)<(l.length:Int):=by omega
  have HF:Hid (Md.fewB l.length 32=false):=decide_eq_false (by omega);go_enter Tryz.func89,Tryz.ntmps89;go_wp2;go_loopw [4] (fun iv wr=>∃ k:Nat,iv=.int .i64 (k:Int)/\k<=l.length/\Hid (∀ j,j<k->Md.vFault l j=0)/\Hid (Below w.heap.size w wr)) (fun iv _=>l.length-(intOf iv).toNat)
  case atStart=>exact ⟨0,rfl,Nat.zero_le _,fun j h=>absurd h (Nat.not_lt_zero _),Below.refl _ _⟩
  case round=>
    obtain ⟨k,rfl,hk,hA,hR⟩:=hrel;rename World=>wk
    by_cases hlt:k<l.length
    · have hkI:(k:Int)<(l.length:Int):=by omega
      obtain ⟨b,off,rfl,hb,hc⟩:=HC.out (by omega);obtain ⟨d0,d1,d2⟩:=hc k hlt;have HD0:Hid (w.cell? ⟨b,off+k * 3,none⟩=some (.string l[k].name)):=d0;have HD1:Hid (w.cell? ⟨b,off+k * 3+1,none⟩=some (.int .i64 l[k].lo)):=d1;have HD2:Hid (w.cell? ⟨b,off+k * 3+2,none⟩=some (.int .i64 l[k].hi)):=d2;have e0:=(hR.out.cell (p:=⟨b,off+k * 3,none⟩) hb).trans d0;have HG:Hid (Md.vFault l k=Md.varFault l[k] (l.take k)):=Md.vFault_get hlt;have HV:Hid ((l[k]).name.size<=maxLen):=HNM.out _ (List.getElem_mem hlt);have HCJ:Hid (∀ j,(h:j<l.length)->w.cell? ⟨b,off+j * 3,none⟩=some (.string l[j].name)):=fun j h=>(hc j h).1
      clear hc d0 d1 d2;generalize hv:l[k]=v at *
      clear hv;have HBad:Hid (∀ r,Md.varFault v (l.take k)=r->r≠0->yP l=((k:Int),r)):=fun r hr h0=>by
        have:=y2b HF.out hlt (by rw [HG.out,hr];exact h0) hA.out;rw [HG.out,hr] at this;exact this
      cases h1:Md.nameB v.name.data.toList
      · have hres:Hid (yP l=((k:Int),41)):=HBad.out 41 (by simp [Md.varFault,h1]) (by decide)
        go_wp2_with (go_at_call 155;refine (Q9 _ _ HV.out).mono ?_;rintro e w' ⟨rfl,hww⟩;rw [hww]);go_ret2;exact ⟨yY hres.out.symm,hR.out⟩
      have H1:Hid (Md.nameB v.name.data.toList=true):=h1;go_wp2_with (go_at_call 155;refine (Q9 _ _ HV.out).mono ?_;rintro e w' ⟨rfl,hww⟩;rw [hww];clear hww);clear h1;go_loopw [5] (fun iv wr=>∃ i:Nat,iv=.int .i64 (i:Int)/\i<=k/\Hid (Md.seenB (l.take i) v.name=false)/\Hid (Below w.heap.size w wr)) (fun iv _=>k-(intOf iv).toNat)
      case atStart=>exact ⟨0,rfl,Nat.zero_le _,(show _=_ by simp [Md.seenB]),hR⟩
      case round=>
        obtain ⟨i,rfl,hi,hS,hT⟩:=hrel;clear e0
        by_cases hik:i<k
        · have hiI:(i:Int)<(k:Int):=by omega
          have hiL:(i:Int)<(l.length:Int):=by omega
          have hil:i<l.length:=by omega
          have g0:=(hT.out.cell (p:=⟨b,off+k * 3,none⟩) hb).trans HD0.out;have g1:=(hT.out.cell (p:=⟨b,off+i * 3,none⟩) hb).trans (HCJ.out i hil)
          cases hp:(l[i].name.toList==v.name.toList)
          · have hnx:Hid (Md.seenB (l.take (i+1)) v.name=false):=Md.seen_next hil hS.out hp
            generalize l[i]=u at *
            go_wp2_with fail
            go_quiet (fail)
            go_wp2;go_roundw
            case rel=>exact ⟨i+1,by go_num,by omega,hnx,below_drewN hT.out _⟩
            case measure=>simp [intOf];omega
          · have hsn:Md.seenB (l.take k) v.name=true:=by
              unfold Md.seenB;refine Md.any_stop (k:=i) (by simp;omega) ?_;rw [List.getElem_take];exact hp
            have hres:Hid (yP l=((k:Int),41)):=HBad.out 41 (by simp [Md.varFault,hsn]) (by decide);clear hsn;generalize l[i]=u at *
            go_wp2_with fail
            go_quiet (fail)
            go_wp2;go_ret2;exact ⟨yY hres.out.symm,below_drewN hT.out _⟩
        · have hiI:¬ (i:Int)<(k:Int):=by omega
          have hik':i=k:=by omega
          have HS:Hid (Md.seenB (l.take k) v.name=false):=by have:=hS.out;rw [hik'] at this;exact this
          have g1:=(hT.out.cell (p:=⟨b,off+k * 3+1,none⟩) hb).trans HD1.out;have g2:=(hT.out.cell (p:=⟨b,off+k * 3+2,none⟩) hb).trans HD2.out;clear hik';rename World=>wi
          cases hb2:Md.boundsB v.lo v.hi
          · have hres:Hid (yP l=((k:Int),42)):=HBad.out 42 (by simp [Md.varFault,H1.out,HS.out,hb2]) (by decide)
            go_wp2_with fail
            go_quiet ((go_at_call 156;exact Calls.quiet_of_same (Qc _ _ _)));go_wp2;go_ret2;exact ⟨yY hres.out.symm,below_drewN hT.out _⟩
          · have hz:Hid (Md.vFault l k=0):=by show _=_;rw [HG.out];simp [Md.varFault,H1.out,HS.out,hb2]
            go_wp2_with fail
            go_quiet ((go_at_call 156;exact Calls.quiet_of_same (Qc _ _ _)));go_wp2;go_roundw
            case rel=>exact ⟨k+1,by go_num,by omega,YE hA.out hz.out,below_drewN hT.out _⟩
            case measure=>simp [intOf];omega
    · have hkI:¬ (k:Int)<(l.length:Int):=by omega
      have hres:Hid (yP l=(0,0)):=y2c HF.out (fun j hj=>hA.out j (by omega));go_wp2_with fail
      go_ret2;exact ⟨yY hres.out.symm,hR.out⟩
end Go.Proofs.YtjgghimjnbjlbaaGreatDoor.Doc

namespace Go.Proofs.YtjgghimjnbjlbaaGreatDoor.Doc
open Go.RowKit
set_option maxRecDepth 10000
set_option maxHeartbeats 8000000
theorem y2e {m:Md.Mo} (h:(yP m.vars).2≠0):Md.check m=yP m.vars:=by
  unfold Md.check;unfold yP at h ⊢
  split
  · rfl
  · rename_i h1
    rw [if_neg h1] at h
    split
    · rename_i i hi
      rw [hi]
    · rename_i hi
      rw [hi] at h;exact absurd rfl h
theorem y2f {l:List Md.Vr} (h:(yP l).2=0):Md.fewB l.length 32=false/\∀ j,j<l.length->Md.vFault l j=0:=by
  unfold yP at h
  split at h
  · cases h
  rename_i h1
  refine ⟨by simpa using h1,?_⟩
  split at h
  · rename_i i hi
    unfold Md.firstBad at hi;have:=List.find?_some hi;simp at this;exact absurd h this
  · rename_i hi
    exact Md.firstBad_none_iff hi
theorem y2g {m:Md.Mo} (h1:m.has=true) (h2:Md.fewB m.goal.length 64=false):Md.goalFault m=yx m.goal m.vars.length:=by
  unfold yx
  cases h3:(m.goal.all fun t=>Md.plB m.vars.length t.2)
  · rw [gf_d h1 h2 h3];rfl
  · cases h4:Md.coefsB m.goal
    · rw [gf_e h1 h2 h3 h4];rfl
    · rw [gf_f h1 h2 h3 h4];rfl
theorem y0t (m:Md.Mo) (vv vc vg:Value) (w:World) (h:MoAt w m vv vc vg):Calls Tryz.prog 73 #[yp m vv vc vg] w fun e w'=>e=.returned (.tuple #[.int .i64 (Md.check m).1,.int .i64 (Md.check m).2])/\Below w.heap.size w w':=by
  obtain ⟨W,hW⟩:∃ W,w.alloc (.cells #[vv,vc,.bool m.has,vg] 26)=W:=⟨_,rfl⟩;have hbW:Below w.heap.size w W:=bAe hW;have hN:W.heap[w.heap.size]?=some (.cells #[vv,vc,.bool m.has,vg] 26):=hAe hW;have HB:Hid (Below w.heap.size w W):=hbW;have HM:Hid (∀ w',Below W.heap.size W w'->MoAt w' m vv vc vg):=fun w' hb=>(h.below hbW).below hb
  have HN:Hid (∀ w',Below W.heap.size W w'->w'.heap[w.heap.size]?=some (.cells #[vv,vc,.bool m.has,vg] 26)):=fun w' hb=>(hb.block _ (hLt hN)).trans hN
  have HNL:Hid (w.heap.size<W.heap.size):=(hLt hN);obtain ⟨va,vp,rfl,hvm⟩:=h.v.form;obtain ⟨ca,cp,rfl,hcm⟩:=h.c.form;obtain ⟨ga,gp,rfl,hgm⟩:=h.g.form;unfold maxLen at hvm hcm hgm;obtain ⟨⟨p0,p1,p2,p3⟩,_⟩:=box4 hN;obtain ⟨a',c',hce,_,hco⟩:=id h.c;injection hce with e1 e2 e3;subst e1 e3;have HCO:Hid (0<m.cons.length->∃ b off,ca=some ⟨b,off,none⟩/\b<w.heap.size/\∀ j (h:j<m.cons.length),∃ vt vx vb vr,CnAt w m.cons[j] vt vx vb vr/\CnCells w b (off+j * 10) m.cons[j] vt vx vb vr):=hco;obtain ⟨r1,hr1⟩:∃ r,(yP m.vars).1=r:=⟨_,rfl⟩;obtain ⟨r2,hr2⟩:∃ r,(yP m.vars).2=r:=⟨_,rfl⟩
  have H34:Hid (Calls Tryz.prog 89 #[.slice va m.vars.length vp] W fun e w'=>e=.returned (.tuple #[.int .i64 r1,.int .i64 r2])/\Below W.heap.size W w'):=by rw [<-hr1,<-hr2];exact y2d _ m.vars W (HM.out W (Below.refl _ _)).v
  have HE:Hid (yP m.vars=(r1,r2)):=by show _=_;rw [<-hr1,<-hr2]
  unfold yp;clear h hbW hN hco hr1 hr2 e2
  by_cases hz:r2=0
  rotate_left
  · have hres:Hid (Md.check m=(r1,r2)):=by show _=_;rw [<-HE.out];exact y2e (by rw [HE.out];exact hz)
    have hzB:(r2 != 0)=true:=by simpa using hz
    go_enter Tryz.func73,Tryz.ntmps73;go_wp2_with (go_at_call 89;refine mcA H34.out ?_;rintro e w1 ⟨rfl,hb1⟩);go_ret2;exact ⟨yY hres.out.symm,HB.out.trans (hb1.mono HB.out.size)⟩
  subst hz;have HZ:Hid (Md.fewB m.vars.length 32=false/\∀ j,j<m.vars.length->Md.vFault m.vars j=0):=y2f (by rw [HE.out]);clear HE;have hv32:m.vars.length<=32:=by
    have:=of_decide_eq_false HZ.out.1;omega
  have hv32I:(m.vars.length:Int)<=32:=by omega
  by_cases hc64:64<m.cons.length
  · have hcI:(64:Int)<(m.cons.length:Int):=by omega
    have hres:Hid (Md.check m=((m.vars.length:Int),49)):=Qd HZ.out.1 HZ.out.2 hc64;go_enter Tryz.func73,Tryz.ntmps73;go_wp2_with (go_at_call 89;refine mcA H34.out ?_;rintro e w1 ⟨rfl,hb1⟩;have HB1:Hid (Below W.heap.size W w1):=hb1;clear hb1 p0 p1 p2 p3;obtain ⟨⟨p0,p1,p2,p3⟩,_⟩:=box4 (HN.out _ HB1.out));go_ret2;exact ⟨yY hres.out.symm,HB.out.trans (HB1.out.mono HB.out.size)⟩
  have hcI:¬ (64:Int)<(m.cons.length:Int):=by omega
  go_enter Tryz.func73,Tryz.ntmps73;go_wp2_with (go_at_call 89;refine mcA H34.out ?_;rintro e w1 ⟨rfl,hb1⟩;have HB1:Hid (Below W.heap.size W w1):=hb1;clear hb1 p0 p1 p2 p3;obtain ⟨⟨p0,p1,p2,p3⟩,_⟩:=box4 (HN.out _ HB1.out));go_loopw [7] (fun iv wr=>∃ k:Nat,iv=.int .i64 (k:Int)/\k<=m.cons.length/\Hid (∀ j,j<k->Md.cFault m.cons m.vars.length j=0)/\Hid (Below W.heap.size W wr)) (fun iv _=>m.cons.length-(intOf iv).toNat)
  case atStart=>exact ⟨0,rfl,Nat.zero_le _,fun j h=>absurd h (Nat.not_lt_zero _),HB1⟩
  case round=>
    obtain ⟨i,rfl,hi,hP,hT⟩:=hrel;clear p0 p1 p2 p3;obtain ⟨⟨p0,p1,p2,p3⟩,_⟩:=box4 (HN.out _ hT.out)
    by_cases hit:i<m.cons.length
    · have hiI:(i:Int)<(m.cons.length:Int):=by omega
      obtain ⟨b,off,rfl,hb,hc⟩:=HCO.out (by omega);obtain ⟨vt,vx,vb,vr,hcn,hcl⟩:=hc i hit;have hbw:Below w.heap.size w wr:=HB.out.trans (hT.out.mono HB.out.size);obtain ⟨e0,e1,e2,e3,e4,e5,e6,e7,e8,e9⟩:=hcl.below hbw;have HCN:Hid (CnAt wr m.cons[i] vt vx vb vr):=hcn.below hbw;have HG:Hid (Md.cFault m.cons m.vars.length i=Md.fault m.cons[i] m.vars.length):=Md.cFault_get hit;obtain ⟨ta,tc,rfl,_⟩:=hcn.t.form;obtain ⟨xa,xc,rfl,_⟩:=hcn.x.form;obtain ⟨ba,bc,rfl,_⟩:=hcn.b.form;obtain ⟨ra,rc,rfl,_⟩:=hcn.r.form;clear hc hcn hcl hbw;generalize hx:m.cons[i]=c at *
      clear hx;obtain ⟨r,hr⟩:∃ r,Md.fault c m.vars.length=r:=⟨_,rfl⟩;have HGR:Hid (Md.cFault m.cons m.vars.length i=r):=HG.out.trans hr;have H35:Hid (Calls Tryz.prog 90 #[yh c (.slice ta c.terms.length tc) (.slice xa c.xs.length xc) (.slice ba c.table.length bc) (.slice ra c.rows.length rc),.int .i64 (m.vars.length:Int)] wr fun e w'=>e=.returned (.int .i64 r)/\Below wr.heap.size wr w'):=by rw [<-hr];exact y2h y2i c _ _ _ _ (m.vars.length:Int) wr HCN.out
      unfold yh at H35;clear hr HG HCN
      by_cases hz:r=0
      · subst hz
        go_wp2_with (go_at_call 90;refine mcA H35.out ?_;rintro e w2 ⟨rfl,hb2⟩;have HF2:Hid (Below W.heap.size W w2):=hT.out.trans (hb2.mono hT.out.size);clear hb2);go_roundw
        case rel=>exact ⟨i+1,by go_num,by omega,YE hP.out HGR.out,HF2⟩
        case measure=>simp [intOf];omega
      · have hzB:(r != 0)=true:=by simpa using hz
        have hres:Hid (Md.check m=((m.vars.length:Int)+(i:Int),r)):=by show _=_;rw [<-HGR.out];exact Qe HZ.out.1 HZ.out.2 hc64 hit (by rw [HGR.out];exact hz) hP.out
        go_wp2_with (go_at_call 90;refine mcA H35.out ?_;rintro e w2 ⟨rfl,hb2⟩;have HF2:Hid (Below W.heap.size W w2):=hT.out.trans (hb2.mono hT.out.size);clear hb2);go_ret2;exact ⟨yY hres.out.symm,HB.out.trans (HF2.out.mono HB.out.size)⟩
    · have hiI:¬ (i:Int)<(m.cons.length:Int):=by omega
      have HCl:Hid (∀ j,j<m.cons.length->Md.cFault m.cons m.vars.length j=0):=fun j hj=>hP.out j (by omega)
      have HBad:Hid (∀ r,Md.goalFault m=r->r≠0->Md.check m=((m.vars.length:Int)+(m.cons.length:Int),r)):=fun r hr h0=>by rw [<-hr];exact Qf HZ.out.1 HZ.out.2 hc64 HCl.out (by rw [hr];exact h0)
      have HOk:Hid (Md.goalFault m=0->Md.check m=(0,0)):=fun hr=>Qg HZ.out.1 HZ.out.2 hc64 HCl.out hr
      have HEnd:Hid (Below w.heap.size w wr):=HB.out.trans (hT.out.mono HB.out.size)
      cases hh:m.has
      · rw [hh] at p2
        by_cases hg:0<m.goal.length
        · have hres:Hid (Md.check m=((m.vars.length:Int)+(m.cons.length:Int),48)):=HBad.out 48 (gf_a hh hg) (by decide)
          have hgI:(0:Int)<(m.goal.length:Int):=by omega
          go_wp2_with fail
          go_ret2;exact ⟨yY hres.out.symm,HEnd.out⟩
        · have hres:Hid (Md.check m=(0,0)):=HOk.out (gf_b hh hg)
          have hgI:¬ (0:Int)<(m.goal.length:Int):=by omega
          go_wp2_with fail
          go_ret2;exact ⟨yY hres.out.symm,HEnd.out⟩
      rw [hh] at p2;have HH:Hid (m.has=true):=hh;clear hh
      cases hf:Md.fewB m.goal.length 64
      rotate_left
      · have hres:Hid (Md.check m=((m.vars.length:Int)+(m.cons.length:Int),47)):=HBad.out 47 (gf_c HH.out hf) (by decide)
        go_wp2_with (go_at_call 91;refine (zB m.goal.length _).mono ?_;rintro e w' ⟨rfl,hww⟩;rw [hww];clear hww);go_ret2;exact ⟨yY hres.out.symm,HEnd.out⟩
      have HTG:Hid (Md.goalFault m=yx m.goal m.vars.length):=y2g HH.out hf;have H37:Hid (Calls Tryz.prog 92 #[.slice ga m.goal.length gp,.int .i64 (m.vars.length:Int)] wr fun e w'=>e=.returned (.int .i64 (yx m.goal m.vars.length))/\w'=wr):=zU _ m.goal (m.vars.length:Int) wr (HM.out _ hT.out).g;obtain ⟨r,hr⟩:∃ r,yx m.goal m.vars.length=r:=⟨_,rfl⟩;rw [hr] at HTG H37;clear hr
      by_cases hz:r=0
      · subst hz
        have hres:Hid (Md.check m=(0,0)):=HOk.out HTG.out;go_wp2_with (first | (go_at_call 91;refine (zB m.goal.length _).mono ?_;rintro e w' ⟨rfl,hww⟩;rw [hww];clear hww) | (go_at_call 92;refine mcA H37.out ?_;rintro e w' ⟨rfl,hww⟩;rw [hww];clear hww));go_ret2;exact ⟨yY hres.out.symm,HEnd.out⟩
      · have hzB:(r != 0)=true:=by simpa using hz
        have hres:Hid (Md.check m=((m.vars.length:Int)+(m.cons.length:Int),r)):=HBad.out r HTG.out hz;go_wp2_with (first | (go_at_call 91;refine (zB m.goal.length _).mono ?_;rintro e w' ⟨rfl,hww⟩;rw [hww];clear hww) | (go_at_call 92;refine mcA H37.out ?_;rintro e w' ⟨rfl,hww⟩;rw [hww];clear hww));go_ret2;exact ⟨yY hres.out.symm,HEnd.out⟩
end Go.Proofs.YtjgghimjnbjlbaaGreatDoor.Doc

namespace Go.Proofs.YtjgghimjnbjlbaaGreatDoor
open Go.RowKit
set_option maxRecDepth 10000
set_option maxHeartbeats 8000000
def Md.rightB (m:Md.Mo):Bool:=(Md.check m).2==0
theorem Md.rightB_of {m:Md.Mo} (h:Md.rightB m=true):Md.Right m:=Md.right_of (by simpa [Md.rightB] using h)
theorem ZD (m:Md.Mo) (vv vc vg:Value) (w:World) (h:MoAt w m vv vc vg):Calls Tryz.prog 36 #[yp m vv vc vg] w fun e w'=>e=.returned (.bool (Md.rightB m))/\Below w.heap.size w w':=by
  obtain ⟨W,hW⟩:∃ W,w.alloc (.cells #[vv,vc,.bool m.has,vg] 26)=W:=⟨_,rfl⟩;have hbW:Below w.heap.size w W:=bAe hW;have hN:W.heap[w.heap.size]?=some (.cells #[vv,vc,.bool m.has,vg] 26):=hAe hW;have HB:Hid (Below w.heap.size w W):=hbW;have HM:Hid (∀ w',Below W.heap.size W w'->MoAt w' m vv vc vg):=fun w' hb=>(h.below hbW).below hb
  have HN:Hid (∀ w',Below W.heap.size W w'->w'.heap[w.heap.size]?=some (.cells #[vv,vc,.bool m.has,vg] 26)):=fun w' hb=>(hb.block _ (hLt hN)).trans hN
  have HNL:Hid (w.heap.size<W.heap.size):=(hLt hN);obtain ⟨va,vp,rfl,hvm⟩:=h.v.form;obtain ⟨ca,cp,rfl,hcm⟩:=h.c.form;obtain ⟨ga,gp,rfl,hgm⟩:=h.g.form;unfold maxLen at hvm hcm hgm;obtain ⟨⟨p0,p1,p2,p3⟩,_⟩:=box4 hN;have H10:Hid (Calls Tryz.prog 60 #[.agg #[.slice va m.vars.length vp,.slice ca m.cons.length cp,.bool m.has,.slice ga m.goal.length gp]] W fun e w'=>e=.returned (.tuple #[.int .i64 (Md.check m).1,.int .i64 (Md.check m).2])/\Below W.heap.size W w'):=y4C m _ _ _ W (HM.out W (Below.refl _ _));unfold yp;clear h hbW hN;obtain ⟨r,hr⟩:∃ r,(Md.check m).2=r:=⟨_,rfl⟩;have hres:Hid (Md.rightB m=(r==0)):=by show _=_;unfold Md.rightB;rw [hr]
  rw [hr] at H10;clear hr;go_enter Tryz.func36,Tryz.ntmps36;go_wp2_with (go_at_call 60;refine mcA H10.out ?_;rintro e w1 ⟨rfl,hb1⟩);go_ret;exact ⟨yk hres.out.symm,HB.out.trans (hb1.mono HB.out.size)⟩
theorem Md.inside_iff:∀ {l:List Md.Vr} {vs:List Int},Md.insideB l vs=true↔vs.length=l.length/\∀ j (h1:j<l.length) (h2:j<vs.length),l[j].lo<=vs[j]/\vs[j]<=l[j].hi
  | [],[]=>by simp [Md.insideB]
  | [],x :: xs=>by simp [Md.insideB]
  | v :: l,[]=>by simp [Md.insideB]
  | v :: l, x :: xs => by
    rw [Md.insideB,Bool.and_eq_true,decide_eq_true_eq,Md.inside_iff]
    constructor
    · rintro ⟨h1,h2,h3⟩
      refine ⟨by simp [h2],fun j a b=>?_⟩
      cases j with
      | zero=>exact h1
      | succ j=>exact h3 j (by simpa using a) (by simpa using b)
    · rintro ⟨h1,h2⟩
      exact ⟨h2 0 (by simp) (by simp),by simpa using h1,fun j a b=>by have:=h2 (j+1) (by simpa using a) (by simpa using b);simpa using this⟩
theorem Md.inside_no {l:List Md.Vr} {vs:List Int} (h:vs.length≠l.length∨∃ j,∃ (h1:j<l.length) (h2:j<vs.length),¬ (l[j].lo<=vs[j]/\vs[j]<=l[j].hi)):Md.insideB l vs=false:=by
  rw [<-Bool.not_eq_true,Md.inside_iff];rintro ⟨h1,h2⟩;rcases h with h | ⟨j,a,b,c⟩
  · exact h h1
  · exact c (h2 j a b)
theorem y4D (va vx:Value) (l:List Md.Vr) (vs:List Int) (w:World) (hv:VarsAt w va l) (hx:MInts w vx vs):Calls Tryz.prog 37 #[va,vx] w fun e w'=>e=.returned (.bool (Md.insideB l vs))/\Below w.heap.size w w':=by
  obtain ⟨a,cap,rfl,hm,_,hc⟩:=hv;obtain ⟨xa,xc,rfl,hxm,hxo⟩:=hx;unfold maxLen at hm hxm;have HC:Hid (0<l.length->∃ b off,a=some ⟨b,off,none⟩/\b<w.heap.size/\∀ j (h:j<l.length),w.cell? ⟨b,off+j * 3,none⟩=some (.string l[j].name)/\w.cell? ⟨b,off+j * 3+1,none⟩=some (.int .i64 l[j].lo)/\w.cell? ⟨b,off+j * 3+2,none⟩=some (.int .i64 l[j].hi)):=hc;have HX:Hid (0<vs.length->∃ b off,xa=some ⟨b,off,none⟩/\b<w.heap.size/\∀ j (h:j<vs.length),w.cell? ⟨b,off+j,none⟩=some (.int .i64 vs[j])):=hxo;clear hc hxo
  by_cases hl:vs.length=l.length
  rotate_left
  · have hres:Hid (Md.insideB l vs=false):=Md.inside_no (.inl hl)
    have hlI:((vs.length:Int) != (l.length:Int))=true:=by rw [bne_iff_ne];omega
    go_enter Tryz.func37,Tryz.ntmps37;go_wp2;go_ret;exact ⟨yk hres.out.symm,Below.refl _ _⟩
  have HL:Hid (vs.length=l.length):=hl;have hlI:((vs.length:Int) != (l.length:Int))=false:=by rw [bne_eq_false_iff_eq];omega
  clear hl;go_enter Tryz.func37,Tryz.ntmps37;go_wp2;go_loopw [14] (fun iv wr=>∃ k:Nat,iv=.int .i64 (k:Int)/\k<=l.length/\Hid (∀ j (h1:j<l.length) (h2:j<vs.length),j<k->l[j].lo<=vs[j]/\vs[j]<=l[j].hi)/\Hid (Below w.heap.size w wr)) (fun iv _=>l.length-(intOf iv).toNat)
  case atStart=>exact ⟨0,rfl,Nat.zero_le _,fun j _ _ h=>absurd h (Nat.not_lt_zero _),Below.refl _ _⟩
  case round=>
    obtain ⟨k,rfl,hk,hA,hR⟩:=hrel
    by_cases hlt:k<l.length
    · have hkI:(k:Int)<(l.length:Int):=by omega
      have hkv:k<vs.length:=by have:=HL.out;omega
      have hkvI:(k:Int)<(vs.length:Int):=by omega
      obtain ⟨b,off,rfl,hb,hc⟩:=HC.out (by omega);obtain ⟨b2,o2,rfl,hb2,hc2⟩:=HX.out (by omega);obtain ⟨d0,d1,d2⟩:=hc k hlt;have e0:=(hR.out.cell (p:=⟨b,off+k * 3,none⟩) hb).trans d0;have e1:=(hR.out.cell (p:=⟨b,off+k * 3+1,none⟩) hb).trans d1;have e2:=(hR.out.cell (p:=⟨b,off+k * 3+2,none⟩) hb).trans d2;have e3:=(hR.out.cell (p:=⟨b2,o2+k,none⟩) hb2).trans (hc2 k hkv);clear hc d0 d1 d2 hc2;have HNo:Hid (¬ (l[k].lo<=vs[k]/\vs[k]<=l[k].hi)->Md.insideB l vs=false):=fun h=>Md.inside_no (.inr ⟨k,hlt,hkv,h⟩)
      have HYes:Hid (l[k].lo<=vs[k]/\vs[k]<=l[k].hi->∀ j (h1:j<l.length) (h2:j<vs.length),j<k+1->l[j].lo<=vs[j]/\vs[j]<=l[j].hi):=fun h j h1 h2 hj=>by
        by_cases hjk:j<k
        · exact hA.out j h1 h2 hjk
        · obtain rfl:j=k:=by omega
          exact h
      generalize l[k]=v at *
      generalize vs[k]=x at *
      obtain ⟨V,hV⟩:∃ V,wr.alloc (.cells #[.string v.name,.int .i64 v.lo,.int .i64 v.hi] 49)=V:=⟨_,rfl⟩;have hbV:Below wr.heap.size wr V:=bAe hV;have q1:V.cell? ⟨wr.heap.size,1,none⟩=some (.int .i64 v.lo):=by rw [<-hV];simp
      have q2:V.cell? ⟨wr.heap.size,2,none⟩=some (.int .i64 v.hi):=by rw [<-hV];simp
      have q3:=yA hbV e3;have HRV:Hid (Below w.heap.size w V):=hR.out.trans (hbV.mono hR.out.size);clear hbV
      by_cases h1:x<v.lo
      · have hres:Hid (Md.insideB l vs=false):=HNo.out (by omega)
        have h1B:decide (x<v.lo)=true:=by simpa using h1
        go_wp2_with fail
        go_quiet (fail)
        go_wp2;go_ret;exact ⟨yk hres.out.symm,below_drewN HRV.out _⟩
      have h1B:decide (x<v.lo)=false:=by simpa using h1
      by_cases h2:v.hi<x
      · have hres:Hid (Md.insideB l vs=false):=HNo.out (by omega)
        have h2B:decide (v.hi<x)=true:=by simpa using h2
        go_wp2_with fail
        go_quiet (fail)
        go_wp2;go_ret;exact ⟨yk hres.out.symm,below_drewN HRV.out _⟩
      · have h2B:decide (v.hi<x)=false:=by simpa using h2
        have hnx:=HYes.out ⟨by omega,by omega⟩;have HNX:Hid (∀ j (h1:j<l.length) (h2:j<vs.length),j<k+1->l[j].lo<=vs[j]/\vs[j]<=l[j].hi):=hnx;clear hnx;go_wp2_with fail
        go_quiet (fail)
        go_wp2;go_roundw
        case rel=>exact ⟨k+1,by go_num,by omega,HNX,below_drewN HRV.out _⟩
        case measure=>simp [intOf];omega
    · have hkI:¬ (k:Int)<(l.length:Int):=by omega
      have hres:Hid (Md.insideB l vs=true):=Md.inside_iff.2 ⟨HL.out,fun j h1 h2=>hA.out j h1 h2 (by omega)⟩;go_wp2_with fail
      go_ret;exact ⟨yk hres.out.symm,hR.out⟩
theorem Md.worth_no {m:Md.Mo} {vs:List Int} (h:Md.rightB m=false∨vs.length≠m.vars.length∨vs.all Md.numB=false):Md.worth m vs=0:=by
  unfold Md.worth;rw [if_neg];rintro ⟨h1,h2,h3⟩;rcases h with h | h | h
  · simp [Md.rightB,h1] at h
  · exact h h2
  · rw [h] at h3;cases h3
theorem Md.worth_yes {m:Md.Mo} {vs:List Int} (h1:Md.rightB m=true) (h2:vs.length=m.vars.length) (h3:vs.all Md.numB=true):Md.worth m vs=Md.sum m.goal vs:=by
  unfold Md.worth;rw [if_pos ⟨by simpa [Md.rightB] using h1,h2,h3⟩]
theorem Zj (m:Md.Mo) (vv vc vg vx:Value) (vs:List Int) (w:World) (h:MoAt w m vv vc vg) (hx:MInts w vx vs):Calls Tryz.prog 17 #[yp m vv vc vg,vx] w fun e w'=>e=.returned (.int .i64 (Md.worth m vs))/\Below w.heap.size w w':=by
  obtain ⟨W,hW⟩:∃ W,w.alloc (.cells #[vv,vc,.bool m.has,vg] 26)=W:=⟨_,rfl⟩;have hbW:Below w.heap.size w W:=bAe hW;have hN:W.heap[w.heap.size]?=some (.cells #[vv,vc,.bool m.has,vg] 26):=hAe hW;have HB:Hid (Below w.heap.size w W):=hbW;have HM:Hid (∀ w',Below W.heap.size W w'->MoAt w' m vv vc vg):=fun w' hb=>(h.below hbW).below hb
  have HN:Hid (∀ w',Below W.heap.size W w'->w'.heap[w.heap.size]?=some (.cells #[vv,vc,.bool m.has,vg] 26)):=fun w' hb=>(hb.block _ (hLt hN)).trans hN
  have HNL:Hid (w.heap.size<W.heap.size):=(hLt hN);obtain ⟨va,vp,rfl,hvm⟩:=h.v.form;obtain ⟨ca,cp,rfl,hcm⟩:=h.c.form;obtain ⟨ga,gp,rfl,hgm⟩:=h.g.form;unfold maxLen at hvm hcm hgm;obtain ⟨⟨p0,p1,p2,p3⟩,_⟩:=box4 hN;have H42:Hid (Calls Tryz.prog 36 #[.agg #[.slice va m.vars.length vp,.slice ca m.cons.length cp,.bool m.has,.slice ga m.goal.length gp]] W fun e w'=>e=.returned (.bool (Md.rightB m))/\Below W.heap.size W w'):=ZD m _ _ _ W (HM.out W (Below.refl _ _));have HX:Hid (∀ w',Below W.heap.size W w'->MInts w' vx vs):=fun w' hb=>(hx.below hbW).below hb
  obtain ⟨xa,xc,rfl,hxm⟩:=hx.form;unfold yp;clear h hbW hN hx
  cases hr:Md.rightB m
  · have hres:Hid (Md.worth m vs=0):=Md.worth_no (.inl hr)
    rw [hr] at H42;clear hr;go_enter Tryz.func17,Tryz.ntmps17;go_wp2_with (go_at_call 36;refine mcA H42.out ?_;rintro e w1 ⟨rfl,hb1⟩);go_ret;exact ⟨yi hres.out.symm,HB.out.trans (hb1.mono HB.out.size)⟩
  have HR:Hid (Md.rightB m=true):=hr;rw [hr] at H42;clear hr
  by_cases hl:vs.length=m.vars.length
  rotate_left
  · have hres:Hid (Md.worth m vs=0):=Md.worth_no (.inr (.inl hl))
    have hlI:((vs.length:Int) != (m.vars.length:Int))=true:=by rw [bne_iff_ne];omega
    go_enter Tryz.func17,Tryz.ntmps17;go_wp2_with (go_at_call 36;refine mcA H42.out ?_;rintro e w1 ⟨rfl,hb1⟩;have HB1:Hid (Below W.heap.size W w1):=hb1;clear hb1 p0 p1 p2 p3;obtain ⟨⟨p0,p1,p2,p3⟩,_⟩:=box4 (HN.out _ HB1.out));go_ret;exact ⟨yi hres.out.symm,HB.out.trans (HB1.out.mono HB.out.size)⟩
  have hlI:((vs.length:Int) != (m.vars.length:Int))=false:=by rw [bne_eq_false_iff_eq];omega
  have HL:Hid (vs.length=m.vars.length):=hl;clear hl;go_enter Tryz.func17,Tryz.ntmps17;go_wp2_with (first | (go_at_call 36;refine mcA H42.out ?_;rintro e w1 ⟨rfl,hb1⟩;have HB1:Hid (Below W.heap.size W w1):=hb1;clear hb1 p0 p1 p2 p3;obtain ⟨⟨p0,p1,p2,p3⟩,_⟩:=box4 (HN.out _ HB1.out)) | fail);refine (yQ _ vs _ (HX.out _ HB1.out)).mono ?_;rintro e w' ⟨rfl,hww⟩;rw [hww];clear hww
  cases hn:vs.all Md.numB
  · have hres:Hid (Md.worth m vs=0):=Md.worth_no (.inr (.inr hn))
    clear hn;go_wp2_with fail
    go_ret;exact ⟨yi hres.out.symm,HB.out.trans (HB1.out.mono HB.out.size)⟩
  have hres:Hid (Md.worth m vs=Md.sum m.goal vs):=Md.worth_yes HR.out HL.out hn;have hg:=Md.goal_of (Md.rightB_of HR.out).goal;have H52:Hid (Calls Tryz.prog 42 #[.slice ga m.goal.length gp,.slice xa vs.length xc] w1 fun e w'=>e=.returned (.int .i64 (Md.sum m.goal vs))/\Below w1.heap.size w1 w'):=YI _ _ m.goal vs w1 (HM.out _ HB1.out).g (HX.out _ HB1.out) hn (fun x hx=>by rw [HL.out];exact hg.2.2.1 x hx) (fun x hx=>(hg.2.2.2 x hx).2) hg.2.1;clear hn hg;go_wp2_with (go_at_call 42;refine mcA H52.out ?_;rintro e w2 ⟨rfl,hb2⟩);go_ret;exact ⟨yi hres.out.symm,(HB.out.trans (HB1.out.mono HB.out.size)).trans (hb2.mono (HB.out.trans (HB1.out.mono HB.out.size)).size)⟩
end Go.Proofs.YtjgghimjnbjlbaaGreatDoor

namespace Go.Proofs.YtjgghimjnbjlbaaGreatDoor
open Go.RowKit
set_option maxRecDepth 10000
set_option maxHeartbeats 8000000
theorem y4E (c:Md.Cn) (vt vx vb vr vv:Value) (vs:List Int) (q:Nat) (w:World) (hC:CnAt w c vt vx vb vr) (hV:MInts w vv vs) (hq:w.cell? ⟨q,0,none⟩=some vv) (hf:Md.fault c vs.length=0) (hn:vs.all Md.numB=true) :
    Calls Tryz.prog 39 #[yh c vt vx vb vr,.pointer (some ⟨q,0,none⟩)] w fun e w'=>e=.returned (.bool (Md.hold c vs))/\Below w.heap.size w w':=by
  obtain ⟨W,hW⟩:∃ W,w.alloc (.cells #[.int .i64 c.kind,.int .i64 c.op,vt,.int .i64 c.k,.int .i64 c.v,.int .i64 c.x,.int .i64 c.y,vx,vb,vr] 51)=W:=⟨_,rfl⟩;have hbW:Below w.heap.size w W:=bAe hW;have hN:W.heap[w.heap.size]?=some (.cells #[.int .i64 c.kind,.int .i64 c.op,vt,.int .i64 c.k,.int .i64 c.v,.int .i64 c.x,.int .i64 c.y,vx,vb,vr] 51):=hAe hW;have HB:Hid (Below w.heap.size w W):=hbW;have H50:Hid (Calls Tryz.prog 40 #[yh c vt vx vb vr,vv] W fun e w'=>e=.returned (.bool (Md.hold c vs))/\Below W.heap.size W w'):=QZ c vt vx vb vr vv vs W (hC.below hbW) (hV.below hbW) hf hn;have hq':=yA hbW hq;obtain ⟨ta,tc,rfl,_⟩:=hC.t.form;obtain ⟨xa,xc,rfl,_⟩:=hC.x.form;obtain ⟨ba,bc,rfl,_⟩:=hC.b.form;obtain ⟨ra,rc,rfl,_⟩:=hC.r.form;obtain ⟨va,vp,rfl,_⟩:=hV.form
  obtain ⟨⟨p0,p1,p2,p3,p4,p5,p6,p7,p8,p9⟩,_⟩:=xG hN;unfold yh at H50 ⊢;clear hC hV hf hn hbW hN hq;go_enter Tryz.func39,Tryz.ntmps39;go_wp2_with (go_at_call 40;refine mcA H50.out ?_;rintro e w1 ⟨rfl,hb1⟩);go_ret;exact ⟨rfl,HB.out.trans (hb1.mono HB.out.size)⟩
theorem y4F (vc vv:Value) (l:List Md.Cn) (vs:List Int) (q:Nat) (w:World) (hc:ConsAt w vc l) (hV:MInts w vv vs) (hq:w.cell? ⟨q,0,none⟩=some vv) (hf:∀ c∈l,Md.fault c vs.length=0) (hn:vs.all Md.numB=true) :
    Calls Tryz.prog 38 #[vc,.func (.func 39) #[] #[.pointer (some ⟨q,0,none⟩)]] w fun e w'=>e=.returned (.bool (l.all fun c=>Md.hold c vs))/\Below w.heap.size w w':=by
  have HH:Hid (∀ (w':World) (c:Md.Cn) (vt vx vb vr:Value),Below w.heap.size w w'->CnAt w' c vt vx vb vr->Md.fault c vs.length=0->Calls Tryz.prog 39 #[yh c vt vx vb vr,.pointer (some ⟨q,0,none⟩)] w' fun e w''=>e=.returned (.bool (Md.hold c vs))/\Below w'.heap.size w' w''):=fun w' c vt vx vb vr hb h1 h2=>
    y4E c vt vx vb vr vv vs q w' h1 (hV.below hb) (yA hb hq) h2 hn
  obtain ⟨a,cap,rfl,hm,ho⟩:=hc;unfold maxLen at hm;have HC:Hid (0<l.length->∃ b off,a=some ⟨b,off,none⟩/\b<w.heap.size/\∀ j (h:j<l.length),∃ vt vx vb vr,CnAt w l[j] vt vx vb vr/\CnCells w b (off+j * 10) l[j] vt vx vb vr):=ho;have HF:Hid (∀ c∈l,Md.fault c vs.length=0):=hf;obtain ⟨f,hfd⟩:∃ f:Md.Cn->Bool,(fun c=>Md.hold c vs)=f:=⟨_,rfl⟩;have HFD:Hid ((fun c=>Md.hold c vs)=f):=hfd;rw [hfd];clear ho hV hq hf hn hfd;go_enter Tryz.func38,Tryz.ntmps38;go_wp2;go_loopw [9] (fun iv wr=>∃ k:Nat,iv=.int .i64 (k:Int)/\k<=l.length/\Hid ((l.take k).all f=true)/\Hid (Below w.heap.size w wr)) (fun iv _=>l.length-(intOf iv).toNat)
  case atStart=>exact ⟨0,rfl,Nat.zero_le _,(show _=_ by simp),Below.refl _ _⟩
  case round=>
    obtain ⟨k,rfl,hk,hA,hR⟩:=hrel
    by_cases hlt:k<l.length
    · have hkI:(k:Int)<(l.length:Int):=by omega
      obtain ⟨b,off,rfl,hb,hc⟩:=HC.out (by omega);obtain ⟨vt,vx,vb,vr,hcn,hcl⟩:=hc k hlt;obtain ⟨e0,e1,e2,e3,e4,e5,e6,e7,e8,e9⟩:=hcl.below hR.out;obtain ⟨ta,tc,rfl,_⟩:=hcn.t.form;obtain ⟨xa,xc,rfl,_⟩:=hcn.x.form;obtain ⟨ba,bc,rfl,_⟩:=hcn.b.form;obtain ⟨ra,rc,rfl,_⟩:=hcn.r.form;have HCN:Hid (CnAt wr l[k] (.slice ta l[k].terms.length tc) (.slice xa l[k].xs.length xc) (.slice ba l[k].table.length bc) (.slice ra l[k].rows.length rc)):=hcn.below hR.out;have HNo:Hid (f l[k]=false->l.all f=false):=fun h=>Md.all_stop hlt h
      have HYes:Hid (f l[k]=true->(l.take (k+1)).all f=true):=fun h=>Md.all_next hA.out hlt h
      have HK:Hid (f l[k]=Md.hold l[k] vs):=by show _=_;rw [<-HFD.out]
      have HF0:Hid (Md.fault l[k] vs.length=0):=HF.out _ (List.getElem_mem hlt);clear hc hcn hcl;generalize l[k]=c at *
      obtain ⟨V,hV⟩:∃ V,wr.alloc (.cells #[.int .i64 c.kind,.int .i64 c.op,.slice ta c.terms.length tc,.int .i64 c.k,.int .i64 c.v,.int .i64 c.x,.int .i64 c.y,.slice xa c.xs.length xc,.slice ba c.table.length bc,.slice ra c.rows.length rc] 51)=V:=⟨_,rfl⟩;have hbV:Below wr.heap.size wr V:=bAe hV;have hNV:V.heap[wr.heap.size]?=some (.cells #[.int .i64 c.kind,.int .i64 c.op,.slice ta c.terms.length tc,.int .i64 c.k,.int .i64 c.v,.int .i64 c.x,.int .i64 c.y,.slice xa c.xs.length xc,.slice ba c.table.length bc,.slice ra c.rows.length rc] 51):=hAe hV;obtain ⟨⟨q0,q1,q2,q3,q4,q5,q6,q7,q8,q9⟩,_⟩:=xG hNV;have HRV:Hid (Below w.heap.size w V):=hR.out.trans (hbV.mono hR.out.size)
      have HU:Hid (Calls Tryz.prog 39 #[.agg #[.int .i64 c.kind,.int .i64 c.op,.slice ta c.terms.length tc,.int .i64 c.k,.int .i64 c.v,.int .i64 c.x,.int .i64 c.y,.slice xa c.xs.length xc,.slice ba c.table.length bc,.slice ra c.rows.length rc],.pointer (some ⟨q,0,none⟩)] V fun e w'=>e=.returned (.bool (f c))/\Below V.heap.size V w'):=by rw [HK.out];exact HH.out V c _ _ _ _ HRV.out (HCN.out.below hbV) HF0.out
      clear hbV hNV
      cases hp:f c
      · rw [hp] at HU
        have hres:Hid (l.all f=false):=HNo.out hp;clear hp;go_wp2_with (go_at_call 39;refine mcA HU.out ?_;rintro e w2 ⟨rfl,hb2⟩);go_ret;exact ⟨yk hres.out.symm,HRV.out.trans (hb2.mono HRV.out.size)⟩
      · rw [hp] at HU
        have hnx:Hid ((l.take (k+1)).all f=true):=HYes.out hp;clear hp;go_wp2_with (go_at_call 39;refine mcA HU.out ?_;rintro e w2 ⟨rfl,hb2⟩);go_roundw
        case rel=>exact ⟨k+1,by go_num,by omega,hnx,HRV.out.trans (hb2.mono HRV.out.size)⟩
        case measure=>simp [intOf];omega
    · have hkI:¬ (k:Int)<(l.length:Int):=by omega
      have hres:Hid (l.all f=true):=Md.all_done hA.out (by omega);go_wp2_with fail
      go_ret;exact ⟨yk hres.out.symm,hR.out⟩
theorem Md.inside_num {m:Md.Mo} {vs:List Int} (h:Md.Right m) (hi:Md.insideB m.vars vs=true):vs.length=m.vars.length/\vs.all Md.numB=true:=by
  obtain ⟨h1,h2⟩:=Md.inside_iff.1 hi;refine ⟨h1,?_⟩;rw [List.all_eq_true];intro x hx;obtain ⟨j,hj,rfl⟩:=List.getElem_of_mem hx;have hb:=Md.bounds_of (h.var _ (List.getElem_mem (show j<m.vars.length by omega))).2;have:=h2 j (by omega) hj;simp [Md.numB];omega
theorem Md.sol_r {m:Md.Mo} {vs:List Int} (h:Md.rightB m=false):Md.solution m vs=false:=by
  unfold Md.solution;rw [decide_eq_false (by simpa [Md.rightB] using h)];rfl
theorem Md.sol_i {m:Md.Mo} {vs:List Int} (h:Md.insideB m.vars vs=false):Md.solution m vs=false:=by
  unfold Md.solution;rw [h];simp
theorem Md.sol_h {m:Md.Mo} {vs:List Int} (h:Md.rightB m=true) (h2:Md.insideB m.vars vs=true):Md.solution m vs=m.cons.all fun c=>Md.hold c vs:=by
  unfold Md.solution;rw [h2,decide_eq_true (by simpa [Md.rightB] using h)];rfl
theorem Xq (m:Md.Mo) (vv vc vg vx:Value) (vs:List Int) (w:World) (h:MoAt w m vv vc vg) (hx:MInts w vx vs):Calls Tryz.prog 15 #[yp m vv vc vg,vx] w fun e w'=>e=.returned (.bool (Md.solution m vs))/\Below w.heap.size w w':=by
  obtain ⟨xa,xc,rfl,hxm⟩:=hx.form;obtain ⟨va,vp,rfl,hvm⟩:=h.v.form;obtain ⟨ca,cp,rfl,hcm⟩:=h.c.form;obtain ⟨ga,gp,rfl,hgm⟩:=h.g.form;obtain ⟨W0,hW0⟩:∃ W,w.alloc (.cells #[.slice va m.vars.length vp,.slice ca m.cons.length cp,.bool m.has,.slice ga m.goal.length gp] 26)=W:=⟨_,rfl⟩;have hb0:Below w.heap.size w W0:=bAe hW0;have hN0:W0.heap[w.heap.size]?=some (.cells #[.slice va m.vars.length vp,.slice ca m.cons.length cp,.bool m.has,.slice ga m.goal.length gp] 26):=hAe hW0;have hs0:W0.heap.size=w.heap.size+1:=by rw [<-hW0];simp
  obtain ⟨W,hW⟩:∃ W,W0.alloc (.cells #[.slice xa vs.length xc] 27)=W:=⟨_,rfl⟩;have hb1:Below W0.heap.size W0 W:=bAe hW;have hbW:Below w.heap.size w W:=hb0.trans (hb1.mono hb0.size);have hN:W.heap[w.heap.size]?=some (.cells #[.slice va m.vars.length vp,.slice ca m.cons.length cp,.bool m.has,.slice ga m.goal.length gp] 26):=(hb1.block _ (by omega)).trans hN0;have hq:W.cell? ⟨w.heap.size+1,0,none⟩=some (.slice xa vs.length xc):=by rw [<-hs0,<-hW];simp
  have HB:Hid (Below w.heap.size w W):=hbW;have HM:Hid (∀ w',Below W.heap.size W w'->MoAt w' m (.slice va m.vars.length vp) (.slice ca m.cons.length cp) (.slice ga m.goal.length gp)):=fun w' hb=>(h.below hbW).below hb
  have HX:Hid (∀ w',Below W.heap.size W w'->MInts w' (.slice xa vs.length xc) vs):=fun w' hb=>(hx.below hbW).below hb
  have HN:Hid (∀ w',Below W.heap.size W w'->w'.heap[w.heap.size]?=some (.cells #[.slice va m.vars.length vp,.slice ca m.cons.length cp,.bool m.has,.slice ga m.goal.length gp] 26)):=fun w' hb=>(hb.block _ (hLt hN)).trans hN
  have HQ:Hid (∀ w',Below W.heap.size W w'->w'.cell? ⟨w.heap.size+1,0,none⟩=some (.slice xa vs.length xc)):=fun w' hb=>yA hb hq
  obtain ⟨⟨p0,p1,p2,p3⟩,_⟩:=box4 hN;have H42:Hid (Calls Tryz.prog 36 #[.agg #[.slice va m.vars.length vp,.slice ca m.cons.length cp,.bool m.has,.slice ga m.goal.length gp]] W fun e w'=>e=.returned (.bool (Md.rightB m))/\Below W.heap.size W w'):=ZD m _ _ _ W (HM.out W (Below.refl _ _));unfold yp;clear h hbW hN hx hb0 hb1 hN0
  cases hr:Md.rightB m
  · have hres:Hid (Md.solution m vs=false):=Md.sol_r hr
    rw [hr] at H42;clear hr;go_enter Tryz.func15,Tryz.ntmps15;go_wp2_with (go_at_call 36;refine mcA H42.out ?_;rintro e w1 ⟨rfl,hb1⟩);go_ret;exact ⟨yk hres.out.symm,HB.out.trans (hb1.mono HB.out.size)⟩
  have HR:Hid (Md.rightB m=true):=hr;rw [hr] at H42;clear hr;go_enter Tryz.func15,Tryz.ntmps15;go_wp2_with fail
  refine mcA H42.out ?_;rintro e w1 ⟨rfl,hb1⟩;have HB1:Hid (Below W.heap.size W w1):=hb1;clear hb1 p0 p1 p2 p3 hq;obtain ⟨⟨p0,p1,p2,p3⟩,_⟩:=box4 (HN.out _ HB1.out);have hq:=HQ.out _ HB1.out;go_wp2_with fail
  refine mcA (y4D _ _ m.vars vs w1 (HM.out _ HB1.out).v (HX.out _ HB1.out)) ?_;rintro e w2 ⟨rfl,hb2⟩;have HB2:Hid (Below W.heap.size W w2):=HB1.out.trans (hb2.mono HB1.out.size);clear hb2 p0 p1 p2 p3 hq;obtain ⟨⟨p0,p1,p2,p3⟩,_⟩:=box4 (HN.out _ HB2.out)
  cases hi:Md.insideB m.vars vs
  · have hres:Hid (Md.solution m vs=false):=Md.sol_i hi
    clear hi;go_wp2_with fail
    go_ret;exact ⟨yk hres.out.symm,HB.out.trans (HB2.out.mono HB.out.size)⟩
  have hres:Hid (Md.solution m vs=m.cons.all fun c=>Md.hold c vs):=Md.sol_h HR.out hi;have hnum:=Md.inside_num (Md.rightB_of HR.out) hi;have H48:Hid (Calls Tryz.prog 38 #[.slice ca m.cons.length cp,.func (.func 39) #[] #[.pointer (some ⟨w.heap.size+1,0,none⟩)]] w2 fun e w'=>e=.returned (.bool (m.cons.all fun c=>Md.hold c vs))/\Below w2.heap.size w2 w'):=y4F _ _ m.cons vs (w.heap.size+1) w2 (HM.out _ HB2.out).c (HX.out _ HB2.out) (HQ.out _ HB2.out) (fun c hc=>by rw [hnum.1];exact (Md.rightB_of HR.out).con c hc) hnum.2;clear hi hnum;go_wp2_with (go_at_call 38;refine mcA H48.out ?_;rintro e w3 ⟨rfl,hb3⟩;have HB3:Hid (Below W.heap.size W w3):=HB2.out.trans (hb3.mono HB2.out.size);clear hb3);go_ret;exact ⟨yk hres.out.symm,HB.out.trans (HB3.out.mono HB.out.size)⟩
end Go.Proofs.YtjgghimjnbjlbaaGreatDoor

namespace Go.Proofs.YtjgghimjnbjlbaaGreatDoor
open Go.RowKit
set_option maxRecDepth 10000
set_option maxHeartbeats 8000000
theorem Z9 {n s most:Int} (hs:0<s) (hn:1<=n) (h:n<=most.tdiv s):n * s<=most:=by
  have h0:0<=most:=by
    rcases Int.lt_or_le most 0 with h1 | h1
    · exfalso
      have h2:most.tdiv s<=0:=by
        have h3:(-(-most)).tdiv s=-((-most).tdiv s):=Int.neg_tdiv ..;rw [Int.neg_neg] at h3;have h4:0<=(-most).tdiv s:=Int.tdiv_nonneg (by omega) (by omega);omega
      omega
    · exact h1
  have h1:n * s<=most.tdiv s * s:=Int.mul_le_mul_of_nonneg_right h (by omega);have h2:most.tdiv s * s<=most:=by
    have:=Int.tdiv_eq_ediv_of_nonneg (a:=most) (b:=s) h0;rw [this];exact Int.ediv_mul_le most (by omega)
  omega
theorem X7 {z:Int} (h0:0<=z) (h1:z<=9223372036854775807):wrap64 z=z:=by
  unfold wrap64;omega
theorem X6 {most s:Int} (hs:0<s) (h0:-9223372036854775808<=most) (h1:most<=9223372036854775807):wrap64 (most.tdiv s)=most.tdiv s:=by
  have key:∀ a:Int,0<=a->0<=a.tdiv s/\a.tdiv s<=a:=fun a ha=>by
    have e:=Int.tdiv_eq_ediv_of_nonneg (a:=a) (b:=s) ha;rw [e];exact ⟨Int.ediv_nonneg ha (by omega),Int.ediv_le_self s ha⟩
  have hb:-9223372036854775808<=most.tdiv s/\most.tdiv s<=9223372036854775807:=by
    rcases Int.lt_or_le most 0 with h | h
    · have h3:(-(-most)).tdiv s=-((-most).tdiv s):=Int.neg_tdiv ..
      rw [Int.neg_neg] at h3;have:=key (-most) (by omega);omega
    · have:=key most h
      omega
  generalize most.tdiv s=z at *
  unfold wrap64;omega
theorem Md.prod_next {l:List Md.Vr} {most n:Int} {k:Nat} (hk:k<l.length):Md.prod (l.drop k) most n=if most.tdiv (l[k].hi-l[k].lo+1)<n then none else Md.prod (l.drop (k+1)) most (n * (l[k].hi-l[k].lo+1)):=by
  rw [List.drop_eq_getElem_cons hk];rfl
def Za (o:Option Int):Int × Bool:=match o with | some n=>(n,true) | none=>(0,false)
theorem Md.product_no {m:Md.Mo} {most:Int} (h:Md.rightB m=false):Md.product m most=(0,false):=by
  unfold Md.product;rw [if_neg (by simpa [Md.rightB] using h)]
theorem Md.product_yes {m:Md.Mo} {most:Int} (h:Md.rightB m=true):Md.product m most=Za (Md.prod m.vars most 1):=by
  unfold Md.product;rw [if_pos (by simpa [Md.rightB] using h)];rfl
theorem xN {k1:IntKind} {a a':Int} {b b':Bool} (h:(a,b)=(a',b')):Ending.returned (.tuple #[.int k1 a,.bool b])=.returned (.tuple #[.int k1 a',.bool b']):=by
  injection h with h1 h2;rw [h1,h2]
theorem y1m (m:Md.Mo) (vv vc vg:Value) (most:Int) (w:World) (h:MoAt w m vv vc vg) (hmo0:-9223372036854775808<=most) (hmo:most<=9223372036854775807):Calls Tryz.prog 20 #[yp m vv vc vg,.int .i64 most] w fun e w'=>e=.returned (.tuple #[.int .i64 (Md.product m most).1,.bool (Md.product m most).2])/\Below w.heap.size w w':=by
  obtain ⟨W,hW⟩:∃ W,w.alloc (.cells #[vv,vc,.bool m.has,vg] 26)=W:=⟨_,rfl⟩;have hbW:Below w.heap.size w W:=bAe hW;have hN:W.heap[w.heap.size]?=some (.cells #[vv,vc,.bool m.has,vg] 26):=hAe hW;have HB:Hid (Below w.heap.size w W):=hbW;have HM:Hid (∀ w',Below W.heap.size W w'->MoAt w' m vv vc vg):=fun w' hb=>(h.below hbW).below hb
  have HN:Hid (∀ w',Below W.heap.size W w'->w'.heap[w.heap.size]?=some (.cells #[vv,vc,.bool m.has,vg] 26)):=fun w' hb=>(hb.block _ (hLt hN)).trans hN
  have HNL:Hid (w.heap.size<W.heap.size):=(hLt hN);obtain ⟨va,vp,rfl,hvm⟩:=h.v.form;obtain ⟨ca,cp,rfl,hcm⟩:=h.c.form;obtain ⟨ga,gp,rfl,hgm⟩:=h.g.form;unfold maxLen at hvm hcm hgm;obtain ⟨⟨p0,p1,p2,p3⟩,_⟩:=box4 hN;have H42:Hid (Calls Tryz.prog 36 #[.agg #[.slice va m.vars.length vp,.slice ca m.cons.length cp,.bool m.has,.slice ga m.goal.length gp]] W fun e w'=>e=.returned (.bool (Md.rightB m))/\Below W.heap.size W w'):=ZD m _ _ _ W (HM.out W (Below.refl _ _));have HMO:Hid (most<=9223372036854775807):=hmo;have HMO0:Hid (-9223372036854775808<=most):=hmo0;unfold yp;clear hbW hN hmo hmo0
  cases hr:Md.rightB m
  · have hres:Hid (Md.product m most=(0,false)):=Md.product_no hr
    rw [hr] at H42;clear hr h;go_enter Tryz.func20,Tryz.ntmps20;go_wp2_with (go_at_call 36;refine mcA H42.out ?_;rintro e w1 ⟨rfl,hb1⟩);go_ret2;exact ⟨xN hres.out.symm,HB.out.trans (hb1.mono HB.out.size)⟩
  have HR:Hid (Md.Right m):=Md.rightB_of hr;have hres:Hid (Md.product m most=Za (Md.prod m.vars most 1)):=Md.product_yes hr;rw [hr] at H42;obtain ⟨a',c',hve,_,_,hvo⟩:=h.v;injection hve with e1 e2 e3;subst e1 e3;have HVO:Hid (0<m.vars.length->∃ b off,va=some ⟨b,off,none⟩/\b<w.heap.size/\∀ j (h:j<m.vars.length),w.cell? ⟨b,off+j * 3,none⟩=some (.string m.vars[j].name)/\w.cell? ⟨b,off+j * 3+1,none⟩=some (.int .i64 m.vars[j].lo)/\w.cell? ⟨b,off+j * 3+2,none⟩=some (.int .i64 m.vars[j].hi)):=hvo;have HV:Hid (∀ v∈m.vars,Md.boundsB v.lo v.hi=true):=fun v hv=>(HR.out.var v hv).2
  clear hr h hvo e2;go_enter Tryz.func20,Tryz.ntmps20;go_wp2_with (go_at_call 36;refine mcA H42.out ?_;rintro e w1 ⟨rfl,hb1⟩;have HB1:Hid (Below W.heap.size W w1):=hb1;clear hb1 p0 p1 p2 p3;obtain ⟨⟨p0,p1,p2,p3⟩,_⟩:=box4 (HN.out _ HB1.out));go_loopw [6,16] (fun sv iv wr=>∃ (k:Nat) (n:Int),iv=.int .i64 (k:Int)/\k<=m.vars.length/\sv=.int .i64 n/\1<=n/\Hid (n=1∨n<=most)/\Hid (Md.prod m.vars most 1=Md.prod (m.vars.drop k) most n)/\Hid (Below W.heap.size W wr)) (fun _ iv _=>m.vars.length-(intOf iv).toNat)
  case atStart=>exact ⟨0,1,rfl,Nat.zero_le _,rfl,by decide,.inl rfl,(show _=_ by rw [List.drop_zero]),HB1⟩
  case round=>
    obtain ⟨k,n,rfl,hk,rfl,hn1,hnm,hP,hT⟩:=hrel;clear p0 p1 p2 p3;obtain ⟨⟨p0,p1,p2,p3⟩,_⟩:=box4 (HN.out _ hT.out)
    by_cases hlt:k<m.vars.length
    · have hkI:(k:Int)<(m.vars.length:Int):=by omega
      obtain ⟨b,off,rfl,hb,hc⟩:=HVO.out (by omega);obtain ⟨c0,c1,c2⟩:=hc k hlt;have hbw:Below w.heap.size w wr:=HB.out.trans (hT.out.mono HB.out.size);have d0:=(hbw.cell (p:=⟨b,off+k * 3,none⟩) hb).trans c0;have d1:=(hbw.cell (p:=⟨b,off+k * 3+1,none⟩) hb).trans c1;have d2:=(hbw.cell (p:=⟨b,off+k * 3+2,none⟩) hb).trans c2;obtain ⟨⟨b1,b2⟩,⟨b3,b4⟩,b5,b6⟩:=Md.bounds_of (HV.out _ (List.getElem_mem hlt));have hnx:Hid (Md.prod m.vars most 1=if most.tdiv (m.vars[k].hi-m.vars[k].lo+1)<n then none else Md.prod (m.vars.drop (k+1)) most (n * (m.vars[k].hi-m.vars[k].lo+1))):=by show _=_;rw [hP.out,Md.prod_next hlt]
      clear hc c0 c1 c2;generalize m.vars[k]=v at *
      obtain ⟨V,hV⟩:∃ V,wr.alloc (.cells #[.string v.name,.int .i64 v.lo,.int .i64 v.hi] 49)=V:=⟨_,rfl⟩;have hbV:Below wr.heap.size wr V:=bAe hV;have q1:V.cell? ⟨wr.heap.size,1,none⟩=some (.int .i64 v.lo):=by rw [<-hV];simp
      have q2:V.cell? ⟨wr.heap.size,2,none⟩=some (.int .i64 v.hi):=by rw [<-hV];simp
      have HTV:Hid (Below W.heap.size W V):=hT.out.trans (hbV.mono hT.out.size);have hs1:0<v.hi-v.lo+1:=by omega
      clear hbV hbw;have HWE:Hid (wrap64 (most.tdiv (v.hi-v.lo+1))=most.tdiv (v.hi-v.lo+1)):=X6 hs1 HMO0.out HMO.out
      by_cases hq:wrap64 (most.tdiv (v.hi-v.lo+1))<n
      · have hfin:Hid (Md.product m most=(0,false)):=by show _=_;rw [hres.out,hnx.out,if_pos (by rw [<-HWE.out];exact hq)];rfl
        clear hnx;go_wp2_with fail
        all_goals first
          | (go_ret2;exact ⟨xN hfin.out.symm,HB.out.trans (HTV.out.mono HB.out.size)⟩)
          | (exfalso;omega)
      · have hle:n * (v.hi-v.lo+1)<=most:=Z9 hs1 hn1 (by rw [<-HWE.out];omega)
        have hge:1<=n * (v.hi-v.lo+1):=by
          have:=Int.mul_le_mul hn1 (show 1<=v.hi-v.lo+1 by omega) (by decide) (by omega);simpa using this
        have HLE:Hid (n * (v.hi-v.lo+1)<=most):=hle;have HGE:Hid (1<=n * (v.hi-v.lo+1)):=hge;have HW:Hid (wrap64 (n * (v.hi-v.lo+1))=n * (v.hi-v.lo+1)):=X7 (by omega) (Int.le_trans hle HMO.out);have HNX:Hid (Md.prod m.vars most 1=Md.prod (m.vars.drop (k+1)) most (n * (v.hi-v.lo+1))):=by show _=_;rw [hnx.out,if_neg (by rw [<-HWE.out];exact hq)]
        clear hnx hle hge;go_wp2_with fail
        all_goals first
          | (exfalso;omega)
          | (refine ⟨⟨k+1,n * (v.hi-v.lo+1),by go_num,by omega,by rw [HW.out],HGE.out,.inr HLE.out,HNX,HTV⟩,?_⟩;simp [intOf];omega)
    · have hkI:¬ (k:Int)<(m.vars.length:Int):=by omega
      have hfin:Hid (Md.product m most=(n,true)):=by
        show _=_;rw [hres.out,hP.out,List.drop_eq_nil_of_le (by omega)];rfl
      go_wp2_with fail
      go_ret2;exact ⟨xN hfin.out.symm,HB.out.trans (hT.out.mono HB.out.size)⟩
end Go.Proofs.YtjgghimjnbjlbaaGreatDoor

namespace Go.Proofs.YtjgghimjnbjlbaaGreatDoor
open Go.RowKit
set_option maxRecDepth 10000
set_option maxHeartbeats 8000000
def yT:List Md.Vr->Nat
  | []=>0
  | v :: l=>v.name.size+1+yT l
theorem y3N (a b:List Md.Vr):yT (a++b)=yT a+yT b:=by
  induction a with
  | nil=>simp [yT]
  | cons r a ih=>simp only [List.cons_append,yT,ih];omega
theorem y3O {l:List Md.Vr} {k:Nat} (h:k<l.length):yT (l.take (k+1))=yT (l.take k)+(l[k].name.size+1):=by
  rw [List.take_succ_eq_append_getElem h,y3N];simp [yT]
def yU:List Md.Cn->Nat
  | []=>0
  | c :: l=>xI c+yU l
theorem y3P (a b:List Md.Cn):yU (a++b)=yU a+yU b:=by
  induction a with
  | nil=>simp [yU]
  | cons r a ih=>simp only [List.cons_append,yU,ih];omega
theorem QY {l:List Md.Cn} {k:Nat} (h:k<l.length):yU (l.take (k+1))=yU (l.take k)+xI l[k]:=by
  rw [List.take_succ_eq_append_getElem h,y3P];simp [yU]
def zS (m:Md.Mo):Nat:=yT m.vars+yU m.cons+m.goal.length
theorem y3Q (P:Nat) (left:Int) (s:ByteArray) (w:World) (h:CountAt w P left) (hl:left<=20000) (hl2:-9223372036854775807<=left) (hs:s.size<=maxLen):Calls Tryz.prog 53 #[.pointer (some ⟨P,0,none⟩),.string s] w fun e w'=>e=.returned (.tuple #[])/\Took P left (s.size+1:Nat) w w':=by
  have H1:Hid (Calls Tryz.prog 55 #[.pointer (some ⟨P,0,none⟩),.int .i64 1] w fun e w'=>xH e/\Took P left 1 w w'):=zP P left 1 w h hl hl2 (by decide);have HS:Hid (s.size<=maxLen):=hs;clear h hs;go_enter Tryz.func53,Tryz.ntmps53;go_wp2_with fail
  refine mcA H1.out ?_;rintro e w1 ⟨⟨b1,rfl⟩,⟨⟨l1,hC1,h11,h12,hT1⟩,hG1⟩⟩;have H2:Hid (Calls Tryz.prog 55 #[.pointer (some ⟨P,0,none⟩),.int .i64 (s.size:Int)] w1 fun e w'=>xH e/\Took P l1 s.size w1 w'):=zP P l1 s.size w1 hC1 h11 h12 HS.out;have HT1:Hid (0<=l1->l1+1<=left):=hT1;have HG1:Hid (w.grownBy w1 (some P)):=hG1;clear hC1 hT1 hG1;go_wp2_with fail
  refine mcA H2.out ?_;rintro e w2 ⟨⟨b2,rfl⟩,⟨⟨l2,hC2,h21,h22,hT2⟩,hG2⟩⟩;go_wp2_with fail
  go_end0;exact ⟨rfl,⟨⟨l2,hC2,h21,h22,fun h=>by have b1:=hT2 h;have b2:=HT1.out (by omega);omega⟩,yL HG1.out hG2⟩⟩
theorem y0x (P:Nat) (left:Int) (m:Md.Mo) (vv vc vg:Value) (w:World) (h:CountAt w P left) (hl:left<=20000) (hl2:-9223372036854775807<=left) (w0:World) (h0:MoAt w0 m vv vc vg) (hb0:Below w0.heap.size w0 w) (hP0:w0.heap.size<=P) :
    Calls Tryz.prog 24 #[.pointer (some ⟨P,0,none⟩),yp m vv vc vg] w fun e w'=>e=.returned (.tuple #[])/\Took P left (zS m) w w':=by
  obtain ⟨va,vp,rfl,hvm⟩:=h0.v.form;obtain ⟨ca,cp,rfl,hcm⟩:=h0.c.form;obtain ⟨ga,gp,rfl,hgm⟩:=h0.g.form;have Hgm:Hid (m.goal.length<=maxLen):=hgm;unfold maxLen at hvm hcm hgm;have hP:=h.lt;obtain ⟨W,hW⟩:∃ W,w.alloc (.cells #[.slice va m.vars.length vp,.slice ca m.cons.length cp,.bool m.has,.slice ga m.goal.length gp] 26)=W:=⟨_,rfl⟩;have hbW:Below w.heap.size w W:=bAe hW;have hN:W.heap[w.heap.size]?=some (.cells #[.slice va m.vars.length vp,.slice ca m.cons.length cp,.bool m.has,.slice ga m.goal.length gp] 26):=hAe hW;have hNl:w.heap.size<W.heap.size:=(hLt hN);have HN:Hid (∀ w',W.grownBy w' (some P)->w'.heap[w.heap.size]?=some (.cells #[.slice va m.vars.length vp,.slice ca m.cons.length cp,.bool m.has,.slice ga m.goal.length gp] 26)):=fun w' hg=>(hg.block _ hNl (fun e=>by injection e with e;omega)).trans hN
  have HG0:Hid (w.grownBy W (some P)):=QD hbW;have HBW:Hid (∀ w',W.grownBy w' (some P)->Below w0.heap.size w0 w'):=fun w' hg=>X8 hb0 (yL HG0.out hg) hP0
  have HM:Hid (MoAt w0 m (.slice va m.vars.length vp) (.slice ca m.cons.length cp) (.slice ga m.goal.length gp)):=h0;have HC0:Hid (CountAt W P left):=h.below hbW;obtain ⟨⟨p0,p1,p2,p3⟩,_⟩:=box4 hN;unfold yp;clear h0 hb0 hP0 h hbW hN;go_enter Tryz.func24,Tryz.ntmps24;go_wp2_with fail
  go_loopw [4] (fun iv wr=>∃ (k:Nat) (lf:Int),iv=.int .i64 (k:Int)/\k<=m.vars.length/\Hid (CountAt wr P lf)/\lf<=20000/\-9223372036854775807<=lf/\Hid (0<=lf->lf+(yT (m.vars.take k):Int)<=left)/\Hid (W.grownBy wr (some P))) (fun iv _=>m.vars.length-(intOf iv).toNat)
  case atStart=>exact ⟨0,left,rfl,Nat.zero_le _,HC0,hl,hl2,(fun _=>by simp [yT]),Yk _ _⟩
  case round=>
    obtain ⟨k,lf,rfl,hk,hCw,h1,h2,hT,hG⟩:=hrel;clear p0 p1 p2 p3;obtain ⟨⟨p0,p1,p2,p3⟩,_⟩:=box4 (HN.out _ hG.out);rename World=>wk
    by_cases hlt:k<m.vars.length
    · have hkI:(k:Int)<(m.vars.length:Int):=by omega
      by_cases h0:0<=lf
      · have hd:decide (0<=lf)=true:=by simpa using h0
        obtain ⟨a',c',hve,_,hvn,hvo⟩:=HM.out.v;injection hve with e1 e2 e3;subst e1 e3;obtain ⟨b,off,rfl,hb,hc⟩:=hvo (by omega);have d0:=((HBW.out _ hG.out).cell (p:=⟨b,off+k * 3,none⟩) hb).trans (hc k hlt).1;have hnx:Hid (yT (m.vars.take (k+1))=yT (m.vars.take k)+(m.vars[k].name.size+1)):=y3O hlt;have H77:Hid (Calls Tryz.prog 53 #[.pointer (some ⟨P,0,none⟩),.string m.vars[k].name] wk fun e w''=>e=.returned (.tuple #[])/\Took P lf (m.vars[k].name.size+1:Nat) wk w''):=y3Q P lf m.vars[k].name wk hCw.out h1 h2 (hvn _ (List.getElem_mem hlt));clear hvo hc hvn;generalize m.vars[k]=v at *
        go_wp2_with (first
          | (go_at_call 25;refine (zT P lf _ hCw.out).mono ?_;rintro e w' ⟨rfl,hww⟩;rw [hww])
          | (go_at_call 53;refine mcA H77.out ?_;rintro e w1 ⟨rfl,⟨⟨l1,hC1,h11,h12,hT1⟩,hG1⟩⟩))
        go_roundw
        case rel=>exact ⟨k+1,l1,by go_num,by omega,hC1,h11,h12,(fun h=>by have b1:=hT1 h;have b2:=hT.out (by omega);rw [hnx.out];omega),yL hG.out hG1⟩
        case measure=>simp [intOf];omega
      · have hd:decide (0<=lf)=false:=by simpa using h0
        have HX:Hid (0<=lf->lf+(yT m.vars:Int)<=left):=fun h=>absurd h h0
        go_wp2_with (go_at_call 25;refine (zT P lf _ hCw.out).mono ?_;rintro e w' ⟨rfl,hww⟩;rw [hww]);go_loopw [5] (fun iv wr=>∃ (k:Nat) (lf:Int),iv=.int .i64 (k:Int)/\k<=m.cons.length/\Hid (CountAt wr P lf)/\lf<=20000/\-9223372036854775807<=lf/\Hid (0<=lf->lf+(yT m.vars:Int)+(yU (m.cons.take k):Int)<=left)/\Hid (W.grownBy wr (some P))) (fun iv _=>m.cons.length-(intOf iv).toNat)
        case atStart=>exact ⟨0,lf,rfl,Nat.zero_le _,hCw,h1,h2,(fun h=>by have:=HX.out h;simp [yU];omega),hG⟩
        case round=>
          obtain ⟨i,lf2,rfl,hi,hCw2,a1,a2,hT2,hG2⟩:=hrel;clear p0 p1 p2 p3;obtain ⟨⟨p0,p1,p2,p3⟩,_⟩:=box4 (HN.out _ hG2.out)
          by_cases hit:i<m.cons.length
          · have hiI:(i:Int)<(m.cons.length:Int):=by omega
            by_cases h0':0<=lf2
            · have hd':decide (0<=lf2)=true:=by simpa using h0'
              obtain ⟨a',c',hce,_,hco⟩:=HM.out.c;injection hce with e1 e2 e3;subst e1 e3;obtain ⟨b,off,rfl,hb,hc⟩:=hco (by omega);obtain ⟨vt,vx,vb,vr,hcn,hcl⟩:=hc i hit;obtain ⟨ta,tc,rfl,_⟩:=hcn.t.form;obtain ⟨xa,xc,rfl,_⟩:=hcn.x.form;obtain ⟨ba,bc,rfl,_⟩:=hcn.b.form;obtain ⟨ra,rc,rfl,_⟩:=hcn.r.form;obtain ⟨d0,d1,d2,d3,d4,d5,d6,d7,d8,d9⟩:=hcl.below (HBW.out _ hG2.out);have hnx:Hid (yU (m.cons.take (i+1))=yU (m.cons.take i)+xI m.cons[i]):=QY hit;have H78:Hid (Calls Tryz.prog 54 #[.pointer (some ⟨P,0,none⟩),yh m.cons[i] _ _ _ _] _ fun e w''=>e=.returned (.tuple #[])/\Took P lf2 (xI m.cons[i]) _ w''):=QF P lf2 m.cons[i] _ _ _ _ _ hCw2.out a1 a2 (fun w'' hg'=>hcn.below (HBW.out _ (yL hG2.out hg')));unfold yh at H78;clear hco hc hcn;generalize m.cons[i]=c at *
              go_wp2_with (first
                | (go_at_call 25;refine (zT P lf2 _ hCw2.out).mono ?_;rintro e w' ⟨rfl,hww⟩;rw [hww])
                | (go_at_call 54;refine mcA H78.out ?_;rintro e w1 ⟨rfl,⟨⟨l1,hC1,h11,h12,hT1⟩,hG1⟩⟩))
              go_roundw
              case rel=>exact ⟨i+1,l1,by go_num,by omega,hC1,h11,h12,(fun h=>by have b1:=hT1 h;have b2:=hT2.out (by omega);rw [hnx.out];omega),yL hG2.out hG1⟩
              case measure=>simp [intOf];omega
            · have hd':decide (0<=lf2)=false:=by simpa using h0'
              have HX2:Hid (0<=lf2->lf2+(yT m.vars:Int)+(yU m.cons:Int)<=left):=fun h=>absurd h h0'
              have H28:Hid (Calls Tryz.prog 55 #[.pointer (some ⟨P,0,none⟩),.int .i64 (m.goal.length:Int)] _ fun e w'=>xH e/\Took P lf2 m.goal.length _ w'):=zP P lf2 m.goal.length _ hCw2.out a1 a2 Hgm.out;go_wp2_with (first | (go_at_call 25;refine (zT P lf2 _ hCw2.out).mono ?_;rintro e w' ⟨rfl,hww⟩;rw [hww]) | (go_at_call 55;refine mcA H28.out ?_;rintro e w1 ⟨⟨b1,rfl⟩,⟨⟨l1,hC1,h11,h12,hT1⟩,hG1⟩⟩));go_end0;exact ⟨rfl,⟨⟨l1,hC1,h11,h12,fun h=>by have b1:=hT1 h;have b2:=HX2.out (by omega);unfold zS;omega⟩,yL HG0.out (yL hG2.out hG1)⟩⟩
          · have hiI:¬ (i:Int)<(m.cons.length:Int):=by omega
            have HX2:Hid (0<=lf2->lf2+(yT m.vars:Int)+(yU m.cons:Int)<=left):=by
              have:=hT2.out;rw [List.take_of_length_le (by omega)] at this;exact this
            have H28:Hid (Calls Tryz.prog 55 #[.pointer (some ⟨P,0,none⟩),.int .i64 (m.goal.length:Int)] _ fun e w'=>xH e/\Took P lf2 m.goal.length _ w'):=zP P lf2 m.goal.length _ hCw2.out a1 a2 Hgm.out;go_wp2_with (go_at_call 55;refine mcA H28.out ?_;rintro e w1 ⟨⟨b1,rfl⟩,⟨⟨l1,hC1,h11,h12,hT1⟩,hG1⟩⟩);go_end0;exact ⟨rfl,⟨⟨l1,hC1,h11,h12,fun h=>by have b1:=hT1 h;have b2:=HX2.out (by omega);unfold zS;omega⟩,yL HG0.out (yL hG2.out hG1)⟩⟩
    · have hkI:¬ (k:Int)<(m.vars.length:Int):=by omega
      have HX:Hid (0<=lf->lf+(yT m.vars:Int)<=left):=by
        have:=hT.out;rw [List.take_of_length_le (by omega)] at this;exact this
      go_wp2_with fail
      go_loopw [5] (fun iv wr=>∃ (k:Nat) (lf:Int),iv=.int .i64 (k:Int)/\k<=m.cons.length/\Hid (CountAt wr P lf)/\lf<=20000/\-9223372036854775807<=lf/\Hid (0<=lf->lf+(yT m.vars:Int)+(yU (m.cons.take k):Int)<=left)/\Hid (W.grownBy wr (some P))) (fun iv _=>m.cons.length-(intOf iv).toNat)
      case atStart=>exact ⟨0,lf,rfl,Nat.zero_le _,hCw,h1,h2,(fun h=>by have:=HX.out h;simp [yU];omega),hG⟩
      case round=>
        obtain ⟨i,lf2,rfl,hi,hCw2,a1,a2,hT2,hG2⟩:=hrel;clear p0 p1 p2 p3;obtain ⟨⟨p0,p1,p2,p3⟩,_⟩:=box4 (HN.out _ hG2.out)
        by_cases hit:i<m.cons.length
        · have hiI:(i:Int)<(m.cons.length:Int):=by omega
          by_cases h0':0<=lf2
          · have hd':decide (0<=lf2)=true:=by simpa using h0'
            obtain ⟨a',c',hce,_,hco⟩:=HM.out.c;injection hce with e1 e2 e3;subst e1 e3;obtain ⟨b,off,rfl,hb,hc⟩:=hco (by omega);obtain ⟨vt,vx,vb,vr,hcn,hcl⟩:=hc i hit;obtain ⟨ta,tc,rfl,_⟩:=hcn.t.form;obtain ⟨xa,xc,rfl,_⟩:=hcn.x.form;obtain ⟨ba,bc,rfl,_⟩:=hcn.b.form;obtain ⟨ra,rc,rfl,_⟩:=hcn.r.form;obtain ⟨d0,d1,d2,d3,d4,d5,d6,d7,d8,d9⟩:=hcl.below (HBW.out _ hG2.out);have hnx:Hid (yU (m.cons.take (i+1))=yU (m.cons.take i)+xI m.cons[i]):=QY hit;have H78:Hid (Calls Tryz.prog 54 #[.pointer (some ⟨P,0,none⟩),yh m.cons[i] _ _ _ _] _ fun e w''=>e=.returned (.tuple #[])/\Took P lf2 (xI m.cons[i]) _ w''):=QF P lf2 m.cons[i] _ _ _ _ _ hCw2.out a1 a2 (fun w'' hg'=>hcn.below (HBW.out _ (yL hG2.out hg')));unfold yh at H78;clear hco hc hcn;generalize m.cons[i]=c at *
            go_wp2_with (first
              | (go_at_call 25;refine (zT P lf2 _ hCw2.out).mono ?_;rintro e w' ⟨rfl,hww⟩;rw [hww])
              | (go_at_call 54;refine mcA H78.out ?_;rintro e w1 ⟨rfl,⟨⟨l1,hC1,h11,h12,hT1⟩,hG1⟩⟩))
            go_roundw
            case rel=>exact ⟨i+1,l1,by go_num,by omega,hC1,h11,h12,(fun h=>by have b1:=hT1 h;have b2:=hT2.out (by omega);rw [hnx.out];omega),yL hG2.out hG1⟩
            case measure=>simp [intOf];omega
          · have hd':decide (0<=lf2)=false:=by simpa using h0'
            have HX2:Hid (0<=lf2->lf2+(yT m.vars:Int)+(yU m.cons:Int)<=left):=fun h=>absurd h h0'
            have H28:Hid (Calls Tryz.prog 55 #[.pointer (some ⟨P,0,none⟩),.int .i64 (m.goal.length:Int)] _ fun e w'=>xH e/\Took P lf2 m.goal.length _ w'):=zP P lf2 m.goal.length _ hCw2.out a1 a2 Hgm.out;go_wp2_with (first | (go_at_call 25;refine (zT P lf2 _ hCw2.out).mono ?_;rintro e w' ⟨rfl,hww⟩;rw [hww]) | (go_at_call 55;refine mcA H28.out ?_;rintro e w1 ⟨⟨b1,rfl⟩,⟨⟨l1,hC1,h11,h12,hT1⟩,hG1⟩⟩));go_end0;exact ⟨rfl,⟨⟨l1,hC1,h11,h12,fun h=>by have b1:=hT1 h;have b2:=HX2.out (by omega);unfold zS;omega⟩,yL HG0.out (yL hG2.out hG1)⟩⟩
        · have hiI:¬ (i:Int)<(m.cons.length:Int):=by omega
          have HX2:Hid (0<=lf2->lf2+(yT m.vars:Int)+(yU m.cons:Int)<=left):=by
            have:=hT2.out;rw [List.take_of_length_le (by omega)] at this;exact this
          have H28:Hid (Calls Tryz.prog 55 #[.pointer (some ⟨P,0,none⟩),.int .i64 (m.goal.length:Int)] _ fun e w'=>xH e/\Took P lf2 m.goal.length _ w'):=zP P lf2 m.goal.length _ hCw2.out a1 a2 Hgm.out;go_wp2_with (go_at_call 55;refine mcA H28.out ?_;rintro e w1 ⟨⟨b1,rfl⟩,⟨⟨l1,hC1,h11,h12,hT1⟩,hG1⟩⟩);go_end0;exact ⟨rfl,⟨⟨l1,hC1,h11,h12,fun h=>by have b1:=hT1 h;have b2:=HX2.out (by omega);unfold zS;omega⟩,yL HG0.out (yL hG2.out hG1)⟩⟩
end Go.Proofs.YtjgghimjnbjlbaaGreatDoor

namespace Go.Proofs.YtjgghimjnbjlbaaGreatDoor.Doc
open Go.RowKit
set_option maxRecDepth 10000
set_option maxHeartbeats 8000000
theorem X4 {w w':World} {B:Nat} (h:Below B w w') (n:Nat):Below B w (w'.drewN n):=⟨h.os,h.tape,h.output,h.size,h.block⟩
theorem y0s (m:Md.Mo) (vv vc vg:Value) (w:World) (h:MoAt w m vv vc vg):Calls Tryz.prog 56 #[yp m vv vc vg] w fun e w'=>e=.returned (.bool (Md.rightB m))/\Below w.heap.size w w':=by
  obtain ⟨W,hW⟩:∃ W,w.alloc (.cells #[vv,vc,.bool m.has,vg] 26)=W:=⟨_,rfl⟩;have hbW:Below w.heap.size w W:=bAe hW;have hN:W.heap[w.heap.size]?=some (.cells #[vv,vc,.bool m.has,vg] 26):=hAe hW;have HB:Hid (Below w.heap.size w W):=hbW;have HM:Hid (∀ w',Below W.heap.size W w'->MoAt w' m vv vc vg):=fun w' hb=>(h.below hbW).below hb
  have HN:Hid (∀ w',Below W.heap.size W w'->w'.heap[w.heap.size]?=some (.cells #[vv,vc,.bool m.has,vg] 26)):=fun w' hb=>(hb.block _ (hLt hN)).trans hN
  have HNL:Hid (w.heap.size<W.heap.size):=(hLt hN);obtain ⟨va,vp,rfl,hvm⟩:=h.v.form;obtain ⟨ca,cp,rfl,hcm⟩:=h.c.form;obtain ⟨ga,gp,rfl,hgm⟩:=h.g.form;unfold maxLen at hvm hcm hgm;obtain ⟨⟨p0,p1,p2,p3⟩,_⟩:=box4 hN;have H8:Hid (Calls Tryz.prog 73 #[.agg #[.slice va m.vars.length vp,.slice ca m.cons.length cp,.bool m.has,.slice ga m.goal.length gp]] W fun e w'=>e=.returned (.tuple #[.int .i64 (Md.check m).1,.int .i64 (Md.check m).2])/\Below W.heap.size W w'):=y0t m _ _ _ W (HM.out W (Below.refl _ _));unfold yp;clear h hbW hN;obtain ⟨r,hr⟩:∃ r,(Md.check m).2=r:=⟨_,rfl⟩;have hres:Hid (Md.rightB m=(r==0)):=by show _=_;unfold Md.rightB;rw [hr]
  rw [hr] at H8;clear hr;go_enter Tryz.func56,Tryz.ntmps56;go_wp2_with (go_at_call 73;refine mcA H8.out ?_;rintro e w1 ⟨rfl,hb1⟩);go_ret;exact ⟨yk hres.out.symm,HB.out.trans (hb1.mono HB.out.size)⟩
theorem y0u {m:Md.Mo} {most:Int} (h:Md.rightB m=true) (hm:most<1):Md.product m most=(0,false):=by
  rw [Md.product_yes h];have hr:=Md.rightB_of h
  cases hv:m.vars with
  | nil=>have:=hr.nv.1;rw [hv] at this;simp at this
  | cons v l =>
    have hb:=Md.bounds_of (hr.var v (by rw [hv];simp)).2;have hs:0<v.hi-v.lo+1:=by omega
    have hle:most.tdiv (v.hi-v.lo+1)<1:=by
      rcases Int.lt_or_le (most.tdiv (v.hi-v.lo+1)) 1 with h1 | h1
      · exact h1
      · have:=Z9 hs (Int.le_refl 1) h1
        omega
    simp only [Md.prod,if_pos hle];rfl
theorem refProduct_any (m:Md.Mo) (vv vc vg:Value) (most:Int) (w:World) (h:MoAt w m vv vc vg) (hmo0:-9223372036854775808<=most) (hmo:most<=9223372036854775807):Calls Tryz.prog 26 #[yp m vv vc vg,.int .i64 most] w fun e w'=>e=.returned (.tuple #[.int .i64 (Md.product m most).1,.bool (Md.product m most).2])/\Below w.heap.size w w':=by
  obtain ⟨W,hW⟩:∃ W,w.alloc (.cells #[vv,vc,.bool m.has,vg] 26)=W:=⟨_,rfl⟩;have hbW:Below w.heap.size w W:=bAe hW;have hN:W.heap[w.heap.size]?=some (.cells #[vv,vc,.bool m.has,vg] 26):=hAe hW;have HB:Hid (Below w.heap.size w W):=hbW;have HM:Hid (∀ w',Below W.heap.size W w'->MoAt w' m vv vc vg):=fun w' hb=>(h.below hbW).below hb
  have HN:Hid (∀ w',Below W.heap.size W w'->w'.heap[w.heap.size]?=some (.cells #[vv,vc,.bool m.has,vg] 26)):=fun w' hb=>(hb.block _ (hLt hN)).trans hN
  have HNL:Hid (w.heap.size<W.heap.size):=(hLt hN);obtain ⟨va,vp,rfl,hvm⟩:=h.v.form;obtain ⟨ca,cp,rfl,hcm⟩:=h.c.form;obtain ⟨ga,gp,rfl,hgm⟩:=h.g.form;unfold maxLen at hvm hcm hgm;obtain ⟨⟨p0,p1,p2,p3⟩,_⟩:=box4 hN;have H38:Hid (Calls Tryz.prog 56 #[.agg #[.slice va m.vars.length vp,.slice ca m.cons.length cp,.bool m.has,.slice ga m.goal.length gp]] W fun e w'=>e=.returned (.bool (Md.rightB m))/\Below W.heap.size W w'):=y0s m _ _ _ W (HM.out W (Below.refl _ _));have HMO:Hid (most<=9223372036854775807):=hmo;have HMO0:Hid (-9223372036854775808<=most):=hmo0;unfold yp;clear hbW hN hmo hmo0
  cases hr:Md.rightB m
  · have hres:Hid (Md.product m most=(0,false)):=Md.product_no hr
    rw [hr] at H38;clear hr h;go_enter Tryz.func26,Tryz.ntmps26;go_wp2_with (go_at_call 56;refine mcA H38.out ?_;rintro e w1 ⟨rfl,hb1⟩);go_ret2;exact ⟨xN hres.out.symm,HB.out.trans (hb1.mono HB.out.size)⟩
  have HR:Hid (Md.Right m):=Md.rightB_of hr
  by_cases hm1:most<1
  · have hres:Hid (Md.product m most=(0,false)):=y0u hr hm1
    rw [hr] at H38;clear hr h;go_enter Tryz.func26,Tryz.ntmps26;go_wp2_with (go_at_call 56;refine mcA H38.out ?_;rintro e w1 ⟨rfl,hb1⟩);all_goals first
      | (go_ret2;exact ⟨xN hres.out.symm,HB.out.trans (hb1.mono HB.out.size)⟩)
      | (exfalso;omega)
  have hres:Hid (Md.product m most=Za (Md.prod m.vars most 1)):=Md.product_yes hr;rw [hr] at H38;obtain ⟨a',c',hve,_,_,hvo⟩:=h.v;injection hve with e1 e2 e3;subst e1 e3;have HVO:Hid (0<m.vars.length->∃ b off,va=some ⟨b,off,none⟩/\b<w.heap.size/\∀ j (h:j<m.vars.length),w.cell? ⟨b,off+j * 3,none⟩=some (.string m.vars[j].name)/\w.cell? ⟨b,off+j * 3+1,none⟩=some (.int .i64 m.vars[j].lo)/\w.cell? ⟨b,off+j * 3+2,none⟩=some (.int .i64 m.vars[j].hi)):=hvo;have HV:Hid (∀ v∈m.vars,Md.boundsB v.lo v.hi=true):=fun v hv=>(HR.out.var v hv).2
  clear hr h hvo e2;go_enter Tryz.func26,Tryz.ntmps26;go_wp2_with (go_at_call 56;refine mcA H38.out ?_;rintro e w1 ⟨rfl,hb1⟩;have HB1:Hid (Below W.heap.size W w1):=hb1;clear hb1 p0 p1 p2 p3;obtain ⟨⟨p0,p1,p2,p3⟩,_⟩:=box4 (HN.out _ HB1.out));go_loopw [6,7] (fun sv iv wr=>∃ (k:Nat) (n:Int),iv=.int .i64 (k:Int)/\k<=m.vars.length/\sv=.int .i64 n/\1<=n/\Hid (n=1∨n<=most)/\Hid (Md.prod m.vars most 1=Md.prod (m.vars.drop k) most n)/\Hid (Below W.heap.size W wr)) (fun _ iv _=>m.vars.length-(intOf iv).toNat)
  case atStart=>exact ⟨0,1,rfl,Nat.zero_le _,rfl,by decide,.inl rfl,(show _=_ by rw [List.drop_zero]),HB1⟩
  case round=>
    obtain ⟨k,n,rfl,hk,rfl,hn1,hnm,hP,hT⟩:=hrel;clear p0 p1 p2 p3;obtain ⟨⟨p0,p1,p2,p3⟩,_⟩:=box4 (HN.out _ hT.out)
    by_cases hlt:k<m.vars.length
    · have hkI:(k:Int)<(m.vars.length:Int):=by omega
      obtain ⟨b,off,rfl,hb,hc⟩:=HVO.out (by omega);obtain ⟨c0,c1,c2⟩:=hc k hlt;have hbw:Below w.heap.size w wr:=HB.out.trans (hT.out.mono HB.out.size);have d1:=(hbw.cell (p:=⟨b,off+k * 3+1,none⟩) hb).trans c1;have d2:=(hbw.cell (p:=⟨b,off+k * 3+2,none⟩) hb).trans c2;obtain ⟨⟨b1,b2⟩,⟨b3,b4⟩,b5,b6⟩:=Md.bounds_of (HV.out _ (List.getElem_mem hlt));have hnx:Hid (Md.prod m.vars most 1=if most.tdiv (m.vars[k].hi-m.vars[k].lo+1)<n then none else Md.prod (m.vars.drop (k+1)) most (n * (m.vars[k].hi-m.vars[k].lo+1))):=by show _=_;rw [hP.out,Md.prod_next hlt]
      clear hc c0 c1 c2;generalize m.vars[k]=v at *
      have hs1:0<v.hi-v.lo+1:=by omega
      have hw1:IntKind.i64.wrap (v.hi-v.lo)=v.hi-v.lo:=Yc (by omega) (by omega);have hw2:IntKind.i64.wrap (v.hi-v.lo+1)=v.hi-v.lo+1:=Yc (by omega) (by omega);have HWE:Hid (wrap64 (most.tdiv (v.hi-v.lo+1))=most.tdiv (v.hi-v.lo+1)):=X6 hs1 HMO0.out HMO.out;clear hbw
      by_cases hq:wrap64 (most.tdiv (v.hi-v.lo+1))<n
      · have hfin:Hid (Md.product m most=(0,false)):=by show _=_;rw [hres.out,hnx.out,if_pos (by rw [<-HWE.out];exact hq)];rfl
        clear hnx;go_wp2_with fail
        go_quiet (fail)
        go_wp2_with fail
        all_goals first
          | (go_ret2;exact ⟨xN hfin.out.symm,X4 (HB.out.trans (hT.out.mono HB.out.size)) _⟩)
          | (exfalso;omega)
      · have hle:n * (v.hi-v.lo+1)<=most:=Z9 hs1 hn1 (by rw [<-HWE.out];omega)
        have hge:1<=n * (v.hi-v.lo+1):=by
          have:=Int.mul_le_mul hn1 (show 1<=v.hi-v.lo+1 by omega) (by decide) (by omega);simpa using this
        have HLE:Hid (n * (v.hi-v.lo+1)<=most):=hle;have HGE:Hid (1<=n * (v.hi-v.lo+1)):=hge;have HW:Hid (wrap64 (n * (v.hi-v.lo+1))=n * (v.hi-v.lo+1)):=X7 (by omega) (Int.le_trans hle HMO.out);have HNX:Hid (Md.prod m.vars most 1=Md.prod (m.vars.drop (k+1)) most (n * (v.hi-v.lo+1))):=by show _=_;rw [hnx.out,if_neg (by rw [<-HWE.out];exact hq)]
        clear hnx hle hge;go_wp2_with fail
        go_quiet (fail)
        go_wp2_with fail
        all_goals first
          | (exfalso;omega)
          | (refine ⟨⟨k+1,n * (v.hi-v.lo+1),by go_num,by omega,by rw [HW.out],HGE.out,.inr HLE.out,HNX,X4 hT.out _⟩,?_⟩;simp [intOf];omega)
    · have hkI:¬ (k:Int)<(m.vars.length:Int):=by omega
      have hfin:Hid (Md.product m most=(n,true)):=by
        show _=_;rw [hres.out,hP.out,List.drop_eq_nil_of_le (by omega)];rfl
      go_wp2_with fail
      go_ret2;exact ⟨xN hfin.out.symm,HB.out.trans (hT.out.mono HB.out.size)⟩
end Go.Proofs.YtjgghimjnbjlbaaGreatDoor.Doc
namespace Go.Proofs.YtjgghimjnbjlbaaGreatDoor
open Go.RowKit
theorem y0v (m:Md.Mo) (vv vc vg:Value) (w:World) (h:MoAt w m vv vc vg):Calls Tryz.prog 7 #[yp m vv vc vg] w fun e w'=>∃ b,e=.returned (.bool b)/\(b=true->zS m<=20000)/\Below w.heap.size w w':=by
  obtain ⟨va,vp,rfl,_⟩:=h.v.form;obtain ⟨ca,cp,rfl,_⟩:=h.c.form;obtain ⟨ga,gp,rfl,_⟩:=h.g.form;obtain ⟨W,hW⟩:∃ W,w.alloc (.cells #[.slice va m.vars.length vp,.slice ca m.cons.length cp,.bool m.has,.slice ga m.goal.length gp] 26)=W:=⟨_,rfl⟩;have hbW:Below w.heap.size w W:=bAe hW;have hN:W.heap[w.heap.size]?=some (.cells #[.slice va m.vars.length vp,.slice ca m.cons.length cp,.bool m.has,.slice ga m.goal.length gp] 26):=hAe hW;obtain ⟨W1,hW1⟩:∃ W1,W.alloc (.cells #[.int .i64 20000] 105)=W1:=⟨_,rfl⟩;have hbW1:Below W.heap.size W W1:=bAe hW1;have hNl:w.heap.size<W.heap.size:=(hLt hN);have hN1:=(hbW1.block _ hNl).trans hN;have hcnt:CountAt W1 W.heap.size 20000:=hAe hW1;have hb1:Below w.heap.size w W1:=hbW.trans (hbW1.mono hbW.size)
  have HM:Hid (Calls Tryz.prog 23 #[.int .i64 20000] W fun e w'=>e=.returned (.pointer (some ⟨W.heap.size,0,none⟩))/\w'=W1):=by
    have:=y0w 20000 W;rw [hW1] at this;exact this
  have H27:Hid (Calls Tryz.prog 24 #[.pointer (some ⟨W.heap.size,0,none⟩),.agg #[.slice va m.vars.length vp,.slice ca m.cons.length cp,.bool m.has,.slice ga m.goal.length gp]] W1 fun e w'=>e=.returned (.tuple #[])/\Took W.heap.size 20000 (zS m) W1 w'):=
    y0x W.heap.size 20000 m _ _ _ W1 hcnt (by decide) (by decide) w h hb1 hbW.size
  have HPd:Hid (∀ w' most,Below w.heap.size w w'->-9223372036854775808<=most->most<=9223372036854775807->Calls Tryz.prog 26 #[.agg #[.slice va m.vars.length vp,.slice ca m.cons.length cp,.bool m.has,.slice ga m.goal.length gp],.int .i64 most] w' fun e w2=>e=.returned (.tuple #[.int .i64 (Md.product m most).1,.bool (Md.product m most).2])/\Below w'.heap.size w' w2):=fun w' most hb h1 h2=>Doc.refProduct_any m _ _ _ most w' (h.below hb) h1 h2
  obtain ⟨⟨p0,p1,p2,p3⟩,_⟩:=box4 hN1;have HB1:Hid (Below w.heap.size w W1):=hb1;have HP:Hid (w.heap.size<=W.heap.size):=hbW.size;have HN1:Hid (∀ w',W1.grownBy w' (some W.heap.size)->w'.heap[w.heap.size]?=some (.cells #[.slice va m.vars.length vp,.slice ca m.cons.length cp,.bool m.has,.slice ga m.goal.length gp] 26)):=fun w' hg=>(hg.block _ (Nat.lt_of_lt_of_le hNl hbW1.size) (fun e=>by injection e with e;omega)).trans hN1
  unfold yp;clear h hbW hN hbW1 hN1 hcnt hb1 hW1;go_enter Tryz.func7,Tryz.ntmps7
  go_wp2_with (first
    | (go_at_call 23;refine mcA HM.out ?_;rintro e w' ⟨rfl,hww⟩;rw [hww];clear hww)
    | fail)
  refine mcA H27.out ?_;rintro e w2 ⟨rfl,⟨⟨l2,hC2,h21,h22,hT2⟩,hG2⟩⟩;have HC2:Hid (CountAt w2 W.heap.size l2):=hC2;have HT2:Hid (0<=l2->l2+(zS m:Int)<=20000):=hT2;have hb2:Below w.heap.size w w2:=X8 HB1.out hG2 HP.out;have HB2:Hid (Below w.heap.size w w2):=hb2;have HN2:Hid (w2.heap[w.heap.size]?=some (.cells #[.slice va m.vars.length vp,.slice ca m.cons.length cp,.bool m.has,.slice ga m.goal.length gp] 26)):=HN1.out w2 hG2;clear hC2 hT2 hG2 hb2 p0 p1 p2 p3 HM H27 HN1;obtain ⟨⟨p0,p1,p2,p3⟩,_⟩:=box4 HN2.out
  by_cases hl:0<=l2
  · have hd:decide (0<=l2)=true:=by simpa using hl
    have HCo:Hid (zS m<=20000):=by have:=HT2.out hl;show _<=_;omega
    go_wp2_with (go_at_call 25;refine (zT W.heap.size l2 _ HC2.out).mono ?_;rintro e w' ⟨rfl,hww⟩;rw [hww];clear hww);refine mcA (HPd.out w2 100000 HB2.out (by decide) (by decide)) ?_;rintro e w3 ⟨rfl,hb3⟩;have HB3:Hid (Below w.heap.size w w3):=HB2.out.trans (hb3.mono HB2.out.size);have HN3:Hid (w3.heap[w.heap.size]?=some (.cells #[.slice va m.vars.length vp,.slice ca m.cons.length cp,.bool m.has,.slice ga m.goal.length gp] 26)):=(hb3.block _ (hLt HN2.out)).trans HN2.out;obtain ⟨r1,hr1⟩:∃ r,(Md.product m 100000).1=r:=⟨_,rfl⟩;obtain ⟨r2,hr2⟩:∃ r,(Md.product m 100000).2=r:=⟨_,rfl⟩;rw [hr1,hr2];clear hb3 p0 p1 p2 p3 hr1 hr2 hd hl;obtain ⟨⟨p0,p1,p2,p3⟩,_⟩:=box4 HN3.out;go_wp2_with fail
    refine mcA (HPd.out w3 700 HB3.out (by decide) (by decide)) ?_;rintro e w4 ⟨rfl,hb4⟩;have HB4:Hid (Below w.heap.size w w4):=HB3.out.trans (hb4.mono HB3.out.size);obtain ⟨s1,hs1⟩:∃ r,(Md.product m 700).1=r:=⟨_,rfl⟩;obtain ⟨s2,hs2⟩:∃ r,(Md.product m 700).2=r:=⟨_,rfl⟩;rw [hs1,hs2];clear hb4 hs1 hs2
    cases s2 <;> cases r2 <;> (go_wp2_with fail;go_ret;exact ⟨_,rfl,fun _=>HCo.out,HB4.out⟩)
  · have hd:decide (0<=l2)=false:=by simpa using hl
    go_wp2_with (go_at_call 25;refine (zT W.heap.size l2 _ HC2.out).mono ?_;rintro e w' ⟨rfl,hww⟩;rw [hww];clear hww);go_ret;exact ⟨_,rfl,fun h=>(by cases h),HB2.out⟩
end Go.Proofs.YtjgghimjnbjlbaaGreatDoor
