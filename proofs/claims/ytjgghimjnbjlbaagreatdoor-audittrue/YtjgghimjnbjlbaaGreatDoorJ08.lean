/-
  Put together: MdHoldsA, DcRefA, DcRefB, MdRefA, MdConMath, MdHoldsB, MdHoldsC, MdTable.
-/
import Derived.Test.YtjgghimjnbjlbaaGreatDoorJ04
import Derived.Test.YtjgghimjnbjlbaaGreatDoorMdSum
import Derived.Test.YtjgghimjnbjlbaaGreatDoorJ05
import Derived.Deep.RegionHeld3
namespace Go.Proofs.YtjgghimjnbjlbaaGreatDoor
open Go.RowKit
set_option maxRecDepth 10000
set_option maxHeartbeats 8000000
theorem MInts.open2 {w:World} {v:Value} {l:List Int} (h:MInts w v l) (h0:0<l.length) :
    ∃ b off cap,v=.slice (some ⟨b,off,none⟩) l.length cap/\b<w.heap.size/\l.length<=maxLen/\∀ m (hm:m<l.length),w.cell? ⟨b,off+m,none⟩=some (.int .i64 l[m]):=by
  obtain ⟨a,cap,rfl,hm,hc⟩:=h;obtain ⟨b,off,rfl,hb,hcell⟩:=hc h0;exact ⟨b,off,cap,rfl,hb,hm,hcell⟩
theorem zq {x:Int} {n:Nat} (h:0<=x/\x<n):∃ m:Nat,x=(m:Int)/\m<n:=⟨x.toNat,by omega,by omega⟩
theorem y3S (c:Md.Cn) (vt vx vb vr vv:Value) (vs:List Int) (w:World) (h:CnAt w c vt vx vb vr) (hv:MInts w vv vs) (hf:Md.Fit c vs.length) (hn:vs.all Md.numB=true):Calls Tryz.prog 108 #[yh c vt vx vb vr,vv] w fun e w'=>e=.returned (.bool (Md.neB c vs))/\Below w.heap.size w w':=by
  have HF:Hid (Md.Fit c vs.length):=hf;have HN:Hid (vs.all Md.numB=true):=hn;obtain ⟨ta,tc,rfl,_⟩:=id h.t;obtain ⟨xa,xc,rfl,_⟩:=id h.x;obtain ⟨ba,bc,rfl,_⟩:=id h.b;obtain ⟨ra,rc,rfl,_⟩:=id h.r;have hnp:0<vs.length:=by have:=hf.x;omega
  obtain ⟨bv,ov,vc,rfl,hbv,hmv,hvc⟩:=hv.open hnp;unfold maxLen at hmv;obtain ⟨W,hW,hbW,c0,c1,c2,c3,c4,c5,c6,c7,c8,c9,hsN,HCC⟩:=yE c.kind c.op c.k c.v c.x c.y (.slice ta c.terms.length tc) (.slice xa c.xs.length xc) (.slice ba c.table.length bc) (.slice ra c.rows.length rc) w;have HB:=hid hbW;have HC:=hid (h.below hbW);have HV:=hid (hv.below hbW);have HVC:Hid (∀ w',Below W.heap.size W w'->∀ m:Nat,m<vs.length->w'.cell? ⟨bv,ov+m,none⟩=some (.int .i64 (Md.val vs (m:Int)))):=fun w' hb m hm=>((hb.cell (p:=⟨bv,ov+m,none⟩) (Nat.lt_of_lt_of_le hbv hbW.size)).trans (hbW.cell (p:=⟨bv,ov+m,none⟩) hbv)).trans (hvc m hm)
  unfold yh;clear h hv hf hn hvc hbW;obtain ⟨mx,hmx,hlx⟩:=zq HF.out.x;obtain ⟨my,hmy,hly⟩:=zq HF.out.y;have hlxI:(mx:Int)<(vs.length:Int):=by omega
  have hlyI:(my:Int)<(vs.length:Int):=by omega
  have dx:=HVC.out W (Below.refl _ _) mx hlx;have dy:=HVC.out W (Below.refl _ _) my hly;have by1:=Md.val_mem HN.out (my:Int);have hkb:=HF.out.k;have hw:IntKind.i64.wrap (Md.val vs (my:Int)+c.k)=Md.val vs (my:Int)+c.k:=Yc (by omega) (by omega);have hres:Hid (Md.neB c vs=!decide (Md.val vs (mx:Int)=Md.val vs (my:Int)+c.k)):=by show _=_;unfold Md.neB;rw [hmx,hmy];simp
  rw [hmx] at c5;rw [hmy] at c6;clear hmx hmy;generalize Md.val vs (mx:Int)=x at *
  generalize Md.val vs (my:Int)=y at *
  go_enter Tryz.func108,Tryz.ntmps108;go_wp2;go_quiet (fail)
  go_wp2;go_ret;exact ⟨yk (by rw [hres.out];rw [Bool.eq_iff_iff];simp),below_drewN HB.out _⟩
theorem y3V (c:Md.Cn) (vt vx vb vr vv:Value) (vs:List Int) (w:World) (h:CnAt w c vt vx vb vr) (hv:MInts w vv vs) (hf:Md.Fit c vs.length) (hn:vs.all Md.numB=true) (hxs:Md.fXs c.kind=true):Calls Tryz.prog 113 #[yh c vt vx vb vr,vv] w fun e w'=>e=.returned (.bool (Md.mxB c vs))/\Below w.heap.size w w':=by
  have HF:Hid (Md.Fit c vs.length):=hf;have HN:Hid (vs.all Md.numB=true):=hn;obtain ⟨ta,tc,rfl,_⟩:=id h.t;obtain ⟨bx,ox,xc,rfl,hbx,hmx,hxc⟩:=h.x.open2 (hf.xp hxs);obtain ⟨ba,bc,rfl,_⟩:=id h.b;obtain ⟨ra,rc,rfl,_⟩:=id h.r;have hnp:0<vs.length:=by have:=hf.x;omega
  obtain ⟨bv,ov,vc,rfl,hbv,hmv,hvc⟩:=hv.open hnp;unfold maxLen at hmv;obtain ⟨W,hW,hbW,c0,c1,c2,c3,c4,c5,c6,c7,c8,c9,hsN,HCC⟩:=yE c.kind c.op c.k c.v c.x c.y (.slice ta c.terms.length tc) (.slice (some ⟨bx,ox,none⟩) c.xs.length xc) (.slice ba c.table.length bc) (.slice ra c.rows.length rc) w;have HB:=hid hbW;have HC:=hid (h.below hbW);have HV:=hid (hv.below hbW);have HVC:Hid (∀ w',Below W.heap.size W w'->∀ m:Nat,m<vs.length->w'.cell? ⟨bv,ov+m,none⟩=some (.int .i64 (Md.val vs (m:Int)))):=fun w' hb m hm=>((hb.cell (p:=⟨bv,ov+m,none⟩) (Nat.lt_of_lt_of_le hbv hbW.size)).trans (hbW.cell (p:=⟨bv,ov+m,none⟩) hbv)).trans (hvc m hm)
  unfold maxLen at hmx;have HXC:Hid (∀ w',Below W.heap.size W w'->∀ m (hm:m<c.xs.length),w'.cell? ⟨bx,ox+m,none⟩=some (.int .i64 c.xs[m])):=fun w' hb m hm=>((hb.cell (p:=⟨bx,ox+m,none⟩) (Nat.lt_of_lt_of_le hbx hbW.size)).trans (hbW.cell (p:=⟨bx,ox+m,none⟩) hbx)).trans (hxc m hm)
  unfold yh;clear h hv hf hn hvc hbW hxc;obtain ⟨my,hmy,hly⟩:=zq HF.out.y;have hx0:0<c.xs.length:=HF.out.xp hxs;obtain ⟨m0,hm0,hl0⟩:=zq (HF.out.xs _ (List.getElem_mem hx0));have hlyI:(my:Int)<(vs.length:Int):=by omega
  have hl0I:(m0:Int)<(vs.length:Int):=by omega
  have hx0I:(0:Int)<(c.xs.length:Int):=by omega
  have dy:=HVC.out W (Below.refl _ _) my hly;have d0:=HVC.out W (Below.refl _ _) m0 hl0;have x0:=HXC.out W (Below.refl _ _) 0 hx0;rw [hm0] at x0;rw [hmy] at c6;have H0:Hid ((∀ x∈c.xs.take 0,Md.val vs x<=Md.val vs (m0:Int))/\∃ x∈c.xs,Md.val vs x=Md.val vs (m0:Int)):=⟨fun x hx=>by simp at hx,_,List.getElem_mem hx0,by rw [hm0]⟩;have HY:Hid (c.y=(my:Int)):=hmy;have hxlen:(c.xs.length:Int)<=64:=by have:=HF.out.xl;omega
  clear hm0 hmy;simp only [Nat.add_zero] at x0;go_enter Tryz.func113,Tryz.ntmps113;go_wp2;go_loop [5,18] (fun gv iv=>∃ (k:Nat) (g:Int),iv=.int .i64 (k:Int)/\gv=.int .i64 g/\k<=c.xs.length/\Hid ((∀ x∈c.xs.take k,Md.val vs x<=g)/\∃ x∈c.xs,Md.val vs x=g)) (fun _ iv=>c.xs.length-(intOf iv).toNat)
  case atStart=>exact ⟨0,_,rfl,rfl,Nat.zero_le _,H0⟩
  case round=>
    obtain ⟨k,g,rfl,rfl,hk,hH⟩:=hrel;clear H0 d0 x0
    by_cases hlt:k<c.xs.length
    · have hkI:(k:Int)<(c.xs.length:Int):=by omega
      obtain ⟨m,hm,hl⟩:=zq (HF.out.xs _ (List.getElem_mem hlt));have hlI:(m:Int)<(vs.length:Int):=by omega
      have dm:=HVC.out W (Below.refl _ _) m hl;have xk:=HXC.out W (Below.refl _ _) k hlt;rw [hm] at xk;have hnx:Hid ((∀ x∈c.xs.take (k+1),Md.val vs x<=max g (Md.val vs (m:Int)))/\∃ x∈c.xs,Md.val vs x=max g (Md.val vs (m:Int))):=by
        refine ⟨fun x hx=>?_,?_⟩
        · rw [List.take_succ_eq_append_getElem hlt,List.mem_append,List.mem_singleton] at hx
          rcases hx with hx | rfl
          · have:=hH.out.1 x hx;omega
          · rw [hm];omega
        · rcases Int.le_total g (Md.val vs (m:Int)) with hle | hle
          · first
              | (rw [Int.max_eq_right hle];exact ⟨_,List.getElem_mem hlt,by rw [hm]⟩)
              | (rw [Int.min_eq_left hle];exact hH.out.2)
          · first
              | (rw [Int.max_eq_left hle];exact hH.out.2)
              | (rw [Int.min_eq_right hle];exact ⟨_,List.getElem_mem hlt,by rw [hm]⟩)
      clear hm;generalize Md.val vs (m:Int)=y at *
      go_wp2;go_round
      case rel=>exact ⟨k+1,max g y,by go_num,by congr 1;split <;> omega,by omega,hnx⟩
      case measure=>simp [intOf];omega
    · have hkI:¬ (k:Int)<(c.xs.length:Int):=by omega
      have hH2:=hH.out;rw [List.take_of_length_le (by omega)] at hH2;have hres:Hid (Md.mxB c vs=decide (Md.val vs c.y=g)):=Md.mx_is hH2.1 hH2.2;clear hH2;rw [HY.out] at hres;go_wp2;go_ret;exact ⟨yk (by rw [hres.out];rw [Bool.eq_iff_iff];simp),HB.out⟩
theorem y3W (c:Md.Cn) (vt vx vb vr vv:Value) (vs:List Int) (w:World) (h:CnAt w c vt vx vb vr) (hv:MInts w vv vs) (hf:Md.Fit c vs.length) (hn:vs.all Md.numB=true) (hxs:Md.fXs c.kind=true):Calls Tryz.prog 114 #[yh c vt vx vb vr,vv] w fun e w'=>e=.returned (.bool (Md.mnB c vs))/\Below w.heap.size w w':=by
  have HF:Hid (Md.Fit c vs.length):=hf;have HN:Hid (vs.all Md.numB=true):=hn;obtain ⟨ta,tc,rfl,_⟩:=id h.t;obtain ⟨bx,ox,xc,rfl,hbx,hmx,hxc⟩:=h.x.open2 (hf.xp hxs);obtain ⟨ba,bc,rfl,_⟩:=id h.b;obtain ⟨ra,rc,rfl,_⟩:=id h.r;have hnp:0<vs.length:=by have:=hf.x;omega
  obtain ⟨bv,ov,vc,rfl,hbv,hmv,hvc⟩:=hv.open hnp;unfold maxLen at hmv;obtain ⟨W,hW,hbW,c0,c1,c2,c3,c4,c5,c6,c7,c8,c9,hsN,HCC⟩:=yE c.kind c.op c.k c.v c.x c.y (.slice ta c.terms.length tc) (.slice (some ⟨bx,ox,none⟩) c.xs.length xc) (.slice ba c.table.length bc) (.slice ra c.rows.length rc) w;have HB:=hid hbW;have HC:=hid (h.below hbW);have HV:=hid (hv.below hbW);have HVC:Hid (∀ w',Below W.heap.size W w'->∀ m:Nat,m<vs.length->w'.cell? ⟨bv,ov+m,none⟩=some (.int .i64 (Md.val vs (m:Int)))):=fun w' hb m hm=>((hb.cell (p:=⟨bv,ov+m,none⟩) (Nat.lt_of_lt_of_le hbv hbW.size)).trans (hbW.cell (p:=⟨bv,ov+m,none⟩) hbv)).trans (hvc m hm)
  unfold maxLen at hmx;have HXC:Hid (∀ w',Below W.heap.size W w'->∀ m (hm:m<c.xs.length),w'.cell? ⟨bx,ox+m,none⟩=some (.int .i64 c.xs[m])):=fun w' hb m hm=>((hb.cell (p:=⟨bx,ox+m,none⟩) (Nat.lt_of_lt_of_le hbx hbW.size)).trans (hbW.cell (p:=⟨bx,ox+m,none⟩) hbx)).trans (hxc m hm)
  unfold yh;clear h hv hf hn hvc hbW hxc;obtain ⟨my,hmy,hly⟩:=zq HF.out.y;have hx0:0<c.xs.length:=HF.out.xp hxs;obtain ⟨m0,hm0,hl0⟩:=zq (HF.out.xs _ (List.getElem_mem hx0));have hlyI:(my:Int)<(vs.length:Int):=by omega
  have hl0I:(m0:Int)<(vs.length:Int):=by omega
  have hx0I:(0:Int)<(c.xs.length:Int):=by omega
  have dy:=HVC.out W (Below.refl _ _) my hly;have d0:=HVC.out W (Below.refl _ _) m0 hl0;have x0:=HXC.out W (Below.refl _ _) 0 hx0;rw [hm0] at x0;rw [hmy] at c6;have H0:Hid ((∀ x∈c.xs.take 0,Md.val vs (m0:Int)<=Md.val vs x)/\∃ x∈c.xs,Md.val vs x=Md.val vs (m0:Int)):=⟨fun x hx=>by simp at hx,_,List.getElem_mem hx0,by rw [hm0]⟩;have HY:Hid (c.y=(my:Int)):=hmy;have hxlen:(c.xs.length:Int)<=64:=by have:=HF.out.xl;omega
  clear hm0 hmy;simp only [Nat.add_zero] at x0;go_enter Tryz.func114,Tryz.ntmps114;go_wp2;go_loop [5,18] (fun gv iv=>∃ (k:Nat) (g:Int),iv=.int .i64 (k:Int)/\gv=.int .i64 g/\k<=c.xs.length/\Hid ((∀ x∈c.xs.take k,g<=Md.val vs x)/\∃ x∈c.xs,Md.val vs x=g)) (fun _ iv=>c.xs.length-(intOf iv).toNat)
  case atStart=>exact ⟨0,_,rfl,rfl,Nat.zero_le _,H0⟩
  case round=>
    obtain ⟨k,g,rfl,rfl,hk,hH⟩:=hrel;clear H0 d0 x0
    by_cases hlt:k<c.xs.length
    · have hkI:(k:Int)<(c.xs.length:Int):=by omega
      obtain ⟨m,hm,hl⟩:=zq (HF.out.xs _ (List.getElem_mem hlt));have hlI:(m:Int)<(vs.length:Int):=by omega
      have dm:=HVC.out W (Below.refl _ _) m hl;have xk:=HXC.out W (Below.refl _ _) k hlt;rw [hm] at xk;have hnx:Hid ((∀ x∈c.xs.take (k+1),min g (Md.val vs (m:Int))<=Md.val vs x)/\∃ x∈c.xs,Md.val vs x=min g (Md.val vs (m:Int))):=by
        refine ⟨fun x hx=>?_,?_⟩
        · rw [List.take_succ_eq_append_getElem hlt,List.mem_append,List.mem_singleton] at hx
          rcases hx with hx | rfl
          · have:=hH.out.1 x hx;omega
          · rw [hm];omega
        · rcases Int.le_total g (Md.val vs (m:Int)) with hle | hle
          · first
              | (rw [Int.max_eq_right hle];exact ⟨_,List.getElem_mem hlt,by rw [hm]⟩)
              | (rw [Int.min_eq_left hle];exact hH.out.2)
          · first
              | (rw [Int.max_eq_left hle];exact hH.out.2)
              | (rw [Int.min_eq_right hle];exact ⟨_,List.getElem_mem hlt,by rw [hm]⟩)
      clear hm;generalize Md.val vs (m:Int)=y at *
      go_wp2;go_round
      case rel=>exact ⟨k+1,min g y,by go_num,by congr 1;split <;> omega,by omega,hnx⟩
      case measure=>simp [intOf];omega
    · have hkI:¬ (k:Int)<(c.xs.length:Int):=by omega
      have hH2:=hH.out;rw [List.take_of_length_le (by omega)] at hH2;have hres:Hid (Md.mnB c vs=decide (Md.val vs c.y=g)):=Md.mn_is hH2.1 hH2.2;clear hH2;rw [HY.out] at hres;go_wp2;go_ret;exact ⟨yk (by rw [hres.out];rw [Bool.eq_iff_iff];simp),HB.out⟩
end Go.Proofs.YtjgghimjnbjlbaaGreatDoor

namespace Go.Proofs.YtjgghimjnbjlbaaGreatDoor.Doc
open Go.RowKit
set_option maxRecDepth 10000
set_option maxHeartbeats 8000000
def yx (l:List (Int × Int)) (n:Int):Int:=if (l.all fun t=>Md.plB n t.2)=true then (if Md.coefsB l=true then 0 else 45) else 44
theorem zU (v:Value) (l:List (Int × Int)) (n:Int) (w:World) (h:TermsAt w v l):Calls Tryz.prog 92 #[v,.int .i64 n] w fun e w'=>e=.returned (.int .i64 (yx l n))/\w'=w:=by
  obtain ⟨a,cap,rfl,hm,hc⟩:=h;unfold maxLen at hm;have HC:Hid (0<l.length->∃ b off,a=some ⟨b,off,none⟩/\b<w.heap.size/\∀ j (h:j<l.length),w.cell? ⟨b,off+j * 2,none⟩=some (.int .i64 l[j].1)/\w.cell? ⟨b,off+j * 2+1,none⟩=some (.int .i64 l[j].2)):=hc;clear hc;go_enter Tryz.func92,Tryz.ntmps92;go_wp2;go_loop [5] (fun iv=>∃ k:Nat,iv=.int .i64 (k:Int)/\k<=l.length/\Hid ((l.take k).all (fun t=>Md.plB n t.2)=true)) (fun iv=>l.length-(intOf iv).toNat)
  case atStart=>exact ⟨0,rfl,Nat.zero_le _,(show _=_ by simp)⟩
  case round=>
    obtain ⟨k,rfl,hk,hA⟩:=hrel
    by_cases hlt:k<l.length
    · obtain ⟨b,off,rfl,hb,hc⟩:=HC.out (by omega)
      obtain ⟨_,c2⟩:=hc k hlt;have hkI:(k:Int)<(l.length:Int):=by omega
      clear hc
      by_cases h1:l[k].2<0
      · have hres:Hid (yx l n=44):=by
          have:=Md.all_stop (p:=fun t=>Md.plB n t.2) hlt (decide_eq_false (by omega));show _=_;unfold yx;rw [this];rfl
        generalize l[k].2=x at *
        go_wp2;go_ret;exact ⟨yi hres.out.symm,rfl⟩
      · by_cases h2:n<=l[k].2
        · have hres:Hid (yx l n=44):=by
            have:=Md.all_stop (p:=fun t=>Md.plB n t.2) hlt (decide_eq_false (by omega));show _=_;unfold yx;rw [this];rfl
          generalize l[k].2=x at *
          go_wp2;go_ret;exact ⟨yi hres.out.symm,rfl⟩
        · have hres:Hid ((l.take (k+1)).all (fun t=>Md.plB n t.2)=true):=Md.all_next hA.out hlt (decide_eq_true (by omega))
          generalize l[k].2=x at *
          go_wp2;go_round
          case rel=>exact ⟨k+1,by go_num,by omega,hres⟩
          case measure=>simp [intOf];omega
    · have hkI:¬ (k:Int)<(l.length:Int):=by omega
      have hall:Hid ((l.all fun t=>Md.plB n t.2)=true):=Md.all_done hA.out (by omega);go_wp2;go_loop [6] (fun iv=>∃ k:Nat,iv=.int .i64 (k:Int)/\k<=l.length/\Hid ((l.take k).all (fun t=>Md.cfB t.1)=true)) (fun iv=>l.length-(intOf iv).toNat)
      case atStart=>exact ⟨0,rfl,Nat.zero_le _,(show _=_ by simp)⟩
      case round=>
        obtain ⟨k2,rfl,hk2,hA2⟩:=hrel
        by_cases hlt2:k2<l.length
        · obtain ⟨b,off,rfl,hb,hc⟩:=HC.out (by omega)
          obtain ⟨c1,_⟩:=hc k2 hlt2;have hkI2:(k2:Int)<(l.length:Int):=by omega
          clear hc
          cases hp:Md.cfB l[k2].1
          · have hres:Hid (yx l n=45):=by
              have h3:Md.coefsB l=false:=by unfold Md.coefsB;exact Md.all_stop hlt2 hp
              show _=_;unfold yx;rw [hall.out,h3];rfl
            generalize l[k2].1=x at *
            go_wp2_with (go_at_call 162;refine (Qk _ _).mono ?_;rintro e w' ⟨rfl,rfl⟩);go_ret;exact ⟨yi hres.out.symm,rfl⟩
          · have hres:Hid ((l.take (k2+1)).all (fun t=>Md.cfB t.1)=true):=Md.all_next hA2.out hlt2 hp
            generalize l[k2].1=x at *
            go_wp2_with (go_at_call 162;refine (Qk _ _).mono ?_;rintro e w' ⟨rfl,rfl⟩);go_round
            case rel=>exact ⟨k2+1,by go_num,by omega,hres⟩
            case measure=>simp [intOf];omega
        · have hkI2:¬ (k2:Int)<(l.length:Int):=by omega
          have hres:Hid (yx l n=0):=by
            have h3:Md.coefsB l=true:=by unfold Md.coefsB;exact Md.all_done hA2.out (by omega)
            show _=_;unfold yx;rw [hall.out,h3];rfl
          go_wp2;go_ret;exact ⟨yi hres.out.symm,rfl⟩
end Go.Proofs.YtjgghimjnbjlbaaGreatDoor.Doc

namespace Go.Proofs.YtjgghimjnbjlbaaGreatDoor.Doc
open Go.RowKit
set_option maxRecDepth 10000
set_option maxHeartbeats 8000000
theorem xb (c:Md.Cn) (vt vx vb vr:Value) (n:Int) (w:World) (h:CnAt w c vt vx vb vr):Calls Tryz.prog 160 #[yh c vt vx vb vr,.int .i64 n] w fun e w'=>e=.returned (.bool (Md.plB n c.x&&Md.plB n c.y&&c.xs.all (Md.plB n)))/\Below w.heap.size w w':=by
  obtain ⟨ta,tc,rfl,_⟩:=id h.t;obtain ⟨xa,xc,rfl,hxm,hxo⟩:=id h.x;obtain ⟨ba,bc,rfl,hbm,hbo⟩:=id h.b;obtain ⟨ra,rc,rfl,hrm,hro⟩:=id h.r;unfold maxLen at hxm hbm hrm;obtain ⟨W,hW,hbW,c0,c1,c2,c3,c4,c5,c6,c7,c8,c9,hsN,HCC⟩:=yE c.kind c.op c.k c.v c.x c.y (.slice ta c.terms.length tc) (.slice xa c.xs.length xc) (.slice ba c.table.length bc) (.slice ra c.rows.length rc) w;have HB:=hid hbW;have HC:=hid (h.below hbW);have HXO:=hid hxo;have HBO:=hid hbo;have HRO:=hid hro;unfold yh;clear h hxo hbo hro hbW;obtain ⟨q,hq⟩:∃ q,(Md.plB n c.x&&Md.plB n c.y)=q:=⟨_,rfl⟩;have HQ:Hid ((Md.plB n c.x&&Md.plB n c.y)=q):=hq;rw [hq];have tail:∀ (qv:Bool),qv=q->True:=fun _ _=>trivial
  clear hq tail
  cases p1:Md.plB n c.x
  all_goals cases p2:Md.plB n c.y
  all_goals
    go_enter Tryz.func160,Tryz.ntmps160;go_wp2_with (go_at_call 202;refine (Qj _ _ _).mono ?_;rintro e w' ⟨rfl,rfl⟩);have hq2:Hid (_=q):=HQ.out;rw [p1,p2] at hq2;go_loop [5,6] (fun bv iv=>∃ k:Nat,iv=.int .i64 (k:Int)/\k<=c.xs.length/\bv=.bool (q&&(c.xs.take k).all (Md.plB n))) (fun _ iv=>c.xs.length-(intOf iv).toNat)
    case atStart=>exact ⟨0,rfl,Nat.zero_le _,by rw [<-hq2.out];simp⟩
    case round=>
      obtain ⟨k,rfl,hk,rfl⟩:=hrel
      by_cases hlt:k<c.xs.length
      · obtain ⟨b,off,rfl,hb,hc⟩:=HXO.out (by omega)
        have hcell:=(HB.out.cell (p:=⟨b,off+k,none⟩) hb).trans (hc k hlt);have hkI:(k:Int)<(c.xs.length:Int):=by omega
        have hnx:Hid ((q&&(c.xs.take (k+1)).all (Md.plB n))=((q&&(c.xs.take k).all (Md.plB n))&&Md.plB n c.xs[k])):=by
          show _=_;rw [List.take_succ_eq_append_getElem hlt,List.all_append];simp [Bool.and_assoc]
        clear hc;generalize c.xs[k]=x at *
        cases hb1:(q&&(c.xs.take k).all (Md.plB n))
        · rw [hb1] at hnx
          go_wp2;go_round
          case rel=>exact ⟨k+1,by go_num,by omega,by rw [hnx.out];simp⟩
          case measure=>simp [intOf];omega
        · rw [hb1] at hnx
          go_wp2_with (go_at_call 202;refine (Qj _ _ _).mono ?_;rintro e w' ⟨rfl,rfl⟩);go_round
          case rel=>exact ⟨k+1,by go_num,by omega,by rw [hnx.out];simp⟩
          case measure=>simp [intOf];omega
      · have hkI:¬ (k:Int)<(c.xs.length:Int):=by omega
        rw [List.take_of_length_le (by omega)];go_wp2;go_ret;exact ⟨rfl,HB.out⟩
theorem xd (c:Md.Cn) (vt vx vb vr:Value) (w:World) (h:CnAt w c vt vx vb vr):Calls Tryz.prog 159 #[yh c vt vx vb vr] w fun e w'=>e=.returned (.bool (!(decide (8<c.xs.length)||Md.fewB c.rows.length 64||!(c.rows.all fun r=>r.length==c.xs.length))))/\Below w.heap.size w w':=by
  obtain ⟨ta,tc,rfl,_⟩:=id h.t;obtain ⟨xa,xc,rfl,hxm,hxo⟩:=id h.x;obtain ⟨ba,bc,rfl,hbm,hbo⟩:=id h.b;obtain ⟨ra,rc,rfl,hrm,hro⟩:=id h.r;unfold maxLen at hxm hbm hrm;obtain ⟨W,hW,hbW,c0,c1,c2,c3,c4,c5,c6,c7,c8,c9,hsN,HCC⟩:=yE c.kind c.op c.k c.v c.x c.y (.slice ta c.terms.length tc) (.slice xa c.xs.length xc) (.slice ba c.table.length bc) (.slice ra c.rows.length rc) w;have HB:=hid hbW;have HC:=hid (h.below hbW);have HXO:=hid hxo;have HBO:=hid hbo;have HRO:=hid hro;unfold yh;clear h hxo hbo hro hbW
  by_cases h8:8<c.xs.length
  · have h8I:(8:Int)<(c.xs.length:Int):=by omega
    go_enter Tryz.func159,Tryz.ntmps159;go_wp2;go_ret;exact ⟨yk (by simp [h8]),HB.out⟩
  · have h8I:¬ (8:Int)<(c.xs.length:Int):=by omega
    cases hfw:Md.fewB c.rows.length 64
    · go_enter Tryz.func159,Tryz.ntmps159
      go_wp2_with (go_at_call 91;refine (zB c.rows.length _).mono ?_;rintro e w' ⟨rfl,hww⟩;rw [hww]);go_loopw [3] (fun iv wr=>∃ k:Nat,iv=.int .i64 (k:Int)/\k<=c.rows.length/\Hid ((c.rows.take k).all (fun r=>r.length==c.xs.length)=true)/\Hid (Below W.heap.size W wr)) (fun iv _=>c.rows.length-(intOf iv).toNat)
      case atStart=>exact ⟨0,rfl,Nat.zero_le _,(show _=_ by simp),Below.refl _ _⟩
      case round=>
        obtain ⟨k,rfl,hk,hA,hB⟩:=hrel;obtain ⟨_,_,_,_,_,_,_,a7,_,a9⟩:=HCC.out _ hB.out
        by_cases hlt:k<c.rows.length
        · obtain ⟨b,off,rfl,hb,hc⟩:=HRO.out (by omega)
          obtain ⟨u,hcell,hu⟩:=hc k hlt;have hcw:=((HB.out.trans (hB.out.mono HB.out.size)).cell (p:=⟨b,off+k,none⟩) hb).trans hcell;obtain ⟨ua,uc,rfl,_⟩:=hu.form;have hkI:(k:Int)<(c.rows.length:Int):=by omega
          clear hc hu hcell
          by_cases he:(c.rows[k]).length=c.xs.length
          · have hnx:Hid ((c.rows.take (k+1)).all (fun r=>r.length==c.xs.length)=true):=Md.all_next hA.out hlt (by simpa using he)
            have heB:(((c.rows[k]).length:Int) != (c.xs.length:Int))=false:=by simp;omega
            generalize (c.rows[k]).length=y at *
            clear he;go_wp2;go_quiet (fail)
            go_wp2;go_roundw
            case rel=>exact ⟨k+1,by go_num,by omega,hnx,below_drewN hB.out _⟩
            case measure=>simp [intOf];omega
          · have hres:Hid ((c.rows.all fun r=>r.length==c.xs.length)=false):=Md.all_stop hlt (by simpa using he)
            have heB:(((c.rows[k]).length:Int) != (c.xs.length:Int))=true:=by simp;omega
            generalize (c.rows[k]).length=y at *
            clear he;go_wp2;go_quiet (fail)
            go_wp2;go_ret;exact ⟨yk (by rw [hres.out];simp),HB.out.trans ((below_drewN hB.out _).mono HB.out.size)⟩
        · have hkI:¬ (k:Int)<(c.rows.length:Int):=by omega
          have hres:Hid ((c.rows.all fun r=>r.length==c.xs.length)=true):=Md.all_done hA.out (by omega);go_wp2;go_ret;exact ⟨yk (by rw [hres.out]),HB.out.trans (hB.out.mono HB.out.size)⟩
    · go_enter Tryz.func159,Tryz.ntmps159
      go_wp2_with (go_at_call 91;refine (zB c.rows.length _).mono ?_;rintro e w' ⟨rfl,hww⟩;rw [hww]);go_ret;exact ⟨yk (by simp),HB.out⟩
end Go.Proofs.YtjgghimjnbjlbaaGreatDoor.Doc

namespace Go.Proofs.YtjgghimjnbjlbaaGreatDoor
open Go.RowKit
def yx (l:List (Int × Int)) (n:Int):Int:=if (l.all fun t=>Md.plB n t.2)=true then (if Md.coefsB l=true then 0 else 45) else 44
end Go.Proofs.YtjgghimjnbjlbaaGreatDoor

namespace Go.Proofs.YtjgghimjnbjlbaaGreatDoor
open Go.RowKit
theorem YG {c:Md.Cn} {n:Int} (h:Md.fOp c.kind=true) (h2:c.op<1∨3<c.op):Md.fault c n=43:=by
  have:Md.kindBad c.kind c.op=true:=by simp [Md.kindBad,h,h2]
  simp [Md.fault,this]
theorem xe {c:Md.Cn} (hk:1<=c.kind/\c.kind<=9) (h:¬ (Md.fOp c.kind=true/\(c.op<1∨3<c.op))):Md.kindBad c.kind c.op=false:=by
  rw [<-Bool.not_eq_true];simp only [Md.kindBad,Bool.or_eq_true,Bool.and_eq_true,decide_eq_true_eq];rintro (h1 | h1)
  · omega
  · exact h h1
theorem xf {c:Md.Cn} {n:Int} (h1:Md.kindBad c.kind c.op=false) (h2:(Md.plainBad c||Md.listBad c)=true):Md.fault c n=48:=by unfold Md.fault;rw [h1,h2];rfl
theorem xg {c:Md.Cn} {n:Int} (h1:Md.kindBad c.kind c.op=false) (h2:(Md.plainBad c||Md.listBad c)=false) (h3:Md.manyBad c=true):Md.fault c n=47:=by unfold Md.fault;rw [h1,h2,h3];rfl
theorem zg {c:Md.Cn} {n:Int} (h1:Md.kindBad c.kind c.op=false) (h2:(Md.plainBad c||Md.listBad c)=false) (h3:Md.manyBad c=false) (h4:Md.placesB c n=false):Md.fault c n=44:=by unfold Md.fault;rw [h1,h2,h3,h4];rfl
theorem xi {c:Md.Cn} {n:Int} (h1:Md.kindBad c.kind c.op=false) (h2:(Md.plainBad c||Md.listBad c)=false) (h3:Md.manyBad c=false) (h4:Md.placesB c n=true) (h5:Md.coefsB c.terms=false):Md.fault c n=45:=by unfold Md.fault;rw [h1,h2,h3,h4,h5];rfl
theorem yy {c:Md.Cn} {n:Int} (h1:Md.kindBad c.kind c.op=false) (h2:(Md.plainBad c||Md.listBad c)=false) (h3:Md.manyBad c=false) (h4:Md.placesB c n=true) (h5:Md.coefsB c.terms=true) (h6:Md.numsB c=false):Md.fault c n=46:=by unfold Md.fault;rw [h1,h2,h3,h4,h5,h6];rfl
theorem xo {c:Md.Cn} {n:Int} (h1:Md.kindBad c.kind c.op=false) (h2:(Md.plainBad c||Md.listBad c)=false) (h3:Md.manyBad c=false) (h4:Md.placesB c n=true) (h5:Md.coefsB c.terms=true) (h6:Md.numsB c=true):Md.fault c n=0:=by unfold Md.fault;rw [h1,h2,h3,h4,h5,h6];rfl
theorem xF {c:Md.Cn} {k:Int} (hk:c.kind=k) (h8:Md.fRows k=false) (h:(Md.plainBad c||Md.listBad c)=false):c.rows.all (fun r=>r.length==c.xs.length)=true:=by
  rw [Bool.or_eq_false_iff] at h;have h2:=h.2;unfold Md.listBad at h2;rw [hk,h8] at h2;simp only [Bool.or_eq_false_iff] at h2;have h3:=h2.2;simp at h3;rw [h3];rfl
theorem Qu {c:Md.Cn} (hk:c.kind=8):Md.manyBad c=(Md.fewB c.xs.length 8||Md.fewB c.rows.length 64||!(c.rows.all fun r=>r.length==c.xs.length)):=by
  unfold Md.manyBad;rw [hk];simp only [Md.fTerms,Md.fXs,Md.fTable,Md.fRows,Md.mostXs];simp
theorem Ql {c:Md.Cn} (hk:c.kind=8) (h:Md.fewB c.xs.length 64=true∨(decide (8<c.xs.length)||Md.fewB c.rows.length 64||!(c.rows.all fun r=>r.length==c.xs.length))=true):Md.manyBad c=true:=by
  rw [Qu hk];have h5:Md.fewB c.xs.length 64=true∨8<c.xs.length->Md.fewB c.xs.length 8=true:=fun h=>by
    unfold Md.fewB at *;simp only [decide_eq_true_eq] at *;omega
  rcases h with h | h
  · rw [h5 (.inl h)];rfl
  · rw [Bool.or_eq_true,Bool.or_eq_true,decide_eq_true_eq] at h
    rcases h with (h | h) | h
    · rw [h5 (.inr h)];rfl
    · rw [h];simp
    · rw [h];simp
theorem y2E {c:Md.Cn} (hk:c.kind=8) (h1:Md.fewB c.xs.length 64=false) (h:(decide (8<c.xs.length)||Md.fewB c.rows.length 64||!(c.rows.all fun r=>r.length==c.xs.length))=false):Md.manyBad c=false:=by
  rw [Qu hk];rw [Bool.or_eq_false_iff,Bool.or_eq_false_iff] at h;obtain ⟨⟨h2,h3⟩,h4⟩:=h;have h5:Md.fewB c.xs.length 8=false:=by
    unfold Md.fewB at *;simp only [decide_eq_false_iff_not] at *;omega
  rw [h3,h4,h5];rfl
theorem pl1 {c:Md.Cn} {n:Int} (h:(Md.plB n c.x&&Md.plB n c.y&&c.xs.all (Md.plB n))=false):Md.placesB c n=false:=by
  unfold Md.placesB
  cases hx:Md.plB n c.x <;> cases hy:Md.plB n c.y <;> cases hxs:c.xs.all (Md.plB n) <;> simp_all
theorem pl2 {c:Md.Cn} {n:Int} (h:(c.terms.all fun t=>Md.plB n t.2)=false):Md.placesB c n=false:=by
  unfold Md.placesB;rw [h];simp
theorem pl3 {c:Md.Cn} {n:Int} (h:(Md.plB n c.x&&Md.plB n c.y&&c.xs.all (Md.plB n))=true) (h2:(c.terms.all fun t=>Md.plB n t.2)=true):Md.placesB c n=true:=by
  unfold Md.placesB;rw [Bool.and_eq_true,Bool.and_eq_true] at h;rw [h.1.1,h.1.2,h.2,h2];rfl
theorem xh (l:List (Int × Int)) (n:Int):(yx l n=44/\(l.all fun t=>Md.plB n t.2)=false)∨(yx l n=45/\(l.all fun t=>Md.plB n t.2)=true/\Md.coefsB l=false)∨(yx l n=0/\(l.all fun t=>Md.plB n t.2)=true/\Md.coefsB l=true):=by
  unfold yx
  cases (l.all fun t=>Md.plB n t.2)
  · exact .inl ⟨rfl,rfl⟩
  · cases Md.coefsB l
    · exact .inr (.inl ⟨rfl,rfl,rfl⟩)
    · exact .inr (.inr ⟨rfl,rfl,rfl⟩)
theorem xm {c:Md.Cn} (h:c.rows.all (fun r=>r.all Md.numB)=false):Md.numsB c=false:=by unfold Md.numsB;rw [h];simp
theorem xn {c:Md.Cn} (h:c.table.all Md.numB=false):Md.numsB c=false:=by unfold Md.numsB;rw [h];simp
end Go.Proofs.YtjgghimjnbjlbaaGreatDoor

namespace Go.Proofs.YtjgghimjnbjlbaaGreatDoor
open Go.RowKit
set_option maxRecDepth 10000
set_option maxHeartbeats 8000000
def Kh (W:World) (N:Nat) (c:Md.Cn) (ta:Option Addr) (tc:Nat) (xa:Option Addr) (xc:Nat) (ba:Option Addr) (bc:Nat) (ra:Option Addr) (rc:Nat) (vv:Value) (vs:List Int) (w':World):Prop:=
  w'.cell? ⟨N,0,none⟩=some (.int .i64 c.kind)/\w'.cell? ⟨N,1,none⟩=some (.int .i64 c.op)/\w'.cell? ⟨N,2,none⟩=some (.slice ta c.terms.length tc)/\w'.cell? ⟨N,3,none⟩=some (.int .i64 c.k)/\w'.cell? ⟨N,4,none⟩=some (.int .i64 c.v)/\w'.cell? ⟨N,5,none⟩=some (.int .i64 c.x)/\w'.cell? ⟨N,6,none⟩=some (.int .i64 c.y)/\w'.cell? ⟨N,7,none⟩=some (.slice xa c.xs.length xc)/\w'.cell? ⟨N,8,none⟩=some (.slice ba c.table.length bc)/\w'.cell? ⟨N,9,none⟩=some (.slice ra c.rows.length rc)/\N<w'.heap.size/\CnAt w' c (.slice ta c.terms.length tc) (.slice xa c.xs.length xc) (.slice ba c.table.length bc) (.slice ra c.rows.length rc)/\MInts w' vv vs/\Below W.heap.size W w'
theorem Kh.next {W:World} {N:Nat} {c:Md.Cn} {ta:Option Addr} {tc:Nat} {xa:Option Addr} {xc:Nat} {ba:Option Addr} {bc:Nat} {ra:Option Addr} {rc:Nat} {vv:Value} {vs:List Int} {w1 w2:World} (H:Kh W N c ta tc xa xc ba bc ra rc vv vs w1) (hb:Below w1.heap.size w1 w2):Kh W N c ta tc xa xc ba bc ra rc vv vs w2:=by
  obtain ⟨a0,a1,a2,a3,a4,a5,a6,a7,a8,a9,hN,hC,hV,hW⟩:=H;exact ⟨(hb.cell (p:=⟨N,0,none⟩) hN).trans a0,(hb.cell (p:=⟨N,1,none⟩) hN).trans a1,(hb.cell (p:=⟨N,2,none⟩) hN).trans a2,(hb.cell (p:=⟨N,3,none⟩) hN).trans a3,(hb.cell (p:=⟨N,4,none⟩) hN).trans a4,(hb.cell (p:=⟨N,5,none⟩) hN).trans a5,(hb.cell (p:=⟨N,6,none⟩) hN).trans a6,(hb.cell (p:=⟨N,7,none⟩) hN).trans a7,(hb.cell (p:=⟨N,8,none⟩) hN).trans a8,(hb.cell (p:=⟨N,9,none⟩) hN).trans a9,Nat.lt_of_lt_of_le hN hb.size,hC.below hb,hV.below hb,hW.trans (hb.mono hW.size)⟩
theorem Kh.cn {W:World} {N:Nat} {c:Md.Cn} {ta:Option Addr} {tc:Nat} {xa:Option Addr} {xc:Nat} {ba:Option Addr} {bc:Nat} {ra:Option Addr} {rc:Nat} {vv:Value} {vs:List Int} {w1:World} (H:Kh W N c ta tc xa xc ba bc ra rc vv vs w1):CnAt w1 c (.slice ta c.terms.length tc) (.slice xa c.xs.length xc) (.slice ba c.table.length bc) (.slice ra c.rows.length rc):=H.2.2.2.2.2.2.2.2.2.2.2.1
theorem Kh.vals {W:World} {N:Nat} {c:Md.Cn} {ta:Option Addr} {tc:Nat} {xa:Option Addr} {xc:Nat} {ba:Option Addr} {bc:Nat} {ra:Option Addr} {rc:Nat} {vv:Value} {vs:List Int} {w1:World} (H:Kh W N c ta tc xa xc ba bc ra rc vv vs w1):MInts w1 vv vs:=H.2.2.2.2.2.2.2.2.2.2.2.2.1
theorem Kh.rest {W:World} {N:Nat} {c:Md.Cn} {ta:Option Addr} {tc:Nat} {xa:Option Addr} {xc:Nat} {ba:Option Addr} {bc:Nat} {ra:Option Addr} {rc:Nat} {vv:Value} {vs:List Int} {w1:World} (H:Kh W N c ta tc xa xc ba bc ra rc vv vs w1):Below W.heap.size W w1:=H.2.2.2.2.2.2.2.2.2.2.2.2.2
theorem y3R (c:Md.Cn) (vt vx vb vr vv:Value) (vs:List Int) (w:World) (h:CnAt w c vt vx vb vr) (hv:MInts w vv vs) (hf:Md.Fit c vs.length) (hn:vs.all Md.numB=true) (hop:1<=c.op/\c.op<=3):Calls Tryz.prog 106 #[yh c vt vx vb vr,vv] w fun e w'=>e=.returned (.bool (Md.linB c vs))/\Below w.heap.size w w':=by
  have HF:Hid (Md.Fit c vs.length):=hf;have HN:Hid (vs.all Md.numB=true):=hn;obtain ⟨ta,tc,rfl,_⟩:=id h.t;obtain ⟨xa,xc,rfl,_⟩:=id h.x;obtain ⟨ba,bc,rfl,_⟩:=id h.b;obtain ⟨ra,rc,rfl,_⟩:=id h.r;have hnp:0<vs.length:=by have:=hf.x;omega
  obtain ⟨bv,ov,vc,rfl,hbv,hmv,hvc⟩:=hv.open hnp;unfold maxLen at hmv;obtain ⟨W,hW,hbW,c0,c1,c2,c3,c4,c5,c6,c7,c8,c9,hsN,HCC⟩:=yE c.kind c.op c.k c.v c.x c.y (.slice ta c.terms.length tc) (.slice xa c.xs.length xc) (.slice ba c.table.length bc) (.slice ra c.rows.length rc) w;have HB:=hid hbW;have HC:=hid (h.below hbW);have HV:=hid (hv.below hbW);have HVC:Hid (∀ w',Below W.heap.size W w'->∀ m:Nat,m<vs.length->w'.cell? ⟨bv,ov+m,none⟩=some (.int .i64 (Md.val vs (m:Int)))):=fun w' hb m hm=>((hb.cell (p:=⟨bv,ov+m,none⟩) (Nat.lt_of_lt_of_le hbv hbW.size)).trans (hbW.cell (p:=⟨bv,ov+m,none⟩) hbv)).trans (hvc m hm)
  unfold yh;clear h hv hf hn hvc hbW;have hS0:Hid (Kh W w.heap.size c ta tc xa xc ba bc ra rc (.slice (some ⟨bv,ov,none⟩) vs.length vc) vs W):=⟨c0,c1,c2,c3,c4,c5,c6,c7,c8,c9,hsN,HC.out,HV.out,Below.refl _ _⟩;go_enter Tryz.func106,Tryz.ntmps106;go_wp2
  go_region_held3 (fun w'=>w'.cell? ⟨w.heap.size,0,none⟩=some (.int .i64 c.kind)/\w'.cell? ⟨w.heap.size,1,none⟩=some (.int .i64 c.op)/\w'.cell? ⟨w.heap.size,2,none⟩=some (.slice ta c.terms.length tc)/\w'.cell? ⟨w.heap.size,3,none⟩=some (.int .i64 c.k)/\w'.cell? ⟨w.heap.size,4,none⟩=some (.int .i64 c.v)/\w'.cell? ⟨w.heap.size,5,none⟩=some (.int .i64 c.x)/\w'.cell? ⟨w.heap.size,6,none⟩=some (.int .i64 c.y)/\w'.cell? ⟨w.heap.size,7,none⟩=some (.slice xa c.xs.length xc)/\w'.cell? ⟨w.heap.size,8,none⟩=some (.slice ba c.table.length bc)/\w'.cell? ⟨w.heap.size,9,none⟩=some (.slice ra c.rows.length rc)/\w.heap.size<w'.heap.size/\CnAt w' c (.slice ta c.terms.length tc) (.slice xa c.xs.length xc) (.slice ba c.table.length bc) (.slice ra c.rows.length rc)/\MInts w' (.slice (some ⟨bv,ov,none⟩) vs.length vc) vs/\Below W.heap.size W w')
    (first | exact hS0.out.next (Below.refl _ _).drew | exact Kh.next (by assumption) (by assumption) | assumption)
    (first | (go_at_call 42;refine (YI _ _ c.terms vs _ (Kh.cn (by assumption)).t (Kh.vals (by assumption)) HN.out HF.out.tx HF.out.tc HF.out.tl).mono ?_;rintro e w' ⟨rfl,hb⟩) | (go_at_call 173;refine (K1 _ _ _ _ hop).mono ?_;rintro e w' ⟨rfl,rfl⟩))
  rename_i hHeld
  have hfin:Below w.heap.size w _:=HB.out.trans ((Kh.rest hHeld).mono HB.out.size);go_wp2;go_ret;exact ⟨rfl,hfin⟩
theorem y3X (c:Md.Cn) (vt vx vb vr vv:Value) (vs:List Int) (w:World) (h:CnAt w c vt vx vb vr) (hv:MInts w vv vs) (hf:Md.Fit c vs.length) (hn:vs.all Md.numB=true):Calls Tryz.prog 115 #[yh c vt vx vb vr,vv] w fun e w'=>e=.returned (.bool (Md.rfB c vs))/\Below w.heap.size w w':=by
  have HF:Hid (Md.Fit c vs.length):=hf;have HN:Hid (vs.all Md.numB=true):=hn;obtain ⟨ta,tc,rfl,_⟩:=id h.t;obtain ⟨xa,xc,rfl,_⟩:=id h.x;obtain ⟨ba,bc,rfl,_⟩:=id h.b;obtain ⟨ra,rc,rfl,_⟩:=id h.r;have hnp:0<vs.length:=by have:=hf.x;omega
  obtain ⟨bv,ov,vc,rfl,hbv,hmv,hvc⟩:=hv.open hnp;unfold maxLen at hmv;obtain ⟨W,hW,hbW,c0,c1,c2,c3,c4,c5,c6,c7,c8,c9,hsN,HCC⟩:=yE c.kind c.op c.k c.v c.x c.y (.slice ta c.terms.length tc) (.slice xa c.xs.length xc) (.slice ba c.table.length bc) (.slice ra c.rows.length rc) w;have HB:=hid hbW;have HC:=hid (h.below hbW);have HV:=hid (hv.below hbW);have HVC:Hid (∀ w',Below W.heap.size W w'->∀ m:Nat,m<vs.length->w'.cell? ⟨bv,ov+m,none⟩=some (.int .i64 (Md.val vs (m:Int)))):=fun w' hb m hm=>((hb.cell (p:=⟨bv,ov+m,none⟩) (Nat.lt_of_lt_of_le hbv hbW.size)).trans (hbW.cell (p:=⟨bv,ov+m,none⟩) hbv)).trans (hvc m hm)
  unfold yh;clear h hv hf hn hvc hbW;have hS0:Hid (Kh W w.heap.size c ta tc xa xc ba bc ra rc (.slice (some ⟨bv,ov,none⟩) vs.length vc) vs W):=⟨c0,c1,c2,c3,c4,c5,c6,c7,c8,c9,hsN,HC.out,HV.out,Below.refl _ _⟩;obtain ⟨mx,hmx,hlx⟩:=zq HF.out.x;have hlxI:(mx:Int)<(vs.length:Int):=by omega
  have HX:Hid (c.x=(mx:Int)):=hmx;clear hmx
  by_cases hle:Md.sum c.terms vs<=c.k
  · have hres:Hid (Md.rfB c vs=decide (Md.val vs (mx:Int)=1)):=by show _=_;unfold Md.rfB;rw [if_pos hle,HX.out]
    go_enter Tryz.func115,Tryz.ntmps115;go_wp2
    go_region_held3 (fun w'=>w'.cell? ⟨w.heap.size,0,none⟩=some (.int .i64 c.kind)/\w'.cell? ⟨w.heap.size,1,none⟩=some (.int .i64 c.op)/\w'.cell? ⟨w.heap.size,2,none⟩=some (.slice ta c.terms.length tc)/\w'.cell? ⟨w.heap.size,3,none⟩=some (.int .i64 c.k)/\w'.cell? ⟨w.heap.size,4,none⟩=some (.int .i64 c.v)/\w'.cell? ⟨w.heap.size,5,none⟩=some (.int .i64 c.x)/\w'.cell? ⟨w.heap.size,6,none⟩=some (.int .i64 c.y)/\w'.cell? ⟨w.heap.size,7,none⟩=some (.slice xa c.xs.length xc)/\w'.cell? ⟨w.heap.size,8,none⟩=some (.slice ba c.table.length bc)/\w'.cell? ⟨w.heap.size,9,none⟩=some (.slice ra c.rows.length rc)/\w.heap.size<w'.heap.size/\CnAt w' c (.slice ta c.terms.length tc) (.slice xa c.xs.length xc) (.slice ba c.table.length bc) (.slice ra c.rows.length rc)/\MInts w' (.slice (some ⟨bv,ov,none⟩) vs.length vc) vs/\Below W.heap.size W w')
      (first | exact hS0.out.next (Below.refl _ _).drew | exact Kh.next (by assumption) (by assumption))
      (first | (go_at_call 42;refine (YI _ _ c.terms vs _ (Kh.cn (by assumption)).t (Kh.vals (by assumption)) HN.out HF.out.tx HF.out.tc HF.out.tl).mono ?_;rintro e w' ⟨rfl,hb⟩))
    rename_i hHeld
    have hfin:Hid (Below w.heap.size w _):=HB.out.trans ((Kh.rest hHeld).mono HB.out.size);have dx:=HVC.out _ (Kh.rest hHeld) mx hlx;obtain ⟨a0,a1,a2,a3,a4,a5,a6,a7,a8,a9,_⟩:=hHeld;rw [HX.out] at a5;generalize Md.val vs (mx:Int)=y at *
    go_wp2;go_ret;exact ⟨yk (by rw [hres.out];rw [Bool.eq_iff_iff];simp),hfin.out⟩
  · have hres:Hid (Md.rfB c vs=decide (Md.val vs (mx:Int)=0)):=by show _=_;unfold Md.rfB;rw [if_neg hle,HX.out]
    go_enter Tryz.func115,Tryz.ntmps115;go_wp2
    go_region_held3 (fun w'=>w'.cell? ⟨w.heap.size,0,none⟩=some (.int .i64 c.kind)/\w'.cell? ⟨w.heap.size,1,none⟩=some (.int .i64 c.op)/\w'.cell? ⟨w.heap.size,2,none⟩=some (.slice ta c.terms.length tc)/\w'.cell? ⟨w.heap.size,3,none⟩=some (.int .i64 c.k)/\w'.cell? ⟨w.heap.size,4,none⟩=some (.int .i64 c.v)/\w'.cell? ⟨w.heap.size,5,none⟩=some (.int .i64 c.x)/\w'.cell? ⟨w.heap.size,6,none⟩=some (.int .i64 c.y)/\w'.cell? ⟨w.heap.size,7,none⟩=some (.slice xa c.xs.length xc)/\w'.cell? ⟨w.heap.size,8,none⟩=some (.slice ba c.table.length bc)/\w'.cell? ⟨w.heap.size,9,none⟩=some (.slice ra c.rows.length rc)/\w.heap.size<w'.heap.size/\CnAt w' c (.slice ta c.terms.length tc) (.slice xa c.xs.length xc) (.slice ba c.table.length bc) (.slice ra c.rows.length rc)/\MInts w' (.slice (some ⟨bv,ov,none⟩) vs.length vc) vs/\Below W.heap.size W w')
      (first | exact hS0.out.next (Below.refl _ _).drew | exact Kh.next (by assumption) (by assumption))
      (first | (go_at_call 42;refine (YI _ _ c.terms vs _ (Kh.cn (by assumption)).t (Kh.vals (by assumption)) HN.out HF.out.tx HF.out.tc HF.out.tl).mono ?_;rintro e w' ⟨rfl,hb⟩))
    rename_i hHeld
    have hfin:Hid (Below w.heap.size w _):=HB.out.trans ((Kh.rest hHeld).mono HB.out.size);have dx:=HVC.out _ (Kh.rest hHeld) mx hlx;obtain ⟨a0,a1,a2,a3,a4,a5,a6,a7,a8,a9,_⟩:=hHeld;rw [HX.out] at a5;generalize Md.val vs (mx:Int)=y at *
    go_wp2;go_ret;exact ⟨yk (by rw [hres.out];rw [Bool.eq_iff_iff];simp),hfin.out⟩
theorem y3Z (c:Md.Cn) (vt vx vb vr vv:Value) (vs:List Int) (w:World) (h:CnAt w c vt vx vb vr) (hv:MInts w vv vs) (hf:Md.Fit c vs.length) (hn:vs.all Md.numB=true) (hxs:Md.fXs c.kind=true) (hop:1<=c.op/\c.op<=3):Calls Tryz.prog 118 #[yh c vt vx vb vr,vv] w fun e w'=>e=.returned (.bool (Md.ctB c vs))/\Below w.heap.size w w':=by
  have HF:Hid (Md.Fit c vs.length):=hf;have HN:Hid (vs.all Md.numB=true):=hn;obtain ⟨ta,tc,rfl,_⟩:=id h.t;obtain ⟨bx,ox,xc,rfl,hbx,hmx,hxc⟩:=h.x.open2 (hf.xp hxs);obtain ⟨ba,bc,rfl,_⟩:=id h.b;obtain ⟨ra,rc,rfl,_⟩:=id h.r;have hnp:0<vs.length:=by have:=hf.x;omega
  obtain ⟨bv,ov,vc,rfl,hbv,hmv,hvc⟩:=hv.open hnp;unfold maxLen at hmv;obtain ⟨W,hW,hbW,c0,c1,c2,c3,c4,c5,c6,c7,c8,c9,hsN,HCC⟩:=yE c.kind c.op c.k c.v c.x c.y (.slice ta c.terms.length tc) (.slice (some ⟨bx,ox,none⟩) c.xs.length xc) (.slice ba c.table.length bc) (.slice ra c.rows.length rc) w;have HB:=hid hbW;have HC:=hid (h.below hbW);have HV:=hid (hv.below hbW);have HVC:Hid (∀ w',Below W.heap.size W w'->∀ m:Nat,m<vs.length->w'.cell? ⟨bv,ov+m,none⟩=some (.int .i64 (Md.val vs (m:Int)))):=fun w' hb m hm=>((hb.cell (p:=⟨bv,ov+m,none⟩) (Nat.lt_of_lt_of_le hbv hbW.size)).trans (hbW.cell (p:=⟨bv,ov+m,none⟩) hbv)).trans (hvc m hm)
  unfold maxLen at hmx;have HXC:Hid (∀ w',Below W.heap.size W w'->∀ m (hm:m<c.xs.length),w'.cell? ⟨bx,ox+m,none⟩=some (.int .i64 c.xs[m])):=fun w' hb m hm=>((hb.cell (p:=⟨bx,ox+m,none⟩) (Nat.lt_of_lt_of_le hbx hbW.size)).trans (hbW.cell (p:=⟨bx,ox+m,none⟩) hbx)).trans (hxc m hm)
  unfold yh;clear h hv hf hn hvc hbW hxc;have hxlen:(c.xs.length:Int)<=64:=by have:=HF.out.xl;omega
  obtain ⟨p,hp⟩:∃ p:Int->Bool,(fun x=>decide (Md.val vs x=c.v))=p:=⟨_,rfl⟩;have HP:Hid ((fun x=>decide (Md.val vs x=c.v))=p):=hp;have hres:Hid (Md.ctB c vs=Md.cmpB c.op ((c.xs.countP p:Nat):Int) c.k):=by show _=_;rw [<-hp];rfl
  clear hp;go_enter Tryz.func118,Tryz.ntmps118;go_wp2;go_loopw [5,11] (fun nv iv wr=>∃ k:Nat,iv=.int .i64 (k:Int)/\nv=.int .i64 (((c.xs.take k).countP p:Nat):Int)/\k<=c.xs.length/\Hid (Below W.heap.size W wr)) (fun _ iv _=>c.xs.length-(intOf iv).toNat)
  case atStart=>exact ⟨0,rfl,by simp,Nat.zero_le _,Below.refl _ _⟩
  case round=>
    obtain ⟨k,rfl,rfl,hk,hB⟩:=hrel
    by_cases hlt:k<c.xs.length
    · have hkI:(k:Int)<(c.xs.length:Int):=by omega
      obtain ⟨m,hm,hl⟩:=zq (HF.out.xs _ (List.getElem_mem hlt));have hlI:(m:Int)<(vs.length:Int):=by omega
      have dm:=HVC.out _ hB.out m hl;have xk:=HXC.out _ hB.out k hlt;obtain ⟨_,_,_,_,a4,_⟩:=HCC.out _ hB.out;rw [hm] at xk;have hnx:=Md.countP_next (p:=p) hlt;have hle:=Md.countP_le_take p c.xs k;have hpm:p c.xs[k]=decide (Md.val vs (m:Int)=c.v):=by rw [<-HP.out,hm]
      rw [hpm] at hnx;clear hm hpm
      by_cases he:Md.val vs (m:Int)=c.v
      · rw [he] at dm
        have hnx2:Hid ((c.xs.take (k+1)).countP p=(c.xs.take k).countP p+1):=by show _=_;rw [hnx];simp [he]
        clear hnx he;generalize (c.xs.take k).countP p=q at *
        go_wp2;go_quiet (fail)
        go_wp2;go_roundw
        case rel=>exact ⟨k+1,by go_num,by rw [hnx2.out];go_num,by omega,below_drewN hB.out _⟩
        case measure=>simp [intOf];omega
      · have hnx2:Hid ((c.xs.take (k+1)).countP p=(c.xs.take k).countP p):=by show _=_;rw [hnx];simp [he]
        have heB:(Md.val vs (m:Int)==c.v)=false:=by simpa using he
        clear hnx he;generalize (c.xs.take k).countP p=q at *
        generalize Md.val vs (m:Int)=y at *
        go_wp2;go_quiet (fail)
        go_wp2;go_roundw
        case rel=>exact ⟨k+1,by go_num,by rw [hnx2.out],by omega,below_drewN hB.out _⟩
        case measure=>simp [intOf];omega
    · have hkI:¬ (k:Int)<(c.xs.length:Int):=by omega
      obtain ⟨_,a1,_,a3,_⟩:=HCC.out _ hB.out;rw [List.take_of_length_le (by omega)];go_wp2_with (go_at_call 173;refine (K1 _ _ _ _ hop).mono ?_;rintro e w' ⟨rfl,rfl⟩);go_ret;exact ⟨yk hres.out.symm,HB.out.trans (hB.out.mono HB.out.size)⟩
end Go.Proofs.YtjgghimjnbjlbaaGreatDoor

namespace Go.Proofs.YtjgghimjnbjlbaaGreatDoor
open Go.RowKit
set_option maxRecDepth 10000
set_option maxHeartbeats 8000000
theorem y3U (c:Md.Cn) (vt vx vb vr vv:Value) (vs:List Int) (w:World) (h:CnAt w c vt vx vb vr) (hv:MInts w vv vs) (hf:Md.Fit c vs.length) (hn:vs.all Md.numB=true):Calls Tryz.prog 111 #[yh c vt vx vb vr,vv] w fun e w'=>e=.returned (.bool (Md.elB c vs))/\Below w.heap.size w w':=by
  have HF:Hid (Md.Fit c vs.length):=hf;have HN:Hid (vs.all Md.numB=true):=hn;obtain ⟨ta,tc,rfl,_⟩:=id h.t;obtain ⟨xa,xc,rfl,_⟩:=id h.x;obtain ⟨ba,bc,rfl,_⟩:=id h.b;obtain ⟨ra,rc,rfl,_⟩:=id h.r;have hnp:0<vs.length:=by have:=hf.x;omega
  obtain ⟨bv,ov,vc,rfl,hbv,hmv,hvc⟩:=hv.open hnp;unfold maxLen at hmv;obtain ⟨W,hW,hbW,c0,c1,c2,c3,c4,c5,c6,c7,c8,c9,hsN,HCC⟩:=yE c.kind c.op c.k c.v c.x c.y (.slice ta c.terms.length tc) (.slice xa c.xs.length xc) (.slice ba c.table.length bc) (.slice ra c.rows.length rc) w;have HB:=hid hbW;have HC:=hid (h.below hbW);have HV:=hid (hv.below hbW);have HVC:Hid (∀ w',Below W.heap.size W w'->∀ m:Nat,m<vs.length->w'.cell? ⟨bv,ov+m,none⟩=some (.int .i64 (Md.val vs (m:Int)))):=fun w' hb m hm=>((hb.cell (p:=⟨bv,ov+m,none⟩) (Nat.lt_of_lt_of_le hbv hbW.size)).trans (hbW.cell (p:=⟨bv,ov+m,none⟩) hbv)).trans (hvc m hm)
  unfold yh;clear h hv hf hn hvc hbW;obtain ⟨mx,hmx,hlx⟩:=zq HF.out.x;obtain ⟨my,hmy,hly⟩:=zq HF.out.y;have hlxI:(mx:Int)<(vs.length:Int):=by omega
  have hlyI:(my:Int)<(vs.length:Int):=by omega
  have dx:=HVC.out W (Below.refl _ _) mx hlx;have dy:=HVC.out W (Below.refl _ _) my hly;have hres:Hid (Md.elB c vs=decide (0<=Md.val vs (mx:Int)/\Md.val vs (mx:Int)<c.table.length/\Md.val vs (my:Int)=c.table.getD (Md.val vs (mx:Int)).toNat 0)):=by show _=_;unfold Md.elB;rw [hmx,hmy]
  rw [hmx] at c5;rw [hmy] at c6;clear hmx hmy;generalize Md.val vs (mx:Int)=x at *
  generalize Md.val vs (my:Int)=y at *
  by_cases hx0:0<=x
  · by_cases hx1:x<(c.table.length:Int)
    · obtain ⟨m,hm,hml⟩:=zq ⟨hx0,hx1⟩
      subst hm;obtain ⟨bt,ot,ct,hte,hbt,_,htc⟩:=HC.out.b.open2 (by omega);injection hte with e1 e2 e3;subst e1 e3;have dt:=htc m hml;have hres2:Hid (Md.elB c vs=decide (y=c.table[m])):=by
        show _=_;rw [hres.out,List.getD_eq_getElem?_getD,Int.toNat_natCast,List.getElem?_eq_getElem hml];simp [hml]
      clear htc e2;generalize c.table[m]=z at *
      go_enter Tryz.func111,Tryz.ntmps111;go_wp2;go_quiet (fail)
      go_wp2;go_ret;exact ⟨yk (by rw [hres2.out];rw [Bool.eq_iff_iff];simp),below_drewN HB.out _⟩
    · have hd:decide (x<(c.table.length:Int))=false:=by simpa using hx1
      have hres2:Hid (Md.elB c vs=false):=by show _=_;rw [hres.out];simp [hx1]
      go_enter Tryz.func111,Tryz.ntmps111;go_wp2;go_quiet (fail)
      go_wp2;go_ret;exact ⟨yk (by rw [hres2.out]),below_drewN HB.out _⟩
  · have hd:decide (0<=x)=false:=by simpa using hx0
    have hres2:Hid (Md.elB c vs=false):=by show _=_;rw [hres.out];simp [hx0]
    go_enter Tryz.func111,Tryz.ntmps111;go_wp2;go_quiet (fail)
    go_wp2;go_ret;exact ⟨yk (by rw [hres2.out]),below_drewN HB.out _⟩
theorem y3T (c:Md.Cn) (vt vx vb vr vv:Value) (vs:List Int) (w:World) (h:CnAt w c vt vx vb vr) (hv:MInts w vv vs) (hf:Md.Fit c vs.length) (hn:vs.all Md.numB=true) (hxs:Md.fXs c.kind=true):Calls Tryz.prog 110 #[yh c vt vx vb vr,vv] w fun e w'=>e=.returned (.bool (Md.adB c vs))/\Below w.heap.size w w':=by
  have HF:Hid (Md.Fit c vs.length):=hf;have HN:Hid (vs.all Md.numB=true):=hn;obtain ⟨ta,tc,rfl,_⟩:=id h.t;obtain ⟨bx,ox,xc,rfl,hbx,hmx,hxc⟩:=h.x.open2 (hf.xp hxs);obtain ⟨ba,bc,rfl,_⟩:=id h.b;obtain ⟨ra,rc,rfl,_⟩:=id h.r;have hnp:0<vs.length:=by have:=hf.x;omega
  obtain ⟨bv,ov,vc,rfl,hbv,hmv,hvc⟩:=hv.open hnp;unfold maxLen at hmv;obtain ⟨W,hW,hbW,c0,c1,c2,c3,c4,c5,c6,c7,c8,c9,hsN,HCC⟩:=yE c.kind c.op c.k c.v c.x c.y (.slice ta c.terms.length tc) (.slice (some ⟨bx,ox,none⟩) c.xs.length xc) (.slice ba c.table.length bc) (.slice ra c.rows.length rc) w;have HB:=hid hbW;have HC:=hid (h.below hbW);have HV:=hid (hv.below hbW);have HVC:Hid (∀ w',Below W.heap.size W w'->∀ m:Nat,m<vs.length->w'.cell? ⟨bv,ov+m,none⟩=some (.int .i64 (Md.val vs (m:Int)))):=fun w' hb m hm=>((hb.cell (p:=⟨bv,ov+m,none⟩) (Nat.lt_of_lt_of_le hbv hbW.size)).trans (hbW.cell (p:=⟨bv,ov+m,none⟩) hbv)).trans (hvc m hm)
  unfold maxLen at hmx;have HXC:Hid (∀ w',Below W.heap.size W w'->∀ m (hm:m<c.xs.length),w'.cell? ⟨bx,ox+m,none⟩=some (.int .i64 c.xs[m])):=fun w' hb m hm=>((hb.cell (p:=⟨bx,ox+m,none⟩) (Nat.lt_of_lt_of_le hbx hbW.size)).trans (hbW.cell (p:=⟨bx,ox+m,none⟩) hbx)).trans (hxc m hm)
  have hcap:(c.xs.length:Int)<=(xc:Int):=by have:=h.xcap _ _ _ rfl;omega
  unfold yh;clear h hv hf hn hvc hbW hxc;have hxlen:(c.xs.length:Int)<=64:=by have:=HF.out.xl;omega
  obtain ⟨L,hL⟩:∃ L,c.xs.map (Md.val vs)=L:=⟨_,rfl⟩;have HL:Hid (L.length=c.xs.length/\∀ j (h1:j<L.length) (h2:j<c.xs.length),L[j]=Md.val vs c.xs[j]):=by
    subst hL;exact ⟨by simp,fun j h1 h2=>by simp⟩
  have hres:Hid (Md.adB c vs=Md.diffB L):=by show _=_;rw [<-hL];rfl
  clear hL;go_enter Tryz.func110,Tryz.ntmps110;go_wp2;go_loopw [12] (fun iv wr=>∃ k:Nat,iv=.int .i64 (k:Int)/\k<=c.xs.length/\Hid (∀ i (hi:i<L.length),i<k->∀ j (hj:j<i),L[j]≠L[i])/\Hid (Below W.heap.size W wr)) (fun iv _=>c.xs.length-(intOf iv).toNat)
  case atStart=>exact ⟨0,rfl,Nat.zero_le _,fun i _ h=>absurd h (Nat.not_lt_zero _),Below.refl _ _⟩
  case round=>
    obtain ⟨k,rfl,hk,hA,hB⟩:=hrel
    by_cases hlt:k<c.xs.length
    · have hkI:(k:Int)<(c.xs.length:Int):=by omega
      have hkc:(k:Int)<=(xc:Int):=by omega
      obtain ⟨m,hm,hl⟩:=zq (HF.out.xs _ (List.getElem_mem hlt));have hlI:(m:Int)<(vs.length:Int):=by omega
      have xk:=HXC.out _ hB.out k hlt;obtain ⟨_,_,_,_,_,_,_,a7,_⟩:=HCC.out _ hB.out;have hLk:Hid (∀ h:k<L.length,L[k]=Md.val vs (m:Int)):=fun h=>by rw [HL.out.2 k h hlt,hm]
      rw [hm] at xk;clear hm;go_wp2;go_loopw [22] (fun jv wq=>∃ j:Nat,jv=.int .i64 (j:Int)/\j<=k/\Hid (∀ i (hi:i<L.length),i<j->L[i]≠Md.val vs (m:Int))/\Hid (Below W.heap.size W wq)) (fun jv _=>k-(intOf jv).toNat)
      case atStart=>exact ⟨0,rfl,Nat.zero_le _,fun i _ h=>absurd h (Nat.not_lt_zero _),hB⟩
      case round=>
        obtain ⟨j,rfl,hj,hJ,hQ⟩:=hrel
        by_cases hjk:j<k
        · have hjI:(j:Int)<(k:Int):=by omega
          have hjx:j<c.xs.length:=by omega
          have hjxI:(j:Int)<(c.xs.length:Int):=by omega
          obtain ⟨q,hq,hlq⟩:=zq (HF.out.xs _ (List.getElem_mem hjx));have hlqI:(q:Int)<(vs.length:Int):=by omega
          have xj:=HXC.out _ hQ.out j hjx;have dq:=HVC.out _ hQ.out q hlq;have dm:=HVC.out _ hQ.out m hl;have hLj:Hid (∀ h:j<L.length,L[j]=Md.val vs (q:Int)):=fun h=>by rw [HL.out.2 j h hjx,hq]
          rw [hq] at xj;clear hq
          by_cases he:Md.val vs (m:Int)=Md.val vs (q:Int)
          · have hkL:k<L.length:=by have:=HL.out.1;omega
            have hd:Hid (Md.diffB L=false):=Md.diff_stop hkL hjk (by rw [hLk.out hkL,hLj.out (by omega),he]);rw [he] at dm;clear he;go_wp2;go_quiet (fail)
            go_wp2;go_ret;exact ⟨yk (by rw [hres.out,hd.out]),HB.out.trans ((below_drewN hQ.out _).mono HB.out.size)⟩
          · have heB:(Md.val vs (m:Int)==Md.val vs (q:Int))=false:=by simpa using he
            have hnx:Hid (∀ i (hi:i<L.length),i<j+1->L[i]≠Md.val vs (m:Int)):=fun i hi h=>by
              by_cases hij:i<j
              · exact hJ.out i hi hij
              · obtain rfl:i=j:=by omega
                rw [hLj.out hi];exact fun h=>he h.symm
            clear he;go_wp2;go_quiet (fail)
            go_wp2;go_roundw
            case rel=>exact ⟨j+1,by go_num,by omega,hnx,below_drewN hQ.out _⟩
            case measure=>simp [intOf];omega
        · have hjI:¬ (j:Int)<(k:Int):=by omega
          have hnx:Hid (∀ i (hi:i<L.length),i<k+1->∀ j (hj:j<i),L[j]≠L[i]):=fun i hi h j' hj'=>by
            by_cases hik:i<k
            · exact hA.out i hi hik j' hj'
            · obtain rfl:i=k:=by omega
              rw [hLk.out hi];exact hJ.out j' (by omega) (by omega)
          go_wp2;go_roundw
          case rel=>exact ⟨k+1,by go_num,by omega,hnx,hQ⟩
          case measure=>simp [intOf];omega
    · have hkI:¬ (k:Int)<(c.xs.length:Int):=by omega
      have hd:Hid (Md.diffB L=true):=Md.diff_done (fun i hi j hj=>hA.out i hi (by have:=HL.out.1;omega) j hj);go_wp2;go_ret;exact ⟨yk (by rw [hres.out,hd.out]),HB.out.trans (hB.out.mono HB.out.size)⟩
end Go.Proofs.YtjgghimjnbjlbaaGreatDoor

namespace Go.Proofs.YtjgghimjnbjlbaaGreatDoor
open Go.RowKit
set_option maxRecDepth 10000
set_option maxHeartbeats 8000000
theorem y4l {f:Int->Int} {l r:List Int} {k:Nat} (h1:k<l.length) (h2:k<r.length) (h:f l[k]≠r[k]):decide (l.map f=r)=false:=by
  rw [decide_eq_false_iff_not];intro he;subst he;exact h (by simp)
theorem y4m {f:Int->Int} {l r:List Int} (hl:r.length=l.length) (h:∀ j (h1:j<l.length) (h2:j<r.length),f l[j]=r[j]):decide (l.map f=r)=true:=by
  rw [decide_eq_true_eq];exact List.ext_getElem (by simp [hl]) (fun j h1 h2=>by simpa using h j (by simpa using h1) h2)
theorem y4n (vr vx vv:Value) (row xs vs:List Int) (p q:Nat) (w:World) (hr:MInts w vr row) (hx:MInts w vx xs) (hv:MInts w vv vs) (hp:w.cell? ⟨p,7,none⟩=some vx) (hq:w.cell? ⟨q,0,none⟩=some vv)
    (_hpl:p<w.heap.size) (hql:q<w.heap.size) (hl:row.length=xs.length) (hx0:0<xs.length) (hx64:xs.length<=64) (hin:∀ x∈xs,0<=x/\x<vs.length) :
    Calls Tryz.prog 175 #[vr,.pointer (some ⟨p,0,none⟩),.pointer (some ⟨q,0,none⟩)] w fun e w'=>e=.returned (.bool (decide (xs.map (Md.val vs)=row)))/\Below w.heap.size w w':=by
  have hn0:0<vs.length:=by have:=hin _ (List.getElem_mem hx0);omega
  obtain ⟨br,or,rc,rfl,hbr,hmr,hrc⟩:=hr.open2 (by omega);obtain ⟨bx,ox,xc,rfl,hbx,hmx,hxc⟩:=hx.open2 hx0;obtain ⟨bv,ov,vc,rfl,hbv,hmv,hvc⟩:=hv.open hn0;unfold maxLen at hmr hmx hmv;have HRC:Hid (∀ w',Below w.heap.size w w'->∀ m (hm:m<row.length),w'.cell? ⟨br,or+m,none⟩=some (.int .i64 row[m])):=fun w' hb m hm=>(hb.cell (p:=⟨br,or+m,none⟩) hbr).trans (hrc m hm)
  have HXC:Hid (∀ w',Below w.heap.size w w'->∀ m (hm:m<xs.length),w'.cell? ⟨bx,ox+m,none⟩=some (.int .i64 xs[m])):=fun w' hb m hm=>(hb.cell (p:=⟨bx,ox+m,none⟩) hbx).trans (hxc m hm)
  have HVC:Hid (∀ w',Below w.heap.size w w'->∀ m:Nat,m<vs.length->w'.cell? ⟨bv,ov+m,none⟩=some (.int .i64 (Md.val vs (m:Int)))):=fun w' hb m hm=>(hb.cell (p:=⟨bv,ov+m,none⟩) hbv).trans (hvc m hm)
  have HQ:Hid (∀ w',Below w.heap.size w w'->w'.cell? ⟨q,0,none⟩=some (.slice (some ⟨bv,ov,none⟩) vs.length vc)):=fun w' hb=>(hb.cell (p:=⟨q,0,none⟩) hql).trans hq
  have HIN:Hid (∀ x∈xs,0<=x/\x<vs.length):=hin;have HL:Hid (row.length=xs.length):=hl;rw [hl];clear hr hx hv hrc hxc hvc hq hin hl;go_enter Tryz.func175,Tryz.ntmps175;go_wp2;go_loopw [10] (fun iv wr=>∃ k:Nat,iv=.int .i64 (k:Int)/\k<=xs.length/\Hid (∀ j (h1:j<xs.length) (h2:j<row.length),j<k->Md.val vs xs[j]=row[j])/\Hid (Below w.heap.size w wr)) (fun iv _=>xs.length-(intOf iv).toNat)
  case atStart=>exact ⟨0,rfl,Nat.zero_le _,fun j _ _ h=>absurd h (Nat.not_lt_zero _),Below.refl _ _⟩
  case round=>
    obtain ⟨k,rfl,hk,hA,hB⟩:=hrel
    by_cases hlt:k<xs.length
    · have hkI:(k:Int)<(xs.length:Int):=by omega
      have hkr:k<row.length:=by have:=HL.out;omega
      obtain ⟨m,hm,hlm⟩:=zq (HIN.out _ (List.getElem_mem hlt));have hlI:(m:Int)<(vs.length:Int):=by omega
      have dm:=HVC.out _ hB.out m hlm;have xk:=HXC.out _ hB.out k hlt;have rk:=HRC.out _ hB.out k hkr;have q0:=HQ.out _ hB.out;rw [hm] at xk
      by_cases he:Md.val vs (m:Int)=row[k]
      · have hnx:Hid (∀ j (h1:j<xs.length) (h2:j<row.length),j<k+1->Md.val vs xs[j]=row[j]):=fun j h1 h2 h=>by
          by_cases hjk:j<k
          · exact hA.out j h1 h2 hjk
          · obtain rfl:j=k:=by omega
            rw [hm];exact he
        have heB:(Md.val vs (m:Int) != row[k])=false:=by simp [he]
        clear hm he;generalize row[k]=z at *
        generalize Md.val vs (m:Int)=y at *
        go_wp2;go_quiet (fail)
        go_wp2;go_roundw
        case rel=>exact ⟨k+1,by go_num,by omega,hnx,below_drewN hB.out _⟩
        case measure=>simp [intOf];omega
      · have hres:Hid (decide (xs.map (Md.val vs)=row)=false):=y4l hlt hkr (by rw [hm];exact he)
        have heB:(Md.val vs (m:Int) != row[k])=true:=by simp [he]
        clear hm he;generalize row[k]=z at *
        generalize Md.val vs (m:Int)=y at *
        go_wp2;go_quiet (fail)
        go_wp2;go_ret;exact ⟨yk hres.out.symm,below_drewN hB.out _⟩
    · have hkI:¬ (k:Int)<(xs.length:Int):=by omega
      have hres:Hid (decide (xs.map (Md.val vs)=row)=true):=y4m HL.out (fun j h1 h2=>hA.out j h1 h2 (by omega));go_wp2;go_ret;exact ⟨yk hres.out.symm,hB.out⟩
theorem y4o (vr vx vv:Value) (rows:List (List Int)) (xs vs:List Int) (p q:Nat) (w:World) (hr:RowsAt w vr rows) (hx:MInts w vx xs) (hv:MInts w vv vs) (hp:w.cell? ⟨p,7,none⟩=some vx) (hq:w.cell? ⟨q,0,none⟩=some vv)
    (hpl:p<w.heap.size) (hql:q<w.heap.size) (hl:∀ r∈rows,r.length=xs.length) (hx0:0<xs.length) (hx64:xs.length<=64) (hin:∀ x∈xs,0<=x/\x<vs.length) (hr64:rows.length<=64) :
    Calls Tryz.prog 203 #[vr,.func (.func 175) #[] #[.pointer (some ⟨p,0,none⟩),.pointer (some ⟨q,0,none⟩)]] w fun e w'=>∃ r:Int,e=.returned (.int .i64 r)/\decide (0<=r)=(rows.any fun r=>decide (xs.map (Md.val vs)=r))/\Below w.heap.size w w':=by
  have HH:Hid (∀ w' u row,Below w.heap.size w w'->MInts w' u row->row.length=xs.length->Calls Tryz.prog 175 #[u,.pointer (some ⟨p,0,none⟩),.pointer (some ⟨q,0,none⟩)] w' fun e w''=>e=.returned (.bool (decide (xs.map (Md.val vs)=row)))/\Below w'.heap.size w' w''):=fun w' u row hb hu hrl=>
    y4n u vx vv row xs vs p q w' hu (hx.below hb) (hv.below hb) ((hb.cell (p:=⟨p,7,none⟩) hpl).trans hp) ((hb.cell (p:=⟨q,0,none⟩) hql).trans hq) (Nat.lt_of_lt_of_le hpl hb.size) (Nat.lt_of_lt_of_le hql hb.size) hrl hx0 hx64 hin
  obtain ⟨a,cap,rfl,hm,hc⟩:=hr;have HC:Hid (0<rows.length->∃ b off,a=some ⟨b,off,none⟩/\b<w.heap.size/\∀ j (h:j<rows.length),∃ u,w.cell? ⟨b,off+j,none⟩=some u/\MInts w u rows[j]):=hc;have HL:Hid (∀ r∈rows,r.length=xs.length):=hl;obtain ⟨f,hf⟩:∃ f:List Int->Bool,(fun r=>decide (xs.map (Md.val vs)=r))=f:=⟨_,rfl⟩;have HF:Hid ((fun r=>decide (xs.map (Md.val vs)=r))=f):=hf;rw [hf];clear hc hx hv hp hq hl hin hpl hql hm hf;go_enter Tryz.func203,Tryz.ntmps203;go_wp2;go_loopw [8] (fun iv wr=>∃ k:Nat,iv=.int .i64 (k:Int)/\k<=rows.length/\Hid ((rows.take k).any f=false)/\Hid (Below w.heap.size w wr)) (fun iv _=>rows.length-(intOf iv).toNat)
  case atStart=>exact ⟨0,rfl,Nat.zero_le _,(show _=_ by simp),Below.refl _ _⟩
  case round=>
    obtain ⟨k,rfl,hk,hA,hB⟩:=hrel
    by_cases hlt:k<rows.length
    · have hkI:(k:Int)<(rows.length:Int):=by omega
      obtain ⟨b,off,rfl,hb,hc⟩:=HC.out (by omega);obtain ⟨u,hcell,hu⟩:=hc k hlt;have hcw:=(hB.out.cell (p:=⟨b,off+k,none⟩) hb).trans hcell;have HU:Hid (Calls Tryz.prog 175 #[u,.pointer (some ⟨p,0,none⟩),.pointer (some ⟨q,0,none⟩)] wr fun e w''=>e=.returned (.bool (f rows[k]))/\Below wr.heap.size wr w''):=by
        rw [<-HF.out];exact HH.out wr u rows[k] hB.out (hu.below hB.out) (HL.out _ (List.getElem_mem hlt))
      obtain ⟨ua,uc,rfl,_⟩:=hu.form;clear hc hcell hu
      cases hp:f rows[k]
      · have hnx:Hid ((rows.take (k+1)).any f=false):=by show _=_;rw [Md.any_next hlt,hA.out,hp];rfl
        rw [hp] at HU;go_wp2_with (go_at_call 175;refine mcA HU.out ?_;rintro e w2 ⟨rfl,hb2⟩);go_roundw
        case rel=>exact ⟨k+1,by go_num,by omega,hnx,hB.out.trans (hb2.mono hB.out.size)⟩
        case measure=>simp [intOf];omega
      · have hres:Hid (rows.any f=true):=Md.any_stop hlt hp
        rw [hp] at HU;go_wp2_with (go_at_call 175;refine mcA HU.out ?_;rintro e w2 ⟨rfl,hb2⟩);go_ret;exact ⟨_,rfl,by rw [hres.out];simp,hB.out.trans (hb2.mono hB.out.size)⟩
    · have hkI:¬ (k:Int)<(rows.length:Int):=by omega
      have hres:Hid (rows.any f=false):=Md.any_done hA.out (by omega);go_wp2;go_ret;exact ⟨_,rfl,by rw [hres.out];rfl,hB.out⟩
theorem y4p (vr vx vv:Value) (rows:List (List Int)) (xs vs:List Int) (p q:Nat) (w:World) (hr:RowsAt w vr rows) (hx:MInts w vx xs) (hv:MInts w vv vs) (hp:w.cell? ⟨p,7,none⟩=some vx) (hq:w.cell? ⟨q,0,none⟩=some vv)
    (hpl:p<w.heap.size) (hql:q<w.heap.size) (hl:∀ r∈rows,r.length=xs.length) (hx0:0<xs.length) (hx64:xs.length<=64) (hin:∀ x∈xs,0<=x/\x<vs.length) (hr64:rows.length<=64) :
    Calls Tryz.prog 174 #[vr,.func (.func 175) #[] #[.pointer (some ⟨p,0,none⟩),.pointer (some ⟨q,0,none⟩)]] w fun e w'=>e=.returned (.bool (rows.any fun r=>decide (xs.map (Md.val vs)=r)))/\Below w.heap.size w w':=by
  have H:Hid _:=y4o vr vx vv rows xs vs p q w hr hx hv hp hq hpl hql hl hx0 hx64 hin hr64;obtain ⟨a,cap,rfl,_⟩:=hr;generalize (rows.any fun r=>decide (xs.map (Md.val vs)=r))=B at *
  clear hx hv hp hq hpl hql hl hin;go_enter Tryz.func174,Tryz.ntmps174;go_wp2_with (go_at_call 203;refine mcA H.out ?_;rintro e w2 ⟨r,rfl,hr,hb2⟩);go_ret;exact ⟨rfl,hb2⟩
theorem y3Y (c:Md.Cn) (vt vx vb vr vv:Value) (vs:List Int) (w:World) (h:CnAt w c vt vx vb vr) (hv:MInts w vv vs) (hf:Md.Fit c vs.length) (hxs:Md.fXs c.kind=true):Calls Tryz.prog 117 #[yh c vt vx vb vr,vv] w fun e w'=>e=.returned (.bool (Md.tbB c vs))/\Below w.heap.size w w':=by
  obtain ⟨ta,tc,rfl,_⟩:=id h.t;obtain ⟨xa,xc,rfl,_⟩:=id h.x;obtain ⟨ba,bc,rfl,_⟩:=id h.b;obtain ⟨ra,rc,rfl,_⟩:=id h.r;obtain ⟨va,vc,rfl,_⟩:=id hv;obtain ⟨W,hW⟩:∃ W,(w.alloc (.cells #[.int .i64 c.kind,.int .i64 c.op,.slice ta c.terms.length tc,.int .i64 c.k,.int .i64 c.v,.int .i64 c.x,.int .i64 c.y,.slice xa c.xs.length xc,.slice ba c.table.length bc,.slice ra c.rows.length rc] 51)).alloc (.cells #[.slice va vs.length vc] 27)=W:=⟨_,rfl⟩;have hbW:Below w.heap.size w W:=by rw [<-hW];exact ((Below.refl _ _).alloc (Nat.le_refl _) _).alloc (by simp) _
  have HB:Hid (Below w.heap.size w W):=hbW;have c7:W.cell? ⟨w.heap.size,7,none⟩=some (.slice xa c.xs.length xc):=by rw [<-hW];simp
  have c9:W.cell? ⟨w.heap.size,9,none⟩=some (.slice ra c.rows.length rc):=by rw [<-hW];simp
  have v0:W.cell? ⟨w.heap.size+1,0,none⟩=some (.slice va vs.length vc):=by rw [<-hW];simp
  have hsz:W.heap.size=w.heap.size+1+1:=by rw [<-hW];simp
  have HT:Hid _:=y4p _ _ _ c.rows c.xs vs w.heap.size (w.heap.size+1) W (h.below hbW).r (h.below hbW).x (hv.below hbW) c7 v0 (by omega) (by omega) hf.rr (hf.xp hxs) hf.xl hf.xs hf.rl;have hres:Hid (Md.tbB c vs=c.rows.any fun r=>decide (c.xs.map (Md.val vs)=r)):=rfl;clear h hv hf hbW hsz;unfold yh;go_enter Tryz.func117,Tryz.ntmps117;go_wp2_with (go_at_call 174;refine mcA HT.out ?_;rintro e w2 ⟨rfl,hb2⟩);go_ret;exact ⟨yk hres.out.symm,HB.out.trans (hb2.mono HB.out.size)⟩
end Go.Proofs.YtjgghimjnbjlbaaGreatDoor
