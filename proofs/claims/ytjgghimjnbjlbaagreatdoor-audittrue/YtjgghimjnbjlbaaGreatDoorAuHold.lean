import Derived.Test.YtjgghimjnbjlbaaGreatDoorJ04
import Derived.Test.YtjgghimjnbjlbaaGreatDoorMdHolds
import Derived.Test.YtjgghimjnbjlbaaGreatDoorJ19
import Derived.Test.YtjgghimjnbjlbaaGreatDoorJ42
namespace Go.Proofs.YtjgghimjnbjlbaaGreatDoor
open Go Go.RowKit
set_option maxRecDepth 10000
set_option maxHeartbeats 8000000
theorem XG (vc:Value) (cs:List Md.Cn) (vx:Value) (vs:List Int) (w:World) (hc:ConsAt w vc cs) (hx:MInts w vx vs):Calls Tryz.prog 32 #[vc,vx] w fun e w'=>e=.returned (.bool (cs.all fun c=>Md.holds c vs))/\Below w.heap.size w w':=by
  obtain ⟨xa,xc,rfl,hxm⟩:=hx.form;obtain ⟨ca,ccp,rfl,hcm⟩:=hc.form;unfold maxLen at hcm;have HC:Hid (∀ w',Below w.heap.size w w'->ConsAt w' (.slice ca cs.length ccp) cs):=fun w' hb=>hc.below hb
  have HX:Hid (∀ w',Below w.heap.size w w'->MInts w' (.slice xa vs.length xc) vs):=fun w' hb=>hx.below hb
  clear hc hx;go_enter Tryz.func32,Tryz.ntmps32;go_wp2_with fail
  go_loopw [9] (fun iv wr=>∃ i:Nat,iv=.int .i64 (i:Int)/\i<=cs.length/\Hid (((cs.take i).all fun c=>Md.holds c vs)=true)/\Hid (Below w.heap.size w wr)) (fun iv _=>cs.length-(intOf iv).toNat)
  case atStart=>exact ⟨0,rfl,Nat.zero_le _,by simp [Hid],Below.refl _ _⟩
  case round=>
    obtain ⟨i,rfl,hi,HA,HB⟩:=hrel
    by_cases hin:i<cs.length
    · have hiI:(i:Int)<(cs.length:Int):=by omega
      obtain ⟨ca',ccp',e1,_,hcc⟩:=HC.out wr HB.out;injection e1 with e2 e3 e4;obtain ⟨cb,off,e5,hcb,hcell⟩:=hcc (by omega);rw [e5] at e2;subst e2;obtain ⟨vt,vxx,vb,vr,hCn,hcl⟩:=hcell i hin;obtain ⟨ta,tc,rfl,_⟩:=hCn.t.form;obtain ⟨xxa,xxc,rfl,_⟩:=hCn.x.form;obtain ⟨ba,bc,rfl,_⟩:=hCn.b.form;obtain ⟨ra,rc,rfl,_⟩:=hCn.r.form;obtain ⟨c,hce⟩:∃ c,cs[i]=c:=⟨_,rfl⟩;rw [hce] at hCn hcl;have HTk:Hid (cs.take (i+1)=cs.take i++[c]):=by rw [<-hce];exact List.take_succ_eq_append_getElem hin
      have HSp:Hid (cs=cs.take i++c :: cs.drop (i+1)):=by rw [<-hce,<-List.drop_eq_getElem_cons hin,List.take_append_drop];rfl
      obtain ⟨q0,q1,q2,q3,q4,q5,q6,q7,q8,q9⟩:=hcl;obtain ⟨W,hW⟩:∃ W,wr.alloc (.cells #[.int .i64 c.kind,.int .i64 c.op,.slice ta c.terms.length tc,.int .i64 c.k,.int .i64 c.v,.int .i64 c.x,.int .i64 c.y,.slice xxa c.xs.length xxc,.slice ba c.table.length bc,.slice ra c.rows.length rc] 51)=W:=⟨_,rfl⟩;have gW:W.heap[wr.heap.size]?=some (.cells #[.int .i64 c.kind,.int .i64 c.op,.slice ta c.terms.length tc,.int .i64 c.k,.int .i64 c.v,.int .i64 c.x,.int .i64 c.y,.slice xxa c.xs.length xxc,.slice ba c.table.length bc,.slice ra c.rows.length rc] 51 (0,0)):=hAe hW;have bW:Below wr.heap.size wr W:=bAe hW;have r0:=yb gW 0;have r1:=yb gW 1;have r2:=yb gW 2;have r3:=yb gW 3;have r4:=yb gW 4;have r5:=yb gW 5;have r6:=yb gW 6;have r7:=yb gW 7;have r8:=yb gW 8
      have r9:=yb gW 9;dsimp at r0 r1 r2 r3 r4 r5 r6 r7 r8 r9;have HBW:Hid (Below w.heap.size w W):=ym HB.out bW;have hH:=y1q c _ _ _ _ (.slice xa vs.length xc) vs W (hCn.below bW) (HX.out W HBW.out);simp only [yh] at hH;have HH:Hid (Calls Tryz.prog 59 #[.agg #[.int .i64 c.kind,.int .i64 c.op,.slice ta c.terms.length tc,.int .i64 c.k,.int .i64 c.v,.int .i64 c.x,.int .i64 c.y,.slice xxa c.xs.length xxc,.slice ba c.table.length bc,.slice ra c.rows.length rc],.slice xa vs.length xc] W fun e w'=>e=.returned (.bool (Md.holds c vs))/\Below W.heap.size W w'):=hH;clear hH gW bW hCn hcc hcell hce e3 e4 e5;go_wp2_with fail
      refine cA HH.out ?_;rintro e w2 ⟨rfl,hb2⟩;have HB2:Hid (Below w.heap.size w w2):=ym HBW.out hb2;clear hb2 hW r0 r1 r2 r3 r4 r5 r6 r7 r8 r9 q0 q1 q2 q3 q4 q5 q6 q7 q8 q9 HH
      cases hh:Md.holds c vs with
      | true =>
        have HAn:Hid (((cs.take (i+1)).all fun c=>Md.holds c vs)=true):=by
          show _=_;rw [HTk.out,List.all_append,HA.out];simp [hh]
        clear hh;go_wp2_with fail
        go_roundw
        case rel=>exact ⟨i+1,by go_num,hin,HAn.out,HB2.out⟩
        case measure=>simp [intOf];omega
      | false =>
        have HAn:Hid ((cs.all fun c=>Md.holds c vs)=false):=by
          show _=_;rw [HSp.out,List.all_append,List.all_cons,hh];simp
        clear hh;go_wp2_with fail
        go_ret;rw [HAn.out];exact ⟨rfl,HB2.out⟩
    · have hiI:¬ (i:Int)<(cs.length:Int):=by omega
      have HAll:Hid ((cs.all fun c=>Md.holds c vs)=true):=by have:=HA.out;rw [List.take_of_length_le (by omega)] at this;exact this
      go_wp2_with fail
      go_ret;rw [HAll.out];exact ⟨rfl,HB.out⟩
end Go.Proofs.YtjgghimjnbjlbaaGreatDoor
