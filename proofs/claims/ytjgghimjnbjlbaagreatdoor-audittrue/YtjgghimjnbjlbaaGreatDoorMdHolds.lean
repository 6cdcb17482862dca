import Derived.Test.YtjgghimjnbjlbaaGreatDoorJ04
import Derived.Test.YtjgghimjnbjlbaaGreatDoorJ17
import Derived.Test.YtjgghimjnbjlbaaGreatDoorJ08
namespace Go.Proofs.YtjgghimjnbjlbaaGreatDoor
open Go.RowKit
set_option maxRecDepth 10000
set_option maxHeartbeats 8000000
theorem xr {o h:Nat} {b:Bool} {m0 m1 m2 m3:Nat} (B:Bool) (c:Md.Cn) (vt vx vb vr vv:Value) (vs:List Int) (w:World) (HK:KindIs c.kind o h b m0 m1 m2 m3) (hC:CnAt w c vt vx vb vr) (hV:MInts w vv vs)
    (Hh:∀ w',CnAt w' c vt vx vb vr->MInts w' vv vs->Calls Tryz.prog h #[yh c vt vx vb vr,vv] w' fun e w''=>e=.returned (.bool B)/\Below w'.heap.size w' w'') :
    Calls Tryz.prog 40 #[yh c vt vx vb vr,vv] w fun e w'=>e=.returned (.bool B)/\Below w.heap.size w w':=by
  obtain ⟨ta,tc,rfl,_⟩:=id hC.t;obtain ⟨xa,xc,rfl,_⟩:=id hC.x;obtain ⟨ba,bc,rfl,_⟩:=id hC.b;obtain ⟨ra,rc,rfl,_⟩:=id hC.r;obtain ⟨va,vc,rfl,_⟩:=id hV;have HK1:Hid (KindIs c.kind o h b m0 m1 m2 m3):=HK;have HC:Hid (CnAt w c (.slice ta c.terms.length tc) (.slice xa c.xs.length xc) (.slice ba c.table.length bc) (.slice ra c.rows.length rc)):=hC;have HV:Hid (MInts w (.slice va vs.length vc) vs):=hV;have HH:Hid (∀ w',CnAt w' c (.slice ta c.terms.length tc) (.slice xa c.xs.length xc) (.slice ba c.table.length bc) (.slice ra c.rows.length rc)->MInts w' (.slice va vs.length vc) vs->Calls Tryz.prog h #[yh c (.slice ta c.terms.length tc) (.slice xa c.xs.length xc) (.slice ba c.table.length bc) (.slice ra c.rows.length rc),.slice va vs.length vc] w' fun e w''=>e=.returned (.bool B)/\Below w'.heap.size w' w''):=Hh;have he:=HK.enh
  unfold Enters at he;clear HK hC hV Hh;unfold yh at *;go_enter Tryz.func40,Tryz.ntmps40;go_wp2_with fail
  refine (HK1.out.of _).mono ?_;rintro e w1 ⟨rfl,hb1⟩;unfold yD;have hbw:Below w.heap.size w w1:=((Below.refl _ _).alloc (Nat.le_refl _) _).trans (hb1.mono (by simp));have hN:w.heap.size<w1.heap.size:=by have:=hb1.size;simp at this;omega
  have h0:=(hb1.block w.heap.size (by simp)).trans (heap_alloc_new w _);obtain ⟨V,hV⟩:∃ V,w1.alloc (.cells #[.func (.func o) #[] #[],.bool b,.int .i64 (m0:Int),.int .i64 (m1:Int),.int .i64 (m2:Int),.int .i64 (m3:Int),.func (.func h) #[] #[]] 115)=V:=⟨_,rfl⟩;have hbV:Below w1.heap.size w1 V:=bAe hV;have h0V:=(hbV.block w.heap.size hN).trans h0;have h1V:V.heap[w1.heap.size]?=some (.cells #[.func (.func o) #[] #[],.bool b,.int .i64 (m0:Int),.int .i64 (m1:Int),.int .i64 (m2:Int),.int .i64 (m3:Int),.func (.func h) #[] #[]] 115):=hAe hV;have a0:V.cell? ⟨w.heap.size,0,none⟩=some (.int .i64 c.kind):=by simp [World.cell?,h0V]
  have a1:V.cell? ⟨w.heap.size,1,none⟩=some (.int .i64 c.op):=by simp [World.cell?,h0V]
  have a2:V.cell? ⟨w.heap.size,2,none⟩=some (.slice ta c.terms.length tc):=by simp [World.cell?,h0V]
  have a3:V.cell? ⟨w.heap.size,3,none⟩=some (.int .i64 c.k):=by simp [World.cell?,h0V]
  have a4:V.cell? ⟨w.heap.size,4,none⟩=some (.int .i64 c.v):=by simp [World.cell?,h0V]
  have a5:V.cell? ⟨w.heap.size,5,none⟩=some (.int .i64 c.x):=by simp [World.cell?,h0V]
  have a6:V.cell? ⟨w.heap.size,6,none⟩=some (.int .i64 c.y):=by simp [World.cell?,h0V]
  have a7:V.cell? ⟨w.heap.size,7,none⟩=some (.slice xa c.xs.length xc):=by simp [World.cell?,h0V]
  have a8:V.cell? ⟨w.heap.size,8,none⟩=some (.slice ba c.table.length bc):=by simp [World.cell?,h0V]
  have a9:V.cell? ⟨w.heap.size,9,none⟩=some (.slice ra c.rows.length rc):=by simp [World.cell?,h0V]
  have b1:V.cell? ⟨w1.heap.size,6,none⟩=some (.func (.func h) #[] #[]):=by simp [World.cell?,h1V]
  have HBV:Hid (Below w.heap.size w V):=hbw.trans (hbV.mono hbw.size);have HC2:Hid (CnAt V c (.slice ta c.terms.length tc) (.slice xa c.xs.length xc) (.slice ba c.table.length bc) (.slice ra c.rows.length rc)):=(HC.out.below hbw).below hbV;have HV2:Hid (MInts V (.slice va vs.length vc) vs):=(HV.out.below hbw).below hbV;clear h0 h0V h1V hbV hb1 hbw HC HV HK1;go_wp2_with (go_at_fn h;refine mcA (HH.out _ HC2.out HV2.out) ?_;rintro e w' ⟨rfl,hb⟩);go_ret;exact ⟨rfl,HBV.out.trans (hb.mono HBV.out.size)⟩
theorem QZ (c:Md.Cn) (vt vx vb vr vv:Value) (vs:List Int) (w:World) (hC:CnAt w c vt vx vb vr) (hV:MInts w vv vs) (hf:Md.fault c vs.length=0) (hn:vs.all Md.numB=true) :
    Calls Tryz.prog 40 #[yh c vt vx vb vr,vv] w fun e w'=>e=.returned (.bool (Md.hold c vs))/\Below w.heap.size w w':=by
  have fit:=Md.fit_of hf;have h19:=fit.kind;rcases (show c.kind=1∨c.kind=2∨c.kind=3∨c.kind=4∨c.kind=5∨c.kind=6∨c.kind=7∨c.kind=8∨c.kind=9 by omega) with h | h | h | h | h | h | h | h | h
  · have e:Md.hold c vs=Md.linB c vs:=by unfold Md.hold;rw [h];rfl
    rw [e];exact xr _ c vt vx vb vr vv vs w (by rw [h];exact QM) hC hV (fun w' h1 h2=>y3R c vt vx vb vr vv vs w' h1 h2 fit hn (fit.op (by rw [h];rfl)))
  · have e:Md.hold c vs=Md.neB c vs:=by unfold Md.hold;rw [h];rfl
    rw [e];exact xr _ c vt vx vb vr vv vs w (by rw [h];exact QN) hC hV (fun w' h1 h2=>y3S c vt vx vb vr vv vs w' h1 h2 fit hn)
  · have e:Md.hold c vs=Md.adB c vs:=by unfold Md.hold;rw [h];rfl
    rw [e];exact xr _ c vt vx vb vr vv vs w (by rw [h];exact QO) hC hV (fun w' h1 h2=>y3T c vt vx vb vr vv vs w' h1 h2 fit hn (by rw [h];rfl))
  · have e:Md.hold c vs=Md.elB c vs:=by unfold Md.hold;rw [h];rfl
    rw [e];exact xr _ c vt vx vb vr vv vs w (by rw [h];exact QQ) hC hV (fun w' h1 h2=>y3U c vt vx vb vr vv vs w' h1 h2 fit hn)
  · have e:Md.hold c vs=Md.mxB c vs:=by unfold Md.hold;rw [h];rfl
    rw [e];exact xr _ c vt vx vb vr vv vs w (by rw [h];exact QR) hC hV (fun w' h1 h2=>y3V c vt vx vb vr vv vs w' h1 h2 fit hn (by rw [h];rfl))
  · have e:Md.hold c vs=Md.mnB c vs:=by unfold Md.hold;rw [h];rfl
    rw [e];exact xr _ c vt vx vb vr vv vs w (by rw [h];exact QT) hC hV (fun w' h1 h2=>y3W c vt vx vb vr vv vs w' h1 h2 fit hn (by rw [h];rfl))
  · have e:Md.hold c vs=Md.rfB c vs:=by unfold Md.hold;rw [h];rfl
    rw [e];exact xr _ c vt vx vb vr vv vs w (by rw [h];exact QU) hC hV (fun w' h1 h2=>y3X c vt vx vb vr vv vs w' h1 h2 fit hn)
  · have e:Md.hold c vs=Md.tbB c vs:=by unfold Md.hold;rw [h];rfl
    rw [e];exact xr _ c vt vx vb vr vv vs w (by rw [h];exact QV) hC hV (fun w' h1 h2=>y3Y c vt vx vb vr vv vs w' h1 h2 fit (by rw [h];rfl))
  · have e:Md.hold c vs=Md.ctB c vs:=by unfold Md.hold;rw [h];rfl
    rw [e];exact xr _ c vt vx vb vr vv vs w (by rw [h];exact QW) hC hV (fun w' h1 h2=>y3Z c vt vx vb vr vv vs w' h1 h2 fit hn (by rw [h];rfl) (fit.op (by rw [h];rfl)))
theorem y1q (c:Md.Cn) (vt vx vb vr vv:Value) (vs:List Int) (w:World) (hC:CnAt w c vt vx vb vr) (hV:MInts w vv vs) :
    Calls Tryz.prog 59 #[yh c vt vx vb vr,vv] w fun e w'=>e=.returned (.bool (Md.holds c vs))/\Below w.heap.size w w':=by
  obtain ⟨ta,tc,rfl,_⟩:=id hC.t;obtain ⟨xa,xc,rfl,_⟩:=id hC.x;obtain ⟨ba,bc,rfl,_⟩:=id hC.b;obtain ⟨ra,rc,rfl,_⟩:=id hC.r;obtain ⟨va,vc,rfl,_⟩:=id hV;obtain ⟨W,hW⟩:∃ W,w.alloc (.cells #[.int .i64 c.kind,.int .i64 c.op,.slice ta c.terms.length tc,.int .i64 c.k,.int .i64 c.v,.int .i64 c.x,.int .i64 c.y,.slice xa c.xs.length xc,.slice ba c.table.length bc,.slice ra c.rows.length rc] 51)=W:=⟨_,rfl⟩;have hbW:Below w.heap.size w W:=bAe hW;have hsN:w.heap.size<W.heap.size:=by rw [<-hW];simp
  have c0:W.cell? ⟨w.heap.size,0,none⟩=some (.int .i64 c.kind):=by rw [<-hW];simp
  have c1:W.cell? ⟨w.heap.size,1,none⟩=some (.int .i64 c.op):=by rw [<-hW];simp
  have c2:W.cell? ⟨w.heap.size,2,none⟩=some (.slice ta c.terms.length tc):=by rw [<-hW];simp
  have c3:W.cell? ⟨w.heap.size,3,none⟩=some (.int .i64 c.k):=by rw [<-hW];simp
  have c4:W.cell? ⟨w.heap.size,4,none⟩=some (.int .i64 c.v):=by rw [<-hW];simp
  have c5:W.cell? ⟨w.heap.size,5,none⟩=some (.int .i64 c.x):=by rw [<-hW];simp
  have c6:W.cell? ⟨w.heap.size,6,none⟩=some (.int .i64 c.y):=by rw [<-hW];simp
  have c7:W.cell? ⟨w.heap.size,7,none⟩=some (.slice xa c.xs.length xc):=by rw [<-hW];simp
  have c8:W.cell? ⟨w.heap.size,8,none⟩=some (.slice ba c.table.length bc):=by rw [<-hW];simp
  have c9:W.cell? ⟨w.heap.size,9,none⟩=some (.slice ra c.rows.length rc):=by rw [<-hW];simp
  have HCC:Hid (∀ w',Below W.heap.size W w'->w'.cell? ⟨w.heap.size,0,none⟩=some (.int .i64 c.kind)/\w'.cell? ⟨w.heap.size,1,none⟩=some (.int .i64 c.op)/\w'.cell? ⟨w.heap.size,2,none⟩=some (.slice ta c.terms.length tc)/\w'.cell? ⟨w.heap.size,3,none⟩=some (.int .i64 c.k)/\w'.cell? ⟨w.heap.size,4,none⟩=some (.int .i64 c.v)/\w'.cell? ⟨w.heap.size,5,none⟩=some (.int .i64 c.x)/\w'.cell? ⟨w.heap.size,6,none⟩=some (.int .i64 c.y)/\w'.cell? ⟨w.heap.size,7,none⟩=some (.slice xa c.xs.length xc)/\w'.cell? ⟨w.heap.size,8,none⟩=some (.slice ba c.table.length bc)/\w'.cell? ⟨w.heap.size,9,none⟩=some (.slice ra c.rows.length rc)):=fun w' hb=>⟨(hb.cell (p:=⟨w.heap.size,0,none⟩) hsN).trans c0,(hb.cell (p:=⟨w.heap.size,1,none⟩) hsN).trans c1,(hb.cell (p:=⟨w.heap.size,2,none⟩) hsN).trans c2,(hb.cell (p:=⟨w.heap.size,3,none⟩) hsN).trans c3,(hb.cell (p:=⟨w.heap.size,4,none⟩) hsN).trans c4,(hb.cell (p:=⟨w.heap.size,5,none⟩) hsN).trans c5,(hb.cell (p:=⟨w.heap.size,6,none⟩) hsN).trans c6,(hb.cell (p:=⟨w.heap.size,7,none⟩) hsN).trans c7,(hb.cell (p:=⟨w.heap.size,8,none⟩) hsN).trans c8,(hb.cell (p:=⟨w.heap.size,9,none⟩) hsN).trans c9⟩
  have HC:Hid (CnAt W c (.slice ta c.terms.length tc) (.slice xa c.xs.length xc) (.slice ba c.table.length bc) (.slice ra c.rows.length rc)):=hC.below hbW;have HV:Hid (MInts W (.slice va vs.length vc) vs):=hV.below hbW;have HB:Hid (Below w.heap.size w W):=hbW;have H40:Hid (∀ w',CnAt w' c (.slice ta c.terms.length tc) (.slice xa c.xs.length xc) (.slice ba c.table.length bc) (.slice ra c.rows.length rc)->Calls Tryz.prog 74 #[yh c (.slice ta c.terms.length tc) (.slice xa c.xs.length xc) (.slice ba c.table.length bc) (.slice ra c.rows.length rc),.int .i64 (vs.length:Int)] w' fun e w''=>e=.returned (.int .i64 (Md.fault c vs.length))/\Below w'.heap.size w' w''):=fun w' h=>QX c _ _ _ _ _ w' h
  have H50:Hid (Md.fault c vs.length=0->vs.all Md.numB=true->∀ w',CnAt w' c (.slice ta c.terms.length tc) (.slice xa c.xs.length xc) (.slice ba c.table.length bc) (.slice ra c.rows.length rc)->MInts w' (.slice va vs.length vc) vs->Calls Tryz.prog 40 #[yh c (.slice ta c.terms.length tc) (.slice xa c.xs.length xc) (.slice ba c.table.length bc) (.slice ra c.rows.length rc),.slice va vs.length vc] w' fun e w''=>e=.returned (.bool (Md.hold c vs))/\Below w'.heap.size w' w''):=fun hf hn w' h1 h2=>QZ c _ _ _ _ _ vs w' h1 h2 hf hn
  clear hC hV hbW;unfold yh at *
  by_cases hf:Md.fault c vs.length=0
  · have HF:Hid (Md.fault c vs.length=0):=hf
    rw [hf] at H40;clear hf
    cases hn:vs.all Md.numB
    · have hres:Hid (Md.holds c vs=false):=by show _=_;unfold Md.holds;rw [hn];simp
      go_enter Tryz.func59,Tryz.ntmps59
      go_wp2_with (first
        | (go_at_call 74;refine mcA (H40.out _ HC.out) ?_;rintro e w1 ⟨rfl,hb1⟩)
        | (go_at_call 41;refine (yQ _ vs _ (HV.out.below hb1)).mono ?_;rintro e w2 ⟨rfl,hw2⟩;rw [hw2]))
      go_ret;exact ⟨yk hres.out.symm,HB.out.trans (hb1.mono HB.out.size)⟩
    · have hres:Hid (Md.holds c vs=Md.hold c vs):=by show _=_;unfold Md.holds;rw [hn,HF.out];simp
      have H50b:=H50.out HF.out hn;have H50c:Hid (∀ w',CnAt w' c (.slice ta c.terms.length tc) (.slice xa c.xs.length xc) (.slice ba c.table.length bc) (.slice ra c.rows.length rc)->MInts w' (.slice va vs.length vc) vs->Calls Tryz.prog 40 #[.agg #[.int .i64 c.kind,.int .i64 c.op,.slice ta c.terms.length tc,.int .i64 c.k,.int .i64 c.v,.int .i64 c.x,.int .i64 c.y,.slice xa c.xs.length xc,.slice ba c.table.length bc,.slice ra c.rows.length rc],.slice va vs.length vc] w' fun e w''=>e=.returned (.bool (Md.hold c vs))/\Below w'.heap.size w' w''):=H50b;clear H50b H50;generalize Md.hold c vs=B at *
      go_enter Tryz.func59,Tryz.ntmps59
      go_wp2_with (first
        | (go_at_call 74;refine mcA (H40.out _ HC.out) ?_;rintro e w1 ⟨rfl,hb1⟩;obtain ⟨a0,a1,a2,a3,a4,a5,a6,a7,a8,a9⟩:=HCC.out _ hb1)
        | (go_at_call 41;refine (yQ _ vs _ (HV.out.below hb1)).mono ?_;rintro e w2 ⟨rfl,hw2⟩;rw [hw2])
        | (go_at_call 40;refine mcA (H50c.out _ (HC.out.below hb1) (HV.out.below hb1)) ?_;rintro e w3 ⟨rfl,hb3⟩))
      go_ret;exact ⟨yk hres.out.symm,(HB.out.trans (hb1.mono HB.out.size)).trans (hb3.mono (Nat.le_trans HB.out.size hb1.size))⟩
  · have hfB:(Md.fault c vs.length==0)=false:=by simpa using hf
    have hres:Hid (Md.holds c vs=false):=by show _=_;unfold Md.holds;simp [hf]
    clear hf;generalize Md.fault c vs.length=r at *
    go_enter Tryz.func59,Tryz.ntmps59;go_wp2_with (go_at_call 74;refine mcA (H40.out _ HC.out) ?_;rintro e w1 ⟨rfl,hb1⟩);go_ret;exact ⟨yk hres.out.symm,HB.out.trans (hb1.mono HB.out.size)⟩
end Go.Proofs.YtjgghimjnbjlbaaGreatDoor
