import Derived.Test.YtjnckfchgcmmpaaGreatDoorJ05
import Derived.Test.YtjnckfchgcmmpaaGreatDoorJ18
import Derived.Test.YtjnckfchgcmmpaaGreatDoorJ13
namespace Go.Proofs.YtjnckfchgcmmpaaGreatDoor
open Go.RowKit
set_option maxRecDepth 10000
set_option maxHeartbeats 8000000
theorem holds_kind {o h:Nat} {b:Bool} {m0 m1 m2 m3:Nat} (B:Bool) (c:Md.Cn) (vt vx vb vr vv:Value) (vs:List Int) (w:World) (HK:KindIs c.kind o h b m0 m1 m2 m3) (hC:CnAt w c vt vx vb vr) (hV:IntsAt w vv vs)
    (Hh:∀ w',CnAt w' c vt vx vb vr->IntsAt w' vv vs->Calls Tryz.prog h #[cnVal c vt vx vb vr,vv] w' fun e w''=>e=.returned (.bool B)/\Below w'.heap.size w' w'') :
    Calls Tryz.prog 37 #[cnVal c vt vx vb vr,vv] w fun e w'=>e=.returned (.bool B)/\Below w.heap.size w w':=by
  obtain ⟨ta,tc,rfl,_⟩:=id hC.t;obtain ⟨xa,xc,rfl,_⟩:=id hC.x;obtain ⟨ba,bc,rfl,_⟩:=id hC.b;obtain ⟨ra,rc,rfl,_⟩:=id hC.r;obtain ⟨va,vc,rfl,_⟩:=id hV;have HK1:Hid (KindIs c.kind o h b m0 m1 m2 m3):=HK;have HC:Hid (CnAt w c (.slice ta c.terms.length tc) (.slice xa c.xs.length xc) (.slice ba c.table.length bc) (.slice ra c.rows.length rc)):=hC;have HV:Hid (IntsAt w (.slice va vs.length vc) vs):=hV;have HH:Hid (∀ w',CnAt w' c (.slice ta c.terms.length tc) (.slice xa c.xs.length xc) (.slice ba c.table.length bc) (.slice ra c.rows.length rc)->IntsAt w' (.slice va vs.length vc) vs->Calls Tryz.prog h #[cnVal c (.slice ta c.terms.length tc) (.slice xa c.xs.length xc) (.slice ba c.table.length bc) (.slice ra c.rows.length rc),.slice va vs.length vc] w' fun e w''=>e=.returned (.bool B)/\Below w'.heap.size w' w''):=Hh;have he:=HK.enh
  unfold Enters at he;clear HK hC hV Hh;unfold cnVal at *;go_enter Tryz.func37,Tryz.ntmps37;go_wp2_with fail
  refine (HK1.out.of _).mono ?_;rintro e w1 ⟨rfl,hb1⟩;unfold kdVal;have hbw:Below w.heap.size w w1:=((Below.refl _ _).alloc (Nat.le_refl _) _).trans (hb1.mono (by simp));have hN:w.heap.size<w1.heap.size:=by have:=hb1.size;simp at this;omega
  have h0:=(hb1.block w.heap.size (by simp)).trans (heap_alloc_new w _);obtain ⟨V,hV⟩:∃ V,w1.alloc (.cells #[.func (.func o) #[] #[],.bool b,.int .i64 (m0:Int),.int .i64 (m1:Int),.int .i64 (m2:Int),.int .i64 (m3:Int),.func (.func h) #[] #[]] 113)=V:=⟨_,rfl⟩;have hbV:Below w1.heap.size w1 V:=bAe hV;have h0V:=(hbV.block w.heap.size hN).trans h0;have h1V:V.heap[w1.heap.size]?=some (.cells #[.func (.func o) #[] #[],.bool b,.int .i64 (m0:Int),.int .i64 (m1:Int),.int .i64 (m2:Int),.int .i64 (m3:Int),.func (.func h) #[] #[]] 113):=hAe hV;have a0:V.cell? ⟨w.heap.size,0,none⟩=some (.int .i64 c.kind):=by simp [World.cell?,h0V]
  have a1:V.cell? ⟨w.heap.size,1,none⟩=some (.int .i64 c.op):=by simp [World.cell?,h0V]
  have a2:V.cell? ⟨w.heap.size,2,none⟩=some (.slice ta c.terms.length tc):=by simp [World.cell?,h0V]
  have a3:V.cell? ⟨w.heap.size,3,none⟩=some (.int .i64 c.k):=by simp [World.cell?,h0V]
  have a4:V.cell? ⟨w.heap.size,4,none⟩=some (.int .i64 c.v):=by simp [World.cell?,h0V]
  have a5:V.cell? ⟨w.heap.size,5,none⟩=some (.int .i64 c.x):=by simp [World.cell?,h0V]
  have a6:V.cell? ⟨w.heap.size,6,none⟩=some (.int .i64 c.y):=by simp [World.cell?,h0V]
  have a7:V.cell? ⟨w.heap.size,7,none⟩=some (.slice xa c.xs.length xc):=by simp [World.cell?,h0V]
  have a8:V.cell? ⟨w.heap.size,8,none⟩=some (.slice ba c.table.length bc):=by simp [World.cell?,h0V]
  have a9:V.cell? ⟨w.heap.size,9,none⟩=some (.slice ra c.rows.length rc):=by simp [World.cell?,h0V]
  have b1:V.cell? ⟨w1.heap.size,6,none⟩=some (.func (.func h) #[] #[]):=by simp [World.cell?,h1V]
  have HBV:Hid (Below w.heap.size w V):=hbw.trans (hbV.mono hbw.size);have HC2:Hid (CnAt V c (.slice ta c.terms.length tc) (.slice xa c.xs.length xc) (.slice ba c.table.length bc) (.slice ra c.rows.length rc)):=(HC.out.below hbw).below hbV;have HV2:Hid (IntsAt V (.slice va vs.length vc) vs):=(HV.out.below hbw).below hbV;clear h0 h0V h1V hbV hb1 hbw HC HV HK1;go_wp2_with (go_at_fn h;refine cA (HH.out _ HC2.out HV2.out) ?_;rintro e w' ⟨rfl,hb⟩);go_ret;exact ⟨rfl,HBV.out.trans (hb.mono HBV.out.size)⟩
theorem hold_any (c:Md.Cn) (vt vx vb vr vv:Value) (vs:List Int) (w:World) (hC:CnAt w c vt vx vb vr) (hV:IntsAt w vv vs) (hf:Md.fault c vs.length=0) (hn:vs.all Md.numB=true) :
    Calls Tryz.prog 37 #[cnVal c vt vx vb vr,vv] w fun e w'=>e=.returned (.bool (Md.hold c vs))/\Below w.heap.size w w':=by
  have fit:=Md.fit_of hf;have h19:=fit.kind;rcases (show c.kind=1∨c.kind=2∨c.kind=3∨c.kind=4∨c.kind=5∨c.kind=6∨c.kind=7∨c.kind=8∨c.kind=9 by omega) with h | h | h | h | h | h | h | h | h
  · have e:Md.hold c vs=Md.linB c vs:=by unfold Md.hold;rw [h];rfl
    rw [e];exact holds_kind _ c vt vx vb vr vv vs w (by rw [h];exact kind1) hC hV (fun w' h1 h2=>linHolds_any c vt vx vb vr vv vs w' h1 h2 fit hn (fit.op (by rw [h];rfl)))
  · have e:Md.hold c vs=Md.neB c vs:=by unfold Md.hold;rw [h];rfl
    rw [e];exact holds_kind _ c vt vx vb vr vv vs w (by rw [h];exact kind2) hC hV (fun w' h1 h2=>neHolds_any c vt vx vb vr vv vs w' h1 h2 fit hn)
  · have e:Md.hold c vs=Md.adB c vs:=by unfold Md.hold;rw [h];rfl
    rw [e];exact holds_kind _ c vt vx vb vr vv vs w (by rw [h];exact kind3) hC hV (fun w' h1 h2=>allDiffHolds_any c vt vx vb vr vv vs w' h1 h2 fit hn (by rw [h];rfl))
  · have e:Md.hold c vs=Md.elB c vs:=by unfold Md.hold;rw [h];rfl
    rw [e];exact holds_kind _ c vt vx vb vr vv vs w (by rw [h];exact kind4) hC hV (fun w' h1 h2=>elementHolds_any c vt vx vb vr vv vs w' h1 h2 fit hn)
  · have e:Md.hold c vs=Md.mxB c vs:=by unfold Md.hold;rw [h];rfl
    rw [e];exact holds_kind _ c vt vx vb vr vv vs w (by rw [h];exact kind5) hC hV (fun w' h1 h2=>maxHolds_any c vt vx vb vr vv vs w' h1 h2 fit hn (by rw [h];rfl))
  · have e:Md.hold c vs=Md.mnB c vs:=by unfold Md.hold;rw [h];rfl
    rw [e];exact holds_kind _ c vt vx vb vr vv vs w (by rw [h];exact kind6) hC hV (fun w' h1 h2=>minHolds_any c vt vx vb vr vv vs w' h1 h2 fit hn (by rw [h];rfl))
  · have e:Md.hold c vs=Md.rfB c vs:=by unfold Md.hold;rw [h];rfl
    rw [e];exact holds_kind _ c vt vx vb vr vv vs w (by rw [h];exact kind7) hC hV (fun w' h1 h2=>reifHolds_any c vt vx vb vr vv vs w' h1 h2 fit hn)
  · have e:Md.hold c vs=Md.tbB c vs:=by unfold Md.hold;rw [h];rfl
    rw [e];exact holds_kind _ c vt vx vb vr vv vs w (by rw [h];exact kind8) hC hV (fun w' h1 h2=>tableHolds_any c vt vx vb vr vv vs w' h1 h2 fit (by rw [h];rfl))
  · have e:Md.hold c vs=Md.ctB c vs:=by unfold Md.hold;rw [h];rfl
    rw [e];exact holds_kind _ c vt vx vb vr vv vs w (by rw [h];exact kind9) hC hV (fun w' h1 h2=>countHolds_any c vt vx vb vr vv vs w' h1 h2 fit hn (by rw [h];rfl) (fit.op (by rw [h];rfl)))
end Go.Proofs.YtjnckfchgcmmpaaGreatDoor
