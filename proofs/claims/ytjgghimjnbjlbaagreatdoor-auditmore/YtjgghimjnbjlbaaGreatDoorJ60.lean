/-
  Put together: DcRefCon1, DcRefCon2, DcRefCon3, DcRefCon4, DcRefCon5, DcRefCon6, DcRefCon7, DcRefCon8, DcRefCon9, DcRefAny.
-/
import Derived.Test.YtjgghimjnbjlbaaGreatDoorJ08
namespace Go.Proofs.YtjgghimjnbjlbaaGreatDoor.Doc
open Go.RowKit
set_option maxRecDepth 10000
set_option maxHeartbeats 8000000
theorem refCon_1 (c:Md.Cn) (vt vx vb vr:Value) (n:Int) (w:World) (h:CnAt w c vt vx vb vr) (hk:c.kind=1) (hfg:∀ w',CnAt w' c vt vx vb vr->Calls Tryz.prog 157 #[cnVal c vt vx vb vr] w' fun e w''=>e=.returned (.bool (Md.plainBad c||Md.listBad c))/\Below w'.heap.size w' w''):Calls Tryz.prog 90 #[cnVal c vt vx vb vr,.int .i64 n] w fun e w'=>e=.returned (.int .i64 (Md.fault c n))/\Below w.heap.size w w':=by
  obtain ⟨ta,tc,rfl,_⟩:=id h.t;obtain ⟨xa,xc,rfl,hxm,hxo⟩:=id h.x;obtain ⟨ba,bc,rfl,hbm,hbo⟩:=id h.b;obtain ⟨ra,rc,rfl,hrm,hro⟩:=id h.r;unfold maxLen at hxm hbm hrm;obtain ⟨W,hW⟩:∃ W,w.alloc (.cells #[.int .i64 1,.int .i64 c.op,.slice ta c.terms.length tc,.int .i64 c.k,.int .i64 c.v,.int .i64 c.x,.int .i64 c.y,.slice xa c.xs.length xc,.slice ba c.table.length bc,.slice ra c.rows.length rc] 51)=W:=⟨_,rfl⟩;have hbW:Below w.heap.size w W:=by rw [<-hW];exact (Below.refl _ _).alloc (Nat.le_refl _) _
  have HB:Hid (Below w.heap.size w W):=hbW;have HC:Hid (CnAt W c (.slice ta c.terms.length tc) (.slice xa c.xs.length xc) (.slice ba c.table.length bc) (.slice ra c.rows.length rc)):=h.below hbW;have HXO:Hid (0<c.xs.length->∃ b off,xa=some ⟨b,off,none⟩/\b<w.heap.size/\∀ j (h:j<c.xs.length),w.cell? ⟨b,off+j,none⟩=some (.int .i64 c.xs[j])):=hxo;have HBO:Hid (0<c.table.length->∃ b off,ba=some ⟨b,off,none⟩/\b<w.heap.size/\∀ j (h:j<c.table.length),w.cell? ⟨b,off+j,none⟩=some (.int .i64 c.table[j])):=hbo;have HRO:Hid (0<c.rows.length->∃ b off,ra=some ⟨b,off,none⟩/\b<w.heap.size/\∀ j (h:j<c.rows.length),∃ u,w.cell? ⟨b,off+j,none⟩=some u/\MInts w u c.rows[j]):=hro;have c0:W.cell? ⟨w.heap.size,0,none⟩=some (.int .i64 1):=by rw [<-hW];simp
  have c1:W.cell? ⟨w.heap.size,1,none⟩=some (.int .i64 c.op):=by rw [<-hW];simp
  have c2:W.cell? ⟨w.heap.size,2,none⟩=some (.slice ta c.terms.length tc):=by rw [<-hW];simp
  have c3:W.cell? ⟨w.heap.size,3,none⟩=some (.int .i64 c.k):=by rw [<-hW];simp
  have c4:W.cell? ⟨w.heap.size,4,none⟩=some (.int .i64 c.v):=by rw [<-hW];simp
  have c5:W.cell? ⟨w.heap.size,5,none⟩=some (.int .i64 c.x):=by rw [<-hW];simp
  have c6:W.cell? ⟨w.heap.size,6,none⟩=some (.int .i64 c.y):=by rw [<-hW];simp
  have c7:W.cell? ⟨w.heap.size,7,none⟩=some (.slice xa c.xs.length xc):=by rw [<-hW];simp
  have c8:W.cell? ⟨w.heap.size,8,none⟩=some (.slice ba c.table.length bc):=by rw [<-hW];simp
  have c9:W.cell? ⟨w.heap.size,9,none⟩=some (.slice ra c.rows.length rc):=by rw [<-hW];simp
  have hsz:W.heap.size=w.heap.size+1:=by rw [<-hW];simp
  have hsN:w.heap.size<W.heap.size:=by omega
  have HCC:Hid (∀ w',Below W.heap.size W w'->w'.cell? ⟨w.heap.size,0,none⟩=some (.int .i64 1)/\w'.cell? ⟨w.heap.size,1,none⟩=some (.int .i64 c.op)/\w'.cell? ⟨w.heap.size,2,none⟩=some (.slice ta c.terms.length tc)/\w'.cell? ⟨w.heap.size,3,none⟩=some (.int .i64 c.k)/\w'.cell? ⟨w.heap.size,4,none⟩=some (.int .i64 c.v)/\w'.cell? ⟨w.heap.size,5,none⟩=some (.int .i64 c.x)/\w'.cell? ⟨w.heap.size,6,none⟩=some (.int .i64 c.y)/\w'.cell? ⟨w.heap.size,7,none⟩=some (.slice xa c.xs.length xc)/\w'.cell? ⟨w.heap.size,8,none⟩=some (.slice ba c.table.length bc)/\w'.cell? ⟨w.heap.size,9,none⟩=some (.slice ra c.rows.length rc)):=fun w' hb=>⟨(hb.cell (p:=⟨w.heap.size,0,none⟩) hsN).trans c0,(hb.cell (p:=⟨w.heap.size,1,none⟩) hsN).trans c1,(hb.cell (p:=⟨w.heap.size,2,none⟩) hsN).trans c2,(hb.cell (p:=⟨w.heap.size,3,none⟩) hsN).trans c3,(hb.cell (p:=⟨w.heap.size,4,none⟩) hsN).trans c4,(hb.cell (p:=⟨w.heap.size,5,none⟩) hsN).trans c5,(hb.cell (p:=⟨w.heap.size,6,none⟩) hsN).trans c6,(hb.cell (p:=⟨w.heap.size,7,none⟩) hsN).trans c7,(hb.cell (p:=⟨w.heap.size,8,none⟩) hsN).trans c8,(hb.cell (p:=⟨w.heap.size,9,none⟩) hsN).trans c9⟩
  have H85:Hid (∀ w',CnAt w' c (.slice ta c.terms.length tc) (.slice xa c.xs.length xc) (.slice ba c.table.length bc) (.slice ra c.rows.length rc)->Calls Tryz.prog 157 #[cnVal c (.slice ta c.terms.length tc) (.slice xa c.xs.length xc) (.slice ba c.table.length bc) (.slice ra c.rows.length rc)] w' fun e w''=>e=.returned (.bool (Md.plainBad c||Md.listBad c))/\Below w'.heap.size w' w''):=hfg
  have H87:Hid (∀ w',CnAt w' c (.slice ta c.terms.length tc) (.slice xa c.xs.length xc) (.slice ba c.table.length bc) (.slice ra c.rows.length rc)->Calls Tryz.prog 159 #[cnVal c (.slice ta c.terms.length tc) (.slice xa c.xs.length xc) (.slice ba c.table.length bc) (.slice ra c.rows.length rc)] w' fun e w''=>e=.returned (.bool (!(decide (8<c.xs.length)||Md.fewB c.rows.length 64||!(c.rows.all fun r=>r.length==c.xs.length))))/\Below w'.heap.size w' w''):=fun w' h'=>rowsOk_any c _ _ _ _ w' h'
  have H88:Hid (∀ w',CnAt w' c (.slice ta c.terms.length tc) (.slice xa c.xs.length xc) (.slice ba c.table.length bc) (.slice ra c.rows.length rc)->Calls Tryz.prog 160 #[cnVal c (.slice ta c.terms.length tc) (.slice xa c.xs.length xc) (.slice ba c.table.length bc) (.slice ra c.rows.length rc),.int .i64 n] w' fun e w''=>e=.returned (.bool (Md.plB n c.x&&Md.plB n c.y&&c.xs.all (Md.plB n)))/\Below w'.heap.size w' w''):=fun w' h'=>places_any c _ _ _ _ n w' h'
  clear hfg;unfold cnVal at H85 H87 H88;rw [hk] at H85 H87 H88;unfold cnVal;clear h hxo hbo hro hbW hsz;have hkr:Hid (1<=c.kind/\c.kind<=9):=by rw [hk];exact ⟨by decide,by decide⟩
  by_cases hop1:c.op<1
  · have hres:Hid (Md.fault c n=43):=fault43' (by rw [hk];rfl) (.inl hop1)
    go_enter Tryz.func90,Tryz.ntmps90;go_wp2_with fail
    go_ret;exact ⟨mret_int hres.out.symm,HB.out⟩
  by_cases hop2:3<c.op
  · have hres:Hid (Md.fault c n=43):=fault43' (by rw [hk];rfl) (.inr hop2)
    go_enter Tryz.func90,Tryz.ntmps90;go_wp2_with fail
    go_ret;exact ⟨mret_int hres.out.symm,HB.out⟩
  have hkb:Hid (Md.kindBad c.kind c.op=false):=kind_ok' hkr.out (fun h=>by omega);go_enter Tryz.func90,Tryz.ntmps90;go_wp2_with fail
  refine mcalls_at (H85.out _ HC.out) (by with_reducible rfl) (by with_reducible rfl) ?_;rintro e w1 ⟨rfl,hb1⟩;have HB1:Hid (Below W.heap.size W w1):=hb1
  cases hfb:(Md.plainBad c||Md.listBad c)
  rotate_left
  · have hres:Hid (Md.fault c n=48):=by show _=_;exact fault48' hkb.out hfb
    go_wp2_with fail
    go_ret;exact ⟨mret_int hres.out.symm,HB.out.trans (Below.mono hb1 HB.out.size)⟩
  have HFB:Hid ((Md.plainBad c||Md.listBad c)=false):=hfb;clear hfb c0 c1 c2 c3 c4 c5 c6 c7 c8 c9;obtain ⟨a0,a1,a2,a3,a4,a5,a6,a7,a8,a9⟩:=HCC.out _ hb1;clear hb1;have hrows:Hid (c.rows.all (fun r=>r.length==c.xs.length)=true):=rows_nil hk rfl HFB.out;go_wp2_with (first | (go_at_call 158;refine (lists_any _ _).mono ?_;rintro e w' ⟨rfl,hww⟩;rw [hww,show Md.fXs 1=false from rfl]));refine (many_any c.terms.length _).mono ?_;rintro e w' ⟨rfl,hww⟩;rw [hww];clear hww
  cases hm1:Md.fewB c.terms.length 64
  rotate_left
  · have hres:Hid (Md.fault c n=47):=by show _=_;exact fault47' hkb.out HFB.out (by simp [Md.manyBad,hk,Md.fTerms,hm1])
    go_wp2_with fail
    go_ret;exact ⟨mret_int hres.out.symm,HB.out.trans (Below.mono HB1.out HB.out.size)⟩
  have hmb:Hid (Md.manyBad c=false):=by show _=_;simp [Md.manyBad,hk,Md.fTerms,Md.fXs,Md.fTable,Md.fRows,hm1,hrows.out]
  go_wp2_with (first | (go_at_call 158;refine (lists_any _ _).mono ?_;rintro e w' ⟨rfl,hww⟩;rw [hww,show Md.fXs 1=false from rfl]));refine (terms_any _ c.terms n _ (HC.out.below HB1.out).t).mono ?_;rintro e w' ⟨rfl,hww⟩;rw [hww];clear hww;obtain ⟨r,hr⟩:∃ r,termsE c.terms n=r:=⟨_,rfl⟩;rw [hr];have HRE:Hid (termsE c.terms n=r):=hr;clear hr;go_wp2_with fail
  refine mcalls_at (H88.out _ (HC.out.below HB1.out)) (by with_reducible rfl) (by with_reducible rfl) ?_;rintro e w3 ⟨rfl,hb3⟩;have HB3:Hid (Below W.heap.size W w3):=HB1.out.trans (hb3.mono HB1.out.size);clear hb3 a0 a1 a2 a3 a4 a5 a6 a7 a8 a9;obtain ⟨a0,a1,a2,a3,a4,a5,a6,a7,a8,a9⟩:=HCC.out _ HB3.out
  cases hps:(Md.plB n c.x&&Md.plB n c.y&&c.xs.all (Md.plB n))
  · have hres:Hid (Md.fault c n=44):=by show _=_;exact fault44' hkb.out HFB.out hmb.out (pl1 hps)
    go_wp2_with fail
    go_ret;exact ⟨mret_int hres.out.symm,HB.out.trans (Below.mono HB3.out HB.out.size)⟩
  rcases termsE_is c.terms n with ⟨h1,h2⟩ | ⟨h1,h2,h3⟩ | ⟨h1,h2,h3⟩
  · obtain rfl:r=44:=HRE.out.symm.trans h1
    have hres:Hid (Md.fault c n=44):=by show _=_;exact fault44' hkb.out HFB.out hmb.out (pl2 h2)
    go_wp2_with fail
    go_ret;exact ⟨mret_int hres.out.symm,HB.out.trans (Below.mono HB3.out HB.out.size)⟩
  · obtain rfl:r=45:=HRE.out.symm.trans h1
    have hres:Hid (Md.fault c n=45):=by show _=_;exact fault45' hkb.out HFB.out hmb.out (pl3 hps h2) h3
    go_wp2_with fail
    go_ret;exact ⟨mret_int hres.out.symm,HB.out.trans (Below.mono HB3.out HB.out.size)⟩
  · obtain rfl:r=0:=HRE.out.symm.trans h1
    have Hpc:Hid (Md.placesB c n=true/\Md.coefsB c.terms=true):=⟨pl3 hps h2,h3⟩;clear h1 h2 h3 hps
    cases hnk:Md.numB c.k
    · have hres:Hid (Md.fault c n=46):=by show _=_;exact fault46' hkb.out HFB.out hmb.out Hpc.out.1 Hpc.out.2 (by simp [Md.numsB,hnk])
      go_wp2_with (go_at_call 161;refine (number_any _ _).mono ?_;rintro e w' ⟨rfl,hww⟩;rw [hww]);go_ret;exact ⟨mret_int hres.out.symm,HB.out.trans (Below.mono HB3.out HB.out.size)⟩
    cases hnv:Md.numB c.v
    · have hres:Hid (Md.fault c n=46):=by show _=_;exact fault46' hkb.out HFB.out hmb.out Hpc.out.1 Hpc.out.2 (by simp [Md.numsB,hnv])
      go_wp2_with (go_at_call 161;refine (number_any _ _).mono ?_;rintro e w' ⟨rfl,hww⟩;rw [hww]);go_ret;exact ⟨mret_int hres.out.symm,HB.out.trans (Below.mono HB3.out HB.out.size)⟩
    go_wp2_with (go_at_call 161;refine (number_any _ _).mono ?_;rintro e w' ⟨rfl,hww⟩;rw [hww]);go_loop [7] (fun iv=>∃ k:Nat,iv=.int .i64 (k:Int)/\k<=c.rows.length/\Hid ((c.rows.take k).all (fun r=>r.all Md.numB)=true)) (fun iv=>c.rows.length-(intOf iv).toNat)
    case atStart=>exact ⟨0,rfl,Nat.zero_le _,(show _=_ by simp)⟩
    case round=>
      obtain ⟨k,rfl,hkk,hA⟩:=hrel
      by_cases hlt:k<c.rows.length
      · obtain ⟨b,off,rfl,hb,hc⟩:=HRO.out (by omega)
        obtain ⟨u,hcell,hu⟩:=hc k hlt;have hcw:=((HB.out.trans (HB3.out.mono HB.out.size)).cell (p:=⟨b,off+k,none⟩) hb).trans hcell;obtain ⟨ua,uc,rfl,hum,huo⟩:=hu;unfold maxLen at hum;have HUO:Hid (0<(c.rows[k]).length->∃ b off,ua=some ⟨b,off,none⟩/\b<w.heap.size/\∀ j (h:j<(c.rows[k]).length),w.cell? ⟨b,off+j,none⟩=some (.int .i64 (c.rows[k])[j])):=huo;have hkI:(k:Int)<(c.rows.length:Int):=by omega
        clear hc hcell huo;go_wp2_with fail
        go_loop [8] (fun jv=>∃ j:Nat,jv=.int .i64 (j:Int)/\j<=(c.rows[k]).length/\Hid (((c.rows[k]).take j).all Md.numB=true)) (fun jv=>(c.rows[k]).length-(intOf jv).toNat)
        case atStart=>exact ⟨0,rfl,Nat.zero_le _,(show _=_ by simp)⟩
        case round=>
          obtain ⟨j,rfl,hj,hJ⟩:=hrel
          by_cases hjl:j<(c.rows[k]).length
          · obtain ⟨bu,ou,rfl,hbu,hcu⟩:=HUO.out (by omega)
            have hcj:=((HB.out.trans (HB3.out.mono HB.out.size)).cell (p:=⟨bu,ou+j,none⟩) hbu).trans (hcu j hjl);have hjI:(j:Int)<((c.rows[k]).length:Int):=by omega
            clear hcu
            cases hp:Md.numB (c.rows[k])[j]
            · have hres:Hid (Md.fault c n=46):=fault46' hkb.out HFB.out hmb.out Hpc.out.1 Hpc.out.2 (nums_row (Md.all_stop hlt (Md.all_stop hjl hp)))
              generalize (c.rows[k])[j]=y at *
              go_wp2_with (go_at_call 161;refine (number_any _ _).mono ?_;rintro e w' ⟨rfl,hww⟩;rw [hww]);go_ret;exact ⟨mret_int hres.out.symm,HB.out.trans (Below.mono HB3.out HB.out.size)⟩
            · have hnx:Hid (((c.rows[k]).take (j+1)).all Md.numB=true):=Md.all_next hJ.out hjl hp
              generalize (c.rows[k])[j]=y at *
              go_wp2_with (go_at_call 161;refine (number_any _ _).mono ?_;rintro e w' ⟨rfl,hww⟩;rw [hww]);go_round
              case rel=>exact ⟨j+1,by go_num,by omega,hnx⟩
              case measure=>simp [intOf];omega
          · have hjI:¬ (j:Int)<((c.rows[k]).length:Int):=by omega
            have hnx:Hid ((c.rows.take (k+1)).all (fun r=>r.all Md.numB)=true):=Md.all_next hA.out hlt (Md.all_done hJ.out (by omega));go_wp2_with fail
            go_round
            case rel=>exact ⟨k+1,by go_num,by omega,hnx⟩
            case measure=>simp [intOf];omega
      · have hkI:¬ (k:Int)<(c.rows.length:Int):=by omega
        have hrn:Hid (c.rows.all (fun r=>r.all Md.numB)=true):=Md.all_done hA.out (by omega);go_wp2_with fail
        go_loop [9] (fun iv=>∃ k:Nat,iv=.int .i64 (k:Int)/\k<=c.table.length/\Hid ((c.table.take k).all Md.numB=true)) (fun iv=>c.table.length-(intOf iv).toNat)
        case atStart=>exact ⟨0,rfl,Nat.zero_le _,(show _=_ by simp)⟩
        case round=>
          obtain ⟨j,rfl,hj,hJ⟩:=hrel
          by_cases hjl:j<c.table.length
          · obtain ⟨bu,ou,rfl,hbu,hcu⟩:=HBO.out (by omega)
            have hcj:=((HB.out.trans (HB3.out.mono HB.out.size)).cell (p:=⟨bu,ou+j,none⟩) hbu).trans (hcu j hjl);have hjI:(j:Int)<(c.table.length:Int):=by omega
            clear hcu
            cases hp:Md.numB c.table[j]
            · have hres:Hid (Md.fault c n=46):=fault46' hkb.out HFB.out hmb.out Hpc.out.1 Hpc.out.2 (nums_tab (Md.all_stop hjl hp))
              generalize c.table[j]=y at *
              go_wp2_with (go_at_call 161;refine (number_any _ _).mono ?_;rintro e w' ⟨rfl,hww⟩;rw [hww]);go_ret;exact ⟨mret_int hres.out.symm,HB.out.trans (Below.mono HB3.out HB.out.size)⟩
            · have hnx:Hid ((c.table.take (j+1)).all Md.numB=true):=Md.all_next hJ.out hjl hp
              generalize c.table[j]=y at *
              go_wp2_with (go_at_call 161;refine (number_any _ _).mono ?_;rintro e w' ⟨rfl,hww⟩;rw [hww]);go_round
              case rel=>exact ⟨j+1,by go_num,by omega,hnx⟩
              case measure=>simp [intOf];omega
          · have hjI:¬ (j:Int)<(c.table.length:Int):=by omega
            have hres:Hid (Md.fault c n=0):=fault0' hkb.out HFB.out hmb.out Hpc.out.1 Hpc.out.2 (by simp [Md.numsB,hnk,hnv,hrn.out,Md.all_done hJ.out (show c.table.length<=j by omega)]);go_wp2_with fail
            go_ret;exact ⟨mret_int hres.out.symm,HB.out.trans (Below.mono HB3.out HB.out.size)⟩
end Go.Proofs.YtjgghimjnbjlbaaGreatDoor.Doc

namespace Go.Proofs.YtjgghimjnbjlbaaGreatDoor.Doc
open Go.RowKit
set_option maxRecDepth 10000
set_option maxHeartbeats 8000000
theorem refCon_2 (c:Md.Cn) (vt vx vb vr:Value) (n:Int) (w:World) (h:CnAt w c vt vx vb vr) (hk:c.kind=2) (hfg:∀ w',CnAt w' c vt vx vb vr->Calls Tryz.prog 157 #[cnVal c vt vx vb vr] w' fun e w''=>e=.returned (.bool (Md.plainBad c||Md.listBad c))/\Below w'.heap.size w' w''):Calls Tryz.prog 90 #[cnVal c vt vx vb vr,.int .i64 n] w fun e w'=>e=.returned (.int .i64 (Md.fault c n))/\Below w.heap.size w w':=by
  obtain ⟨ta,tc,rfl,_⟩:=id h.t;obtain ⟨xa,xc,rfl,hxm,hxo⟩:=id h.x;obtain ⟨ba,bc,rfl,hbm,hbo⟩:=id h.b;obtain ⟨ra,rc,rfl,hrm,hro⟩:=id h.r;unfold maxLen at hxm hbm hrm;obtain ⟨W,hW⟩:∃ W,w.alloc (.cells #[.int .i64 2,.int .i64 c.op,.slice ta c.terms.length tc,.int .i64 c.k,.int .i64 c.v,.int .i64 c.x,.int .i64 c.y,.slice xa c.xs.length xc,.slice ba c.table.length bc,.slice ra c.rows.length rc] 51)=W:=⟨_,rfl⟩;have hbW:Below w.heap.size w W:=by rw [<-hW];exact (Below.refl _ _).alloc (Nat.le_refl _) _
  have HB:Hid (Below w.heap.size w W):=hbW;have HC:Hid (CnAt W c (.slice ta c.terms.length tc) (.slice xa c.xs.length xc) (.slice ba c.table.length bc) (.slice ra c.rows.length rc)):=h.below hbW;have HXO:Hid (0<c.xs.length->∃ b off,xa=some ⟨b,off,none⟩/\b<w.heap.size/\∀ j (h:j<c.xs.length),w.cell? ⟨b,off+j,none⟩=some (.int .i64 c.xs[j])):=hxo;have HBO:Hid (0<c.table.length->∃ b off,ba=some ⟨b,off,none⟩/\b<w.heap.size/\∀ j (h:j<c.table.length),w.cell? ⟨b,off+j,none⟩=some (.int .i64 c.table[j])):=hbo;have HRO:Hid (0<c.rows.length->∃ b off,ra=some ⟨b,off,none⟩/\b<w.heap.size/\∀ j (h:j<c.rows.length),∃ u,w.cell? ⟨b,off+j,none⟩=some u/\MInts w u c.rows[j]):=hro;have c0:W.cell? ⟨w.heap.size,0,none⟩=some (.int .i64 2):=by rw [<-hW];simp
  have c1:W.cell? ⟨w.heap.size,1,none⟩=some (.int .i64 c.op):=by rw [<-hW];simp
  have c2:W.cell? ⟨w.heap.size,2,none⟩=some (.slice ta c.terms.length tc):=by rw [<-hW];simp
  have c3:W.cell? ⟨w.heap.size,3,none⟩=some (.int .i64 c.k):=by rw [<-hW];simp
  have c4:W.cell? ⟨w.heap.size,4,none⟩=some (.int .i64 c.v):=by rw [<-hW];simp
  have c5:W.cell? ⟨w.heap.size,5,none⟩=some (.int .i64 c.x):=by rw [<-hW];simp
  have c6:W.cell? ⟨w.heap.size,6,none⟩=some (.int .i64 c.y):=by rw [<-hW];simp
  have c7:W.cell? ⟨w.heap.size,7,none⟩=some (.slice xa c.xs.length xc):=by rw [<-hW];simp
  have c8:W.cell? ⟨w.heap.size,8,none⟩=some (.slice ba c.table.length bc):=by rw [<-hW];simp
  have c9:W.cell? ⟨w.heap.size,9,none⟩=some (.slice ra c.rows.length rc):=by rw [<-hW];simp
  have hsz:W.heap.size=w.heap.size+1:=by rw [<-hW];simp
  have hsN:w.heap.size<W.heap.size:=by omega
  have HCC:Hid (∀ w',Below W.heap.size W w'->w'.cell? ⟨w.heap.size,0,none⟩=some (.int .i64 2)/\w'.cell? ⟨w.heap.size,1,none⟩=some (.int .i64 c.op)/\w'.cell? ⟨w.heap.size,2,none⟩=some (.slice ta c.terms.length tc)/\w'.cell? ⟨w.heap.size,3,none⟩=some (.int .i64 c.k)/\w'.cell? ⟨w.heap.size,4,none⟩=some (.int .i64 c.v)/\w'.cell? ⟨w.heap.size,5,none⟩=some (.int .i64 c.x)/\w'.cell? ⟨w.heap.size,6,none⟩=some (.int .i64 c.y)/\w'.cell? ⟨w.heap.size,7,none⟩=some (.slice xa c.xs.length xc)/\w'.cell? ⟨w.heap.size,8,none⟩=some (.slice ba c.table.length bc)/\w'.cell? ⟨w.heap.size,9,none⟩=some (.slice ra c.rows.length rc)):=fun w' hb=>⟨(hb.cell (p:=⟨w.heap.size,0,none⟩) hsN).trans c0,(hb.cell (p:=⟨w.heap.size,1,none⟩) hsN).trans c1,(hb.cell (p:=⟨w.heap.size,2,none⟩) hsN).trans c2,(hb.cell (p:=⟨w.heap.size,3,none⟩) hsN).trans c3,(hb.cell (p:=⟨w.heap.size,4,none⟩) hsN).trans c4,(hb.cell (p:=⟨w.heap.size,5,none⟩) hsN).trans c5,(hb.cell (p:=⟨w.heap.size,6,none⟩) hsN).trans c6,(hb.cell (p:=⟨w.heap.size,7,none⟩) hsN).trans c7,(hb.cell (p:=⟨w.heap.size,8,none⟩) hsN).trans c8,(hb.cell (p:=⟨w.heap.size,9,none⟩) hsN).trans c9⟩
  have H85:Hid (∀ w',CnAt w' c (.slice ta c.terms.length tc) (.slice xa c.xs.length xc) (.slice ba c.table.length bc) (.slice ra c.rows.length rc)->Calls Tryz.prog 157 #[cnVal c (.slice ta c.terms.length tc) (.slice xa c.xs.length xc) (.slice ba c.table.length bc) (.slice ra c.rows.length rc)] w' fun e w''=>e=.returned (.bool (Md.plainBad c||Md.listBad c))/\Below w'.heap.size w' w''):=hfg
  have H87:Hid (∀ w',CnAt w' c (.slice ta c.terms.length tc) (.slice xa c.xs.length xc) (.slice ba c.table.length bc) (.slice ra c.rows.length rc)->Calls Tryz.prog 159 #[cnVal c (.slice ta c.terms.length tc) (.slice xa c.xs.length xc) (.slice ba c.table.length bc) (.slice ra c.rows.length rc)] w' fun e w''=>e=.returned (.bool (!(decide (8<c.xs.length)||Md.fewB c.rows.length 64||!(c.rows.all fun r=>r.length==c.xs.length))))/\Below w'.heap.size w' w''):=fun w' h'=>rowsOk_any c _ _ _ _ w' h'
  have H88:Hid (∀ w',CnAt w' c (.slice ta c.terms.length tc) (.slice xa c.xs.length xc) (.slice ba c.table.length bc) (.slice ra c.rows.length rc)->Calls Tryz.prog 160 #[cnVal c (.slice ta c.terms.length tc) (.slice xa c.xs.length xc) (.slice ba c.table.length bc) (.slice ra c.rows.length rc),.int .i64 n] w' fun e w''=>e=.returned (.bool (Md.plB n c.x&&Md.plB n c.y&&c.xs.all (Md.plB n)))/\Below w'.heap.size w' w''):=fun w' h'=>places_any c _ _ _ _ n w' h'
  clear hfg;unfold cnVal at H85 H87 H88;rw [hk] at H85 H87 H88;unfold cnVal;clear h hxo hbo hro hbW hsz;have hkr:Hid (1<=c.kind/\c.kind<=9):=by rw [hk];exact ⟨by decide,by decide⟩
  have hkb:Hid (Md.kindBad c.kind c.op=false):=kind_ok' hkr.out (fun h=>by rw [hk] at h;exact absurd h.1 (by decide));go_enter Tryz.func90,Tryz.ntmps90;go_wp2_with fail
  refine mcalls_at (H85.out _ HC.out) (by with_reducible rfl) (by with_reducible rfl) ?_;rintro e w1 ⟨rfl,hb1⟩;have HB1:Hid (Below W.heap.size W w1):=hb1
  cases hfb:(Md.plainBad c||Md.listBad c)
  rotate_left
  · have hres:Hid (Md.fault c n=48):=by show _=_;exact fault48' hkb.out hfb
    go_wp2_with fail
    go_ret;exact ⟨mret_int hres.out.symm,HB.out.trans (Below.mono hb1 HB.out.size)⟩
  have HFB:Hid ((Md.plainBad c||Md.listBad c)=false):=hfb;clear hfb c0 c1 c2 c3 c4 c5 c6 c7 c8 c9;obtain ⟨a0,a1,a2,a3,a4,a5,a6,a7,a8,a9⟩:=HCC.out _ hb1;clear hb1;have hrows:Hid (c.rows.all (fun r=>r.length==c.xs.length)=true):=rows_nil hk rfl HFB.out;have hmb:Hid (Md.manyBad c=false):=by show _=_;simp [Md.manyBad,hk,Md.fTerms,Md.fXs,Md.fTable,Md.fRows,hrows.out]
  go_wp2_with (first | (go_at_call 158;refine (lists_any _ _).mono ?_;rintro e w' ⟨rfl,hww⟩;rw [hww,show Md.fXs 2=false from rfl]));refine (terms_any _ c.terms n _ (HC.out.below HB1.out).t).mono ?_;rintro e w' ⟨rfl,hww⟩;rw [hww];clear hww;obtain ⟨r,hr⟩:∃ r,termsE c.terms n=r:=⟨_,rfl⟩;rw [hr];have HRE:Hid (termsE c.terms n=r):=hr;clear hr;go_wp2_with fail
  refine mcalls_at (H88.out _ (HC.out.below HB1.out)) (by with_reducible rfl) (by with_reducible rfl) ?_;rintro e w3 ⟨rfl,hb3⟩;have HB3:Hid (Below W.heap.size W w3):=HB1.out.trans (hb3.mono HB1.out.size);clear hb3 a0 a1 a2 a3 a4 a5 a6 a7 a8 a9;obtain ⟨a0,a1,a2,a3,a4,a5,a6,a7,a8,a9⟩:=HCC.out _ HB3.out
  cases hps:(Md.plB n c.x&&Md.plB n c.y&&c.xs.all (Md.plB n))
  · have hres:Hid (Md.fault c n=44):=by show _=_;exact fault44' hkb.out HFB.out hmb.out (pl1 hps)
    go_wp2_with fail
    go_ret;exact ⟨mret_int hres.out.symm,HB.out.trans (Below.mono HB3.out HB.out.size)⟩
  rcases termsE_is c.terms n with ⟨h1,h2⟩ | ⟨h1,h2,h3⟩ | ⟨h1,h2,h3⟩
  · obtain rfl:r=44:=HRE.out.symm.trans h1
    have hres:Hid (Md.fault c n=44):=by show _=_;exact fault44' hkb.out HFB.out hmb.out (pl2 h2)
    go_wp2_with fail
    go_ret;exact ⟨mret_int hres.out.symm,HB.out.trans (Below.mono HB3.out HB.out.size)⟩
  · obtain rfl:r=45:=HRE.out.symm.trans h1
    have hres:Hid (Md.fault c n=45):=by show _=_;exact fault45' hkb.out HFB.out hmb.out (pl3 hps h2) h3
    go_wp2_with fail
    go_ret;exact ⟨mret_int hres.out.symm,HB.out.trans (Below.mono HB3.out HB.out.size)⟩
  · obtain rfl:r=0:=HRE.out.symm.trans h1
    have Hpc:Hid (Md.placesB c n=true/\Md.coefsB c.terms=true):=⟨pl3 hps h2,h3⟩;clear h1 h2 h3 hps
    cases hnk:Md.numB c.k
    · have hres:Hid (Md.fault c n=46):=by show _=_;exact fault46' hkb.out HFB.out hmb.out Hpc.out.1 Hpc.out.2 (by simp [Md.numsB,hnk])
      go_wp2_with (go_at_call 161;refine (number_any _ _).mono ?_;rintro e w' ⟨rfl,hww⟩;rw [hww]);go_ret;exact ⟨mret_int hres.out.symm,HB.out.trans (Below.mono HB3.out HB.out.size)⟩
    cases hnv:Md.numB c.v
    · have hres:Hid (Md.fault c n=46):=by show _=_;exact fault46' hkb.out HFB.out hmb.out Hpc.out.1 Hpc.out.2 (by simp [Md.numsB,hnv])
      go_wp2_with (go_at_call 161;refine (number_any _ _).mono ?_;rintro e w' ⟨rfl,hww⟩;rw [hww]);go_ret;exact ⟨mret_int hres.out.symm,HB.out.trans (Below.mono HB3.out HB.out.size)⟩
    go_wp2_with (go_at_call 161;refine (number_any _ _).mono ?_;rintro e w' ⟨rfl,hww⟩;rw [hww]);go_loop [7] (fun iv=>∃ k:Nat,iv=.int .i64 (k:Int)/\k<=c.rows.length/\Hid ((c.rows.take k).all (fun r=>r.all Md.numB)=true)) (fun iv=>c.rows.length-(intOf iv).toNat)
    case atStart=>exact ⟨0,rfl,Nat.zero_le _,(show _=_ by simp)⟩
    case round=>
      obtain ⟨k,rfl,hkk,hA⟩:=hrel
      by_cases hlt:k<c.rows.length
      · obtain ⟨b,off,rfl,hb,hc⟩:=HRO.out (by omega)
        obtain ⟨u,hcell,hu⟩:=hc k hlt;have hcw:=((HB.out.trans (HB3.out.mono HB.out.size)).cell (p:=⟨b,off+k,none⟩) hb).trans hcell;obtain ⟨ua,uc,rfl,hum,huo⟩:=hu;unfold maxLen at hum;have HUO:Hid (0<(c.rows[k]).length->∃ b off,ua=some ⟨b,off,none⟩/\b<w.heap.size/\∀ j (h:j<(c.rows[k]).length),w.cell? ⟨b,off+j,none⟩=some (.int .i64 (c.rows[k])[j])):=huo;have hkI:(k:Int)<(c.rows.length:Int):=by omega
        clear hc hcell huo;go_wp2_with fail
        go_loop [8] (fun jv=>∃ j:Nat,jv=.int .i64 (j:Int)/\j<=(c.rows[k]).length/\Hid (((c.rows[k]).take j).all Md.numB=true)) (fun jv=>(c.rows[k]).length-(intOf jv).toNat)
        case atStart=>exact ⟨0,rfl,Nat.zero_le _,(show _=_ by simp)⟩
        case round=>
          obtain ⟨j,rfl,hj,hJ⟩:=hrel
          by_cases hjl:j<(c.rows[k]).length
          · obtain ⟨bu,ou,rfl,hbu,hcu⟩:=HUO.out (by omega)
            have hcj:=((HB.out.trans (HB3.out.mono HB.out.size)).cell (p:=⟨bu,ou+j,none⟩) hbu).trans (hcu j hjl);have hjI:(j:Int)<((c.rows[k]).length:Int):=by omega
            clear hcu
            cases hp:Md.numB (c.rows[k])[j]
            · have hres:Hid (Md.fault c n=46):=fault46' hkb.out HFB.out hmb.out Hpc.out.1 Hpc.out.2 (nums_row (Md.all_stop hlt (Md.all_stop hjl hp)))
              generalize (c.rows[k])[j]=y at *
              go_wp2_with (go_at_call 161;refine (number_any _ _).mono ?_;rintro e w' ⟨rfl,hww⟩;rw [hww]);go_ret;exact ⟨mret_int hres.out.symm,HB.out.trans (Below.mono HB3.out HB.out.size)⟩
            · have hnx:Hid (((c.rows[k]).take (j+1)).all Md.numB=true):=Md.all_next hJ.out hjl hp
              generalize (c.rows[k])[j]=y at *
              go_wp2_with (go_at_call 161;refine (number_any _ _).mono ?_;rintro e w' ⟨rfl,hww⟩;rw [hww]);go_round
              case rel=>exact ⟨j+1,by go_num,by omega,hnx⟩
              case measure=>simp [intOf];omega
          · have hjI:¬ (j:Int)<((c.rows[k]).length:Int):=by omega
            have hnx:Hid ((c.rows.take (k+1)).all (fun r=>r.all Md.numB)=true):=Md.all_next hA.out hlt (Md.all_done hJ.out (by omega));go_wp2_with fail
            go_round
            case rel=>exact ⟨k+1,by go_num,by omega,hnx⟩
            case measure=>simp [intOf];omega
      · have hkI:¬ (k:Int)<(c.rows.length:Int):=by omega
        have hrn:Hid (c.rows.all (fun r=>r.all Md.numB)=true):=Md.all_done hA.out (by omega);go_wp2_with fail
        go_loop [9] (fun iv=>∃ k:Nat,iv=.int .i64 (k:Int)/\k<=c.table.length/\Hid ((c.table.take k).all Md.numB=true)) (fun iv=>c.table.length-(intOf iv).toNat)
        case atStart=>exact ⟨0,rfl,Nat.zero_le _,(show _=_ by simp)⟩
        case round=>
          obtain ⟨j,rfl,hj,hJ⟩:=hrel
          by_cases hjl:j<c.table.length
          · obtain ⟨bu,ou,rfl,hbu,hcu⟩:=HBO.out (by omega)
            have hcj:=((HB.out.trans (HB3.out.mono HB.out.size)).cell (p:=⟨bu,ou+j,none⟩) hbu).trans (hcu j hjl);have hjI:(j:Int)<(c.table.length:Int):=by omega
            clear hcu
            cases hp:Md.numB c.table[j]
            · have hres:Hid (Md.fault c n=46):=fault46' hkb.out HFB.out hmb.out Hpc.out.1 Hpc.out.2 (nums_tab (Md.all_stop hjl hp))
              generalize c.table[j]=y at *
              go_wp2_with (go_at_call 161;refine (number_any _ _).mono ?_;rintro e w' ⟨rfl,hww⟩;rw [hww]);go_ret;exact ⟨mret_int hres.out.symm,HB.out.trans (Below.mono HB3.out HB.out.size)⟩
            · have hnx:Hid ((c.table.take (j+1)).all Md.numB=true):=Md.all_next hJ.out hjl hp
              generalize c.table[j]=y at *
              go_wp2_with (go_at_call 161;refine (number_any _ _).mono ?_;rintro e w' ⟨rfl,hww⟩;rw [hww]);go_round
              case rel=>exact ⟨j+1,by go_num,by omega,hnx⟩
              case measure=>simp [intOf];omega
          · have hjI:¬ (j:Int)<(c.table.length:Int):=by omega
            have hres:Hid (Md.fault c n=0):=fault0' hkb.out HFB.out hmb.out Hpc.out.1 Hpc.out.2 (by simp [Md.numsB,hnk,hnv,hrn.out,Md.all_done hJ.out (show c.table.length<=j by omega)]);go_wp2_with fail
            go_ret;exact ⟨mret_int hres.out.symm,HB.out.trans (Below.mono HB3.out HB.out.size)⟩
end Go.Proofs.YtjgghimjnbjlbaaGreatDoor.Doc

namespace Go.Proofs.YtjgghimjnbjlbaaGreatDoor.Doc
open Go.RowKit
set_option maxRecDepth 10000
set_option maxHeartbeats 8000000
theorem refCon_3 (c:Md.Cn) (vt vx vb vr:Value) (n:Int) (w:World) (h:CnAt w c vt vx vb vr) (hk:c.kind=3) (hfg:∀ w',CnAt w' c vt vx vb vr->Calls Tryz.prog 157 #[cnVal c vt vx vb vr] w' fun e w''=>e=.returned (.bool (Md.plainBad c||Md.listBad c))/\Below w'.heap.size w' w''):Calls Tryz.prog 90 #[cnVal c vt vx vb vr,.int .i64 n] w fun e w'=>e=.returned (.int .i64 (Md.fault c n))/\Below w.heap.size w w':=by
  obtain ⟨ta,tc,rfl,_⟩:=id h.t;obtain ⟨xa,xc,rfl,hxm,hxo⟩:=id h.x;obtain ⟨ba,bc,rfl,hbm,hbo⟩:=id h.b;obtain ⟨ra,rc,rfl,hrm,hro⟩:=id h.r;unfold maxLen at hxm hbm hrm;obtain ⟨W,hW⟩:∃ W,w.alloc (.cells #[.int .i64 3,.int .i64 c.op,.slice ta c.terms.length tc,.int .i64 c.k,.int .i64 c.v,.int .i64 c.x,.int .i64 c.y,.slice xa c.xs.length xc,.slice ba c.table.length bc,.slice ra c.rows.length rc] 51)=W:=⟨_,rfl⟩;have hbW:Below w.heap.size w W:=by rw [<-hW];exact (Below.refl _ _).alloc (Nat.le_refl _) _
  have HB:Hid (Below w.heap.size w W):=hbW;have HC:Hid (CnAt W c (.slice ta c.terms.length tc) (.slice xa c.xs.length xc) (.slice ba c.table.length bc) (.slice ra c.rows.length rc)):=h.below hbW;have HXO:Hid (0<c.xs.length->∃ b off,xa=some ⟨b,off,none⟩/\b<w.heap.size/\∀ j (h:j<c.xs.length),w.cell? ⟨b,off+j,none⟩=some (.int .i64 c.xs[j])):=hxo;have HBO:Hid (0<c.table.length->∃ b off,ba=some ⟨b,off,none⟩/\b<w.heap.size/\∀ j (h:j<c.table.length),w.cell? ⟨b,off+j,none⟩=some (.int .i64 c.table[j])):=hbo;have HRO:Hid (0<c.rows.length->∃ b off,ra=some ⟨b,off,none⟩/\b<w.heap.size/\∀ j (h:j<c.rows.length),∃ u,w.cell? ⟨b,off+j,none⟩=some u/\MInts w u c.rows[j]):=hro;have c0:W.cell? ⟨w.heap.size,0,none⟩=some (.int .i64 3):=by rw [<-hW];simp
  have c1:W.cell? ⟨w.heap.size,1,none⟩=some (.int .i64 c.op):=by rw [<-hW];simp
  have c2:W.cell? ⟨w.heap.size,2,none⟩=some (.slice ta c.terms.length tc):=by rw [<-hW];simp
  have c3:W.cell? ⟨w.heap.size,3,none⟩=some (.int .i64 c.k):=by rw [<-hW];simp
  have c4:W.cell? ⟨w.heap.size,4,none⟩=some (.int .i64 c.v):=by rw [<-hW];simp
  have c5:W.cell? ⟨w.heap.size,5,none⟩=some (.int .i64 c.x):=by rw [<-hW];simp
  have c6:W.cell? ⟨w.heap.size,6,none⟩=some (.int .i64 c.y):=by rw [<-hW];simp
  have c7:W.cell? ⟨w.heap.size,7,none⟩=some (.slice xa c.xs.length xc):=by rw [<-hW];simp
  have c8:W.cell? ⟨w.heap.size,8,none⟩=some (.slice ba c.table.length bc):=by rw [<-hW];simp
  have c9:W.cell? ⟨w.heap.size,9,none⟩=some (.slice ra c.rows.length rc):=by rw [<-hW];simp
  have hsz:W.heap.size=w.heap.size+1:=by rw [<-hW];simp
  have hsN:w.heap.size<W.heap.size:=by omega
  have HCC:Hid (∀ w',Below W.heap.size W w'->w'.cell? ⟨w.heap.size,0,none⟩=some (.int .i64 3)/\w'.cell? ⟨w.heap.size,1,none⟩=some (.int .i64 c.op)/\w'.cell? ⟨w.heap.size,2,none⟩=some (.slice ta c.terms.length tc)/\w'.cell? ⟨w.heap.size,3,none⟩=some (.int .i64 c.k)/\w'.cell? ⟨w.heap.size,4,none⟩=some (.int .i64 c.v)/\w'.cell? ⟨w.heap.size,5,none⟩=some (.int .i64 c.x)/\w'.cell? ⟨w.heap.size,6,none⟩=some (.int .i64 c.y)/\w'.cell? ⟨w.heap.size,7,none⟩=some (.slice xa c.xs.length xc)/\w'.cell? ⟨w.heap.size,8,none⟩=some (.slice ba c.table.length bc)/\w'.cell? ⟨w.heap.size,9,none⟩=some (.slice ra c.rows.length rc)):=fun w' hb=>⟨(hb.cell (p:=⟨w.heap.size,0,none⟩) hsN).trans c0,(hb.cell (p:=⟨w.heap.size,1,none⟩) hsN).trans c1,(hb.cell (p:=⟨w.heap.size,2,none⟩) hsN).trans c2,(hb.cell (p:=⟨w.heap.size,3,none⟩) hsN).trans c3,(hb.cell (p:=⟨w.heap.size,4,none⟩) hsN).trans c4,(hb.cell (p:=⟨w.heap.size,5,none⟩) hsN).trans c5,(hb.cell (p:=⟨w.heap.size,6,none⟩) hsN).trans c6,(hb.cell (p:=⟨w.heap.size,7,none⟩) hsN).trans c7,(hb.cell (p:=⟨w.heap.size,8,none⟩) hsN).trans c8,(hb.cell (p:=⟨w.heap.size,9,none⟩) hsN).trans c9⟩
  have H85:Hid (∀ w',CnAt w' c (.slice ta c.terms.length tc) (.slice xa c.xs.length xc) (.slice ba c.table.length bc) (.slice ra c.rows.length rc)->Calls Tryz.prog 157 #[cnVal c (.slice ta c.terms.length tc) (.slice xa c.xs.length xc) (.slice ba c.table.length bc) (.slice ra c.rows.length rc)] w' fun e w''=>e=.returned (.bool (Md.plainBad c||Md.listBad c))/\Below w'.heap.size w' w''):=hfg
  have H87:Hid (∀ w',CnAt w' c (.slice ta c.terms.length tc) (.slice xa c.xs.length xc) (.slice ba c.table.length bc) (.slice ra c.rows.length rc)->Calls Tryz.prog 159 #[cnVal c (.slice ta c.terms.length tc) (.slice xa c.xs.length xc) (.slice ba c.table.length bc) (.slice ra c.rows.length rc)] w' fun e w''=>e=.returned (.bool (!(decide (8<c.xs.length)||Md.fewB c.rows.length 64||!(c.rows.all fun r=>r.length==c.xs.length))))/\Below w'.heap.size w' w''):=fun w' h'=>rowsOk_any c _ _ _ _ w' h'
  have H88:Hid (∀ w',CnAt w' c (.slice ta c.terms.length tc) (.slice xa c.xs.length xc) (.slice ba c.table.length bc) (.slice ra c.rows.length rc)->Calls Tryz.prog 160 #[cnVal c (.slice ta c.terms.length tc) (.slice xa c.xs.length xc) (.slice ba c.table.length bc) (.slice ra c.rows.length rc),.int .i64 n] w' fun e w''=>e=.returned (.bool (Md.plB n c.x&&Md.plB n c.y&&c.xs.all (Md.plB n)))/\Below w'.heap.size w' w''):=fun w' h'=>places_any c _ _ _ _ n w' h'
  clear hfg;unfold cnVal at H85 H87 H88;rw [hk] at H85 H87 H88;unfold cnVal;clear h hxo hbo hro hbW hsz;have hkr:Hid (1<=c.kind/\c.kind<=9):=by rw [hk];exact ⟨by decide,by decide⟩
  have hkb:Hid (Md.kindBad c.kind c.op=false):=kind_ok' hkr.out (fun h=>by rw [hk] at h;exact absurd h.1 (by decide));go_enter Tryz.func90,Tryz.ntmps90;go_wp2_with fail
  refine mcalls_at (H85.out _ HC.out) (by with_reducible rfl) (by with_reducible rfl) ?_;rintro e w1 ⟨rfl,hb1⟩;have HB1:Hid (Below W.heap.size W w1):=hb1
  cases hfb:(Md.plainBad c||Md.listBad c)
  rotate_left
  · have hres:Hid (Md.fault c n=48):=by show _=_;exact fault48' hkb.out hfb
    go_wp2_with fail
    go_ret;exact ⟨mret_int hres.out.symm,HB.out.trans (Below.mono hb1 HB.out.size)⟩
  have HFB:Hid ((Md.plainBad c||Md.listBad c)=false):=hfb;clear hfb c0 c1 c2 c3 c4 c5 c6 c7 c8 c9;obtain ⟨a0,a1,a2,a3,a4,a5,a6,a7,a8,a9⟩:=HCC.out _ hb1;clear hb1;have hrows:Hid (c.rows.all (fun r=>r.length==c.xs.length)=true):=rows_nil hk rfl HFB.out;go_wp2_with (first | (go_at_call 158;refine (lists_any _ _).mono ?_;rintro e w' ⟨rfl,hww⟩;rw [hww,show Md.fXs 3=true from rfl]));refine (many_any c.xs.length _).mono ?_;rintro e w' ⟨rfl,hww⟩;rw [hww];clear hww
  cases hm1:Md.fewB c.xs.length 64
  rotate_left
  · have hres:Hid (Md.fault c n=47):=by show _=_;exact fault47' hkb.out HFB.out (by simp [Md.manyBad,hk,Md.fXs,Md.mostXs,hm1])
    go_wp2_with fail
    go_ret;exact ⟨mret_int hres.out.symm,HB.out.trans (Below.mono HB1.out HB.out.size)⟩
  have hmb:Hid (Md.manyBad c=false):=by show _=_;simp [Md.manyBad,hk,Md.fTerms,Md.fXs,Md.fTable,Md.fRows,Md.mostXs,hm1,hrows.out]
  go_wp2_with (first | (go_at_call 158;refine (lists_any _ _).mono ?_;rintro e w' ⟨rfl,hww⟩;rw [hww,show Md.fXs 3=true from rfl]));refine (terms_any _ c.terms n _ (HC.out.below HB1.out).t).mono ?_;rintro e w' ⟨rfl,hww⟩;rw [hww];clear hww;obtain ⟨r,hr⟩:∃ r,termsE c.terms n=r:=⟨_,rfl⟩;rw [hr];have HRE:Hid (termsE c.terms n=r):=hr;clear hr;go_wp2_with fail
  refine mcalls_at (H88.out _ (HC.out.below HB1.out)) (by with_reducible rfl) (by with_reducible rfl) ?_;rintro e w3 ⟨rfl,hb3⟩;have HB3:Hid (Below W.heap.size W w3):=HB1.out.trans (hb3.mono HB1.out.size);clear hb3 a0 a1 a2 a3 a4 a5 a6 a7 a8 a9;obtain ⟨a0,a1,a2,a3,a4,a5,a6,a7,a8,a9⟩:=HCC.out _ HB3.out
  cases hps:(Md.plB n c.x&&Md.plB n c.y&&c.xs.all (Md.plB n))
  · have hres:Hid (Md.fault c n=44):=by show _=_;exact fault44' hkb.out HFB.out hmb.out (pl1 hps)
    go_wp2_with fail
    go_ret;exact ⟨mret_int hres.out.symm,HB.out.trans (Below.mono HB3.out HB.out.size)⟩
  rcases termsE_is c.terms n with ⟨h1,h2⟩ | ⟨h1,h2,h3⟩ | ⟨h1,h2,h3⟩
  · obtain rfl:r=44:=HRE.out.symm.trans h1
    have hres:Hid (Md.fault c n=44):=by show _=_;exact fault44' hkb.out HFB.out hmb.out (pl2 h2)
    go_wp2_with fail
    go_ret;exact ⟨mret_int hres.out.symm,HB.out.trans (Below.mono HB3.out HB.out.size)⟩
  · obtain rfl:r=45:=HRE.out.symm.trans h1
    have hres:Hid (Md.fault c n=45):=by show _=_;exact fault45' hkb.out HFB.out hmb.out (pl3 hps h2) h3
    go_wp2_with fail
    go_ret;exact ⟨mret_int hres.out.symm,HB.out.trans (Below.mono HB3.out HB.out.size)⟩
  · obtain rfl:r=0:=HRE.out.symm.trans h1
    have Hpc:Hid (Md.placesB c n=true/\Md.coefsB c.terms=true):=⟨pl3 hps h2,h3⟩;clear h1 h2 h3 hps
    cases hnk:Md.numB c.k
    · have hres:Hid (Md.fault c n=46):=by show _=_;exact fault46' hkb.out HFB.out hmb.out Hpc.out.1 Hpc.out.2 (by simp [Md.numsB,hnk])
      go_wp2_with (go_at_call 161;refine (number_any _ _).mono ?_;rintro e w' ⟨rfl,hww⟩;rw [hww]);go_ret;exact ⟨mret_int hres.out.symm,HB.out.trans (Below.mono HB3.out HB.out.size)⟩
    cases hnv:Md.numB c.v
    · have hres:Hid (Md.fault c n=46):=by show _=_;exact fault46' hkb.out HFB.out hmb.out Hpc.out.1 Hpc.out.2 (by simp [Md.numsB,hnv])
      go_wp2_with (go_at_call 161;refine (number_any _ _).mono ?_;rintro e w' ⟨rfl,hww⟩;rw [hww]);go_ret;exact ⟨mret_int hres.out.symm,HB.out.trans (Below.mono HB3.out HB.out.size)⟩
    go_wp2_with (go_at_call 161;refine (number_any _ _).mono ?_;rintro e w' ⟨rfl,hww⟩;rw [hww]);go_loop [7] (fun iv=>∃ k:Nat,iv=.int .i64 (k:Int)/\k<=c.rows.length/\Hid ((c.rows.take k).all (fun r=>r.all Md.numB)=true)) (fun iv=>c.rows.length-(intOf iv).toNat)
    case atStart=>exact ⟨0,rfl,Nat.zero_le _,(show _=_ by simp)⟩
    case round=>
      obtain ⟨k,rfl,hkk,hA⟩:=hrel
      by_cases hlt:k<c.rows.length
      · obtain ⟨b,off,rfl,hb,hc⟩:=HRO.out (by omega)
        obtain ⟨u,hcell,hu⟩:=hc k hlt;have hcw:=((HB.out.trans (HB3.out.mono HB.out.size)).cell (p:=⟨b,off+k,none⟩) hb).trans hcell;obtain ⟨ua,uc,rfl,hum,huo⟩:=hu;unfold maxLen at hum;have HUO:Hid (0<(c.rows[k]).length->∃ b off,ua=some ⟨b,off,none⟩/\b<w.heap.size/\∀ j (h:j<(c.rows[k]).length),w.cell? ⟨b,off+j,none⟩=some (.int .i64 (c.rows[k])[j])):=huo;have hkI:(k:Int)<(c.rows.length:Int):=by omega
        clear hc hcell huo;go_wp2_with fail
        go_loop [8] (fun jv=>∃ j:Nat,jv=.int .i64 (j:Int)/\j<=(c.rows[k]).length/\Hid (((c.rows[k]).take j).all Md.numB=true)) (fun jv=>(c.rows[k]).length-(intOf jv).toNat)
        case atStart=>exact ⟨0,rfl,Nat.zero_le _,(show _=_ by simp)⟩
        case round=>
          obtain ⟨j,rfl,hj,hJ⟩:=hrel
          by_cases hjl:j<(c.rows[k]).length
          · obtain ⟨bu,ou,rfl,hbu,hcu⟩:=HUO.out (by omega)
            have hcj:=((HB.out.trans (HB3.out.mono HB.out.size)).cell (p:=⟨bu,ou+j,none⟩) hbu).trans (hcu j hjl);have hjI:(j:Int)<((c.rows[k]).length:Int):=by omega
            clear hcu
            cases hp:Md.numB (c.rows[k])[j]
            · have hres:Hid (Md.fault c n=46):=fault46' hkb.out HFB.out hmb.out Hpc.out.1 Hpc.out.2 (nums_row (Md.all_stop hlt (Md.all_stop hjl hp)))
              generalize (c.rows[k])[j]=y at *
              go_wp2_with (go_at_call 161;refine (number_any _ _).mono ?_;rintro e w' ⟨rfl,hww⟩;rw [hww]);go_ret;exact ⟨mret_int hres.out.symm,HB.out.trans (Below.mono HB3.out HB.out.size)⟩
            · have hnx:Hid (((c.rows[k]).take (j+1)).all Md.numB=true):=Md.all_next hJ.out hjl hp
              generalize (c.rows[k])[j]=y at *
              go_wp2_with (go_at_call 161;refine (number_any _ _).mono ?_;rintro e w' ⟨rfl,hww⟩;rw [hww]);go_round
              case rel=>exact ⟨j+1,by go_num,by omega,hnx⟩
              case measure=>simp [intOf];omega
          · have hjI:¬ (j:Int)<((c.rows[k]).length:Int):=by omega
            have hnx:Hid ((c.rows.take (k+1)).all (fun r=>r.all Md.numB)=true):=Md.all_next hA.out hlt (Md.all_done hJ.out (by omega));go_wp2_with fail
            go_round
            case rel=>exact ⟨k+1,by go_num,by omega,hnx⟩
            case measure=>simp [intOf];omega
      · have hkI:¬ (k:Int)<(c.rows.length:Int):=by omega
        have hrn:Hid (c.rows.all (fun r=>r.all Md.numB)=true):=Md.all_done hA.out (by omega);go_wp2_with fail
        go_loop [9] (fun iv=>∃ k:Nat,iv=.int .i64 (k:Int)/\k<=c.table.length/\Hid ((c.table.take k).all Md.numB=true)) (fun iv=>c.table.length-(intOf iv).toNat)
        case atStart=>exact ⟨0,rfl,Nat.zero_le _,(show _=_ by simp)⟩
        case round=>
          obtain ⟨j,rfl,hj,hJ⟩:=hrel
          by_cases hjl:j<c.table.length
          · obtain ⟨bu,ou,rfl,hbu,hcu⟩:=HBO.out (by omega)
            have hcj:=((HB.out.trans (HB3.out.mono HB.out.size)).cell (p:=⟨bu,ou+j,none⟩) hbu).trans (hcu j hjl);have hjI:(j:Int)<(c.table.length:Int):=by omega
            clear hcu
            cases hp:Md.numB c.table[j]
            · have hres:Hid (Md.fault c n=46):=fault46' hkb.out HFB.out hmb.out Hpc.out.1 Hpc.out.2 (nums_tab (Md.all_stop hjl hp))
              generalize c.table[j]=y at *
              go_wp2_with (go_at_call 161;refine (number_any _ _).mono ?_;rintro e w' ⟨rfl,hww⟩;rw [hww]);go_ret;exact ⟨mret_int hres.out.symm,HB.out.trans (Below.mono HB3.out HB.out.size)⟩
            · have hnx:Hid ((c.table.take (j+1)).all Md.numB=true):=Md.all_next hJ.out hjl hp
              generalize c.table[j]=y at *
              go_wp2_with (go_at_call 161;refine (number_any _ _).mono ?_;rintro e w' ⟨rfl,hww⟩;rw [hww]);go_round
              case rel=>exact ⟨j+1,by go_num,by omega,hnx⟩
              case measure=>simp [intOf];omega
          · have hjI:¬ (j:Int)<(c.table.length:Int):=by omega
            have hres:Hid (Md.fault c n=0):=fault0' hkb.out HFB.out hmb.out Hpc.out.1 Hpc.out.2 (by simp [Md.numsB,hnk,hnv,hrn.out,Md.all_done hJ.out (show c.table.length<=j by omega)]);go_wp2_with fail
            go_ret;exact ⟨mret_int hres.out.symm,HB.out.trans (Below.mono HB3.out HB.out.size)⟩
end Go.Proofs.YtjgghimjnbjlbaaGreatDoor.Doc

namespace Go.Proofs.YtjgghimjnbjlbaaGreatDoor.Doc
open Go.RowKit
set_option maxRecDepth 10000
set_option maxHeartbeats 8000000
theorem refCon_4 (c:Md.Cn) (vt vx vb vr:Value) (n:Int) (w:World) (h:CnAt w c vt vx vb vr) (hk:c.kind=4) (hfg:∀ w',CnAt w' c vt vx vb vr->Calls Tryz.prog 157 #[cnVal c vt vx vb vr] w' fun e w''=>e=.returned (.bool (Md.plainBad c||Md.listBad c))/\Below w'.heap.size w' w''):Calls Tryz.prog 90 #[cnVal c vt vx vb vr,.int .i64 n] w fun e w'=>e=.returned (.int .i64 (Md.fault c n))/\Below w.heap.size w w':=by
  obtain ⟨ta,tc,rfl,_⟩:=id h.t;obtain ⟨xa,xc,rfl,hxm,hxo⟩:=id h.x;obtain ⟨ba,bc,rfl,hbm,hbo⟩:=id h.b;obtain ⟨ra,rc,rfl,hrm,hro⟩:=id h.r;unfold maxLen at hxm hbm hrm;obtain ⟨W,hW⟩:∃ W,w.alloc (.cells #[.int .i64 4,.int .i64 c.op,.slice ta c.terms.length tc,.int .i64 c.k,.int .i64 c.v,.int .i64 c.x,.int .i64 c.y,.slice xa c.xs.length xc,.slice ba c.table.length bc,.slice ra c.rows.length rc] 51)=W:=⟨_,rfl⟩;have hbW:Below w.heap.size w W:=by rw [<-hW];exact (Below.refl _ _).alloc (Nat.le_refl _) _
  have HB:Hid (Below w.heap.size w W):=hbW;have HC:Hid (CnAt W c (.slice ta c.terms.length tc) (.slice xa c.xs.length xc) (.slice ba c.table.length bc) (.slice ra c.rows.length rc)):=h.below hbW;have HXO:Hid (0<c.xs.length->∃ b off,xa=some ⟨b,off,none⟩/\b<w.heap.size/\∀ j (h:j<c.xs.length),w.cell? ⟨b,off+j,none⟩=some (.int .i64 c.xs[j])):=hxo;have HBO:Hid (0<c.table.length->∃ b off,ba=some ⟨b,off,none⟩/\b<w.heap.size/\∀ j (h:j<c.table.length),w.cell? ⟨b,off+j,none⟩=some (.int .i64 c.table[j])):=hbo;have HRO:Hid (0<c.rows.length->∃ b off,ra=some ⟨b,off,none⟩/\b<w.heap.size/\∀ j (h:j<c.rows.length),∃ u,w.cell? ⟨b,off+j,none⟩=some u/\MInts w u c.rows[j]):=hro;have c0:W.cell? ⟨w.heap.size,0,none⟩=some (.int .i64 4):=by rw [<-hW];simp
  have c1:W.cell? ⟨w.heap.size,1,none⟩=some (.int .i64 c.op):=by rw [<-hW];simp
  have c2:W.cell? ⟨w.heap.size,2,none⟩=some (.slice ta c.terms.length tc):=by rw [<-hW];simp
  have c3:W.cell? ⟨w.heap.size,3,none⟩=some (.int .i64 c.k):=by rw [<-hW];simp
  have c4:W.cell? ⟨w.heap.size,4,none⟩=some (.int .i64 c.v):=by rw [<-hW];simp
  have c5:W.cell? ⟨w.heap.size,5,none⟩=some (.int .i64 c.x):=by rw [<-hW];simp
  have c6:W.cell? ⟨w.heap.size,6,none⟩=some (.int .i64 c.y):=by rw [<-hW];simp
  have c7:W.cell? ⟨w.heap.size,7,none⟩=some (.slice xa c.xs.length xc):=by rw [<-hW];simp
  have c8:W.cell? ⟨w.heap.size,8,none⟩=some (.slice ba c.table.length bc):=by rw [<-hW];simp
  have c9:W.cell? ⟨w.heap.size,9,none⟩=some (.slice ra c.rows.length rc):=by rw [<-hW];simp
  have hsz:W.heap.size=w.heap.size+1:=by rw [<-hW];simp
  have hsN:w.heap.size<W.heap.size:=by omega
  have HCC:Hid (∀ w',Below W.heap.size W w'->w'.cell? ⟨w.heap.size,0,none⟩=some (.int .i64 4)/\w'.cell? ⟨w.heap.size,1,none⟩=some (.int .i64 c.op)/\w'.cell? ⟨w.heap.size,2,none⟩=some (.slice ta c.terms.length tc)/\w'.cell? ⟨w.heap.size,3,none⟩=some (.int .i64 c.k)/\w'.cell? ⟨w.heap.size,4,none⟩=some (.int .i64 c.v)/\w'.cell? ⟨w.heap.size,5,none⟩=some (.int .i64 c.x)/\w'.cell? ⟨w.heap.size,6,none⟩=some (.int .i64 c.y)/\w'.cell? ⟨w.heap.size,7,none⟩=some (.slice xa c.xs.length xc)/\w'.cell? ⟨w.heap.size,8,none⟩=some (.slice ba c.table.length bc)/\w'.cell? ⟨w.heap.size,9,none⟩=some (.slice ra c.rows.length rc)):=fun w' hb=>⟨(hb.cell (p:=⟨w.heap.size,0,none⟩) hsN).trans c0,(hb.cell (p:=⟨w.heap.size,1,none⟩) hsN).trans c1,(hb.cell (p:=⟨w.heap.size,2,none⟩) hsN).trans c2,(hb.cell (p:=⟨w.heap.size,3,none⟩) hsN).trans c3,(hb.cell (p:=⟨w.heap.size,4,none⟩) hsN).trans c4,(hb.cell (p:=⟨w.heap.size,5,none⟩) hsN).trans c5,(hb.cell (p:=⟨w.heap.size,6,none⟩) hsN).trans c6,(hb.cell (p:=⟨w.heap.size,7,none⟩) hsN).trans c7,(hb.cell (p:=⟨w.heap.size,8,none⟩) hsN).trans c8,(hb.cell (p:=⟨w.heap.size,9,none⟩) hsN).trans c9⟩
  have H85:Hid (∀ w',CnAt w' c (.slice ta c.terms.length tc) (.slice xa c.xs.length xc) (.slice ba c.table.length bc) (.slice ra c.rows.length rc)->Calls Tryz.prog 157 #[cnVal c (.slice ta c.terms.length tc) (.slice xa c.xs.length xc) (.slice ba c.table.length bc) (.slice ra c.rows.length rc)] w' fun e w''=>e=.returned (.bool (Md.plainBad c||Md.listBad c))/\Below w'.heap.size w' w''):=hfg
  have H87:Hid (∀ w',CnAt w' c (.slice ta c.terms.length tc) (.slice xa c.xs.length xc) (.slice ba c.table.length bc) (.slice ra c.rows.length rc)->Calls Tryz.prog 159 #[cnVal c (.slice ta c.terms.length tc) (.slice xa c.xs.length xc) (.slice ba c.table.length bc) (.slice ra c.rows.length rc)] w' fun e w''=>e=.returned (.bool (!(decide (8<c.xs.length)||Md.fewB c.rows.length 64||!(c.rows.all fun r=>r.length==c.xs.length))))/\Below w'.heap.size w' w''):=fun w' h'=>rowsOk_any c _ _ _ _ w' h'
  have H88:Hid (∀ w',CnAt w' c (.slice ta c.terms.length tc) (.slice xa c.xs.length xc) (.slice ba c.table.length bc) (.slice ra c.rows.length rc)->Calls Tryz.prog 160 #[cnVal c (.slice ta c.terms.length tc) (.slice xa c.xs.length xc) (.slice ba c.table.length bc) (.slice ra c.rows.length rc),.int .i64 n] w' fun e w''=>e=.returned (.bool (Md.plB n c.x&&Md.plB n c.y&&c.xs.all (Md.plB n)))/\Below w'.heap.size w' w''):=fun w' h'=>places_any c _ _ _ _ n w' h'
  clear hfg;unfold cnVal at H85 H87 H88;rw [hk] at H85 H87 H88;unfold cnVal;clear h hxo hbo hro hbW hsz;have hkr:Hid (1<=c.kind/\c.kind<=9):=by rw [hk];exact ⟨by decide,by decide⟩
  have hkb:Hid (Md.kindBad c.kind c.op=false):=kind_ok' hkr.out (fun h=>by rw [hk] at h;exact absurd h.1 (by decide));go_enter Tryz.func90,Tryz.ntmps90;go_wp2_with fail
  refine mcalls_at (H85.out _ HC.out) (by with_reducible rfl) (by with_reducible rfl) ?_;rintro e w1 ⟨rfl,hb1⟩;have HB1:Hid (Below W.heap.size W w1):=hb1
  cases hfb:(Md.plainBad c||Md.listBad c)
  rotate_left
  · have hres:Hid (Md.fault c n=48):=by show _=_;exact fault48' hkb.out hfb
    go_wp2_with fail
    go_ret;exact ⟨mret_int hres.out.symm,HB.out.trans (Below.mono hb1 HB.out.size)⟩
  have HFB:Hid ((Md.plainBad c||Md.listBad c)=false):=hfb;clear hfb c0 c1 c2 c3 c4 c5 c6 c7 c8 c9;obtain ⟨a0,a1,a2,a3,a4,a5,a6,a7,a8,a9⟩:=HCC.out _ hb1;clear hb1;have hrows:Hid (c.rows.all (fun r=>r.length==c.xs.length)=true):=rows_nil hk rfl HFB.out;go_wp2_with (first | (go_at_call 158;refine (lists_any _ _).mono ?_;rintro e w' ⟨rfl,hww⟩;rw [hww,show Md.fXs 4=false from rfl]));refine (many_any c.table.length _).mono ?_;rintro e w' ⟨rfl,hww⟩;rw [hww];clear hww
  cases hm1:Md.fewB c.table.length 64
  rotate_left
  · have hres:Hid (Md.fault c n=47):=by show _=_;exact fault47' hkb.out HFB.out (by simp [Md.manyBad,hk,Md.fTable,hm1])
    go_wp2_with fail
    go_ret;exact ⟨mret_int hres.out.symm,HB.out.trans (Below.mono HB1.out HB.out.size)⟩
  have hmb:Hid (Md.manyBad c=false):=by show _=_;simp [Md.manyBad,hk,Md.fTerms,Md.fXs,Md.fTable,Md.fRows,hm1,hrows.out]
  go_wp2_with (first | (go_at_call 158;refine (lists_any _ _).mono ?_;rintro e w' ⟨rfl,hww⟩;rw [hww,show Md.fXs 4=false from rfl]));refine (terms_any _ c.terms n _ (HC.out.below HB1.out).t).mono ?_;rintro e w' ⟨rfl,hww⟩;rw [hww];clear hww;obtain ⟨r,hr⟩:∃ r,termsE c.terms n=r:=⟨_,rfl⟩;rw [hr];have HRE:Hid (termsE c.terms n=r):=hr;clear hr;go_wp2_with fail
  refine mcalls_at (H88.out _ (HC.out.below HB1.out)) (by with_reducible rfl) (by with_reducible rfl) ?_;rintro e w3 ⟨rfl,hb3⟩;have HB3:Hid (Below W.heap.size W w3):=HB1.out.trans (hb3.mono HB1.out.size);clear hb3 a0 a1 a2 a3 a4 a5 a6 a7 a8 a9;obtain ⟨a0,a1,a2,a3,a4,a5,a6,a7,a8,a9⟩:=HCC.out _ HB3.out
  cases hps:(Md.plB n c.x&&Md.plB n c.y&&c.xs.all (Md.plB n))
  · have hres:Hid (Md.fault c n=44):=by show _=_;exact fault44' hkb.out HFB.out hmb.out (pl1 hps)
    go_wp2_with fail
    go_ret;exact ⟨mret_int hres.out.symm,HB.out.trans (Below.mono HB3.out HB.out.size)⟩
  rcases termsE_is c.terms n with ⟨h1,h2⟩ | ⟨h1,h2,h3⟩ | ⟨h1,h2,h3⟩
  · obtain rfl:r=44:=HRE.out.symm.trans h1
    have hres:Hid (Md.fault c n=44):=by show _=_;exact fault44' hkb.out HFB.out hmb.out (pl2 h2)
    go_wp2_with fail
    go_ret;exact ⟨mret_int hres.out.symm,HB.out.trans (Below.mono HB3.out HB.out.size)⟩
  · obtain rfl:r=45:=HRE.out.symm.trans h1
    have hres:Hid (Md.fault c n=45):=by show _=_;exact fault45' hkb.out HFB.out hmb.out (pl3 hps h2) h3
    go_wp2_with fail
    go_ret;exact ⟨mret_int hres.out.symm,HB.out.trans (Below.mono HB3.out HB.out.size)⟩
  · obtain rfl:r=0:=HRE.out.symm.trans h1
    have Hpc:Hid (Md.placesB c n=true/\Md.coefsB c.terms=true):=⟨pl3 hps h2,h3⟩;clear h1 h2 h3 hps
    cases hnk:Md.numB c.k
    · have hres:Hid (Md.fault c n=46):=by show _=_;exact fault46' hkb.out HFB.out hmb.out Hpc.out.1 Hpc.out.2 (by simp [Md.numsB,hnk])
      go_wp2_with (go_at_call 161;refine (number_any _ _).mono ?_;rintro e w' ⟨rfl,hww⟩;rw [hww]);go_ret;exact ⟨mret_int hres.out.symm,HB.out.trans (Below.mono HB3.out HB.out.size)⟩
    cases hnv:Md.numB c.v
    · have hres:Hid (Md.fault c n=46):=by show _=_;exact fault46' hkb.out HFB.out hmb.out Hpc.out.1 Hpc.out.2 (by simp [Md.numsB,hnv])
      go_wp2_with (go_at_call 161;refine (number_any _ _).mono ?_;rintro e w' ⟨rfl,hww⟩;rw [hww]);go_ret;exact ⟨mret_int hres.out.symm,HB.out.trans (Below.mono HB3.out HB.out.size)⟩
    go_wp2_with (go_at_call 161;refine (number_any _ _).mono ?_;rintro e w' ⟨rfl,hww⟩;rw [hww]);go_loop [7] (fun iv=>∃ k:Nat,iv=.int .i64 (k:Int)/\k<=c.rows.length/\Hid ((c.rows.take k).all (fun r=>r.all Md.numB)=true)) (fun iv=>c.rows.length-(intOf iv).toNat)
    case atStart=>exact ⟨0,rfl,Nat.zero_le _,(show _=_ by simp)⟩
    case round=>
      obtain ⟨k,rfl,hkk,hA⟩:=hrel
      by_cases hlt:k<c.rows.length
      · obtain ⟨b,off,rfl,hb,hc⟩:=HRO.out (by omega)
        obtain ⟨u,hcell,hu⟩:=hc k hlt;have hcw:=((HB.out.trans (HB3.out.mono HB.out.size)).cell (p:=⟨b,off+k,none⟩) hb).trans hcell;obtain ⟨ua,uc,rfl,hum,huo⟩:=hu;unfold maxLen at hum;have HUO:Hid (0<(c.rows[k]).length->∃ b off,ua=some ⟨b,off,none⟩/\b<w.heap.size/\∀ j (h:j<(c.rows[k]).length),w.cell? ⟨b,off+j,none⟩=some (.int .i64 (c.rows[k])[j])):=huo;have hkI:(k:Int)<(c.rows.length:Int):=by omega
        clear hc hcell huo;go_wp2_with fail
        go_loop [8] (fun jv=>∃ j:Nat,jv=.int .i64 (j:Int)/\j<=(c.rows[k]).length/\Hid (((c.rows[k]).take j).all Md.numB=true)) (fun jv=>(c.rows[k]).length-(intOf jv).toNat)
        case atStart=>exact ⟨0,rfl,Nat.zero_le _,(show _=_ by simp)⟩
        case round=>
          obtain ⟨j,rfl,hj,hJ⟩:=hrel
          by_cases hjl:j<(c.rows[k]).length
          · obtain ⟨bu,ou,rfl,hbu,hcu⟩:=HUO.out (by omega)
            have hcj:=((HB.out.trans (HB3.out.mono HB.out.size)).cell (p:=⟨bu,ou+j,none⟩) hbu).trans (hcu j hjl);have hjI:(j:Int)<((c.rows[k]).length:Int):=by omega
            clear hcu
            cases hp:Md.numB (c.rows[k])[j]
            · have hres:Hid (Md.fault c n=46):=fault46' hkb.out HFB.out hmb.out Hpc.out.1 Hpc.out.2 (nums_row (Md.all_stop hlt (Md.all_stop hjl hp)))
              generalize (c.rows[k])[j]=y at *
              go_wp2_with (go_at_call 161;refine (number_any _ _).mono ?_;rintro e w' ⟨rfl,hww⟩;rw [hww]);go_ret;exact ⟨mret_int hres.out.symm,HB.out.trans (Below.mono HB3.out HB.out.size)⟩
            · have hnx:Hid (((c.rows[k]).take (j+1)).all Md.numB=true):=Md.all_next hJ.out hjl hp
              generalize (c.rows[k])[j]=y at *
              go_wp2_with (go_at_call 161;refine (number_any _ _).mono ?_;rintro e w' ⟨rfl,hww⟩;rw [hww]);go_round
              case rel=>exact ⟨j+1,by go_num,by omega,hnx⟩
              case measure=>simp [intOf];omega
          · have hjI:¬ (j:Int)<((c.rows[k]).length:Int):=by omega
            have hnx:Hid ((c.rows.take (k+1)).all (fun r=>r.all Md.numB)=true):=Md.all_next hA.out hlt (Md.all_done hJ.out (by omega));go_wp2_with fail
            go_round
            case rel=>exact ⟨k+1,by go_num,by omega,hnx⟩
            case measure=>simp [intOf];omega
      · have hkI:¬ (k:Int)<(c.rows.length:Int):=by omega
        have hrn:Hid (c.rows.all (fun r=>r.all Md.numB)=true):=Md.all_done hA.out (by omega);go_wp2_with fail
        go_loop [9] (fun iv=>∃ k:Nat,iv=.int .i64 (k:Int)/\k<=c.table.length/\Hid ((c.table.take k).all Md.numB=true)) (fun iv=>c.table.length-(intOf iv).toNat)
        case atStart=>exact ⟨0,rfl,Nat.zero_le _,(show _=_ by simp)⟩
        case round=>
          obtain ⟨j,rfl,hj,hJ⟩:=hrel
          by_cases hjl:j<c.table.length
          · obtain ⟨bu,ou,rfl,hbu,hcu⟩:=HBO.out (by omega)
            have hcj:=((HB.out.trans (HB3.out.mono HB.out.size)).cell (p:=⟨bu,ou+j,none⟩) hbu).trans (hcu j hjl);have hjI:(j:Int)<(c.table.length:Int):=by omega
            clear hcu
            cases hp:Md.numB c.table[j]
            · have hres:Hid (Md.fault c n=46):=fault46' hkb.out HFB.out hmb.out Hpc.out.1 Hpc.out.2 (nums_tab (Md.all_stop hjl hp))
              generalize c.table[j]=y at *
              go_wp2_with (go_at_call 161;refine (number_any _ _).mono ?_;rintro e w' ⟨rfl,hww⟩;rw [hww]);go_ret;exact ⟨mret_int hres.out.symm,HB.out.trans (Below.mono HB3.out HB.out.size)⟩
            · have hnx:Hid ((c.table.take (j+1)).all Md.numB=true):=Md.all_next hJ.out hjl hp
              generalize c.table[j]=y at *
              go_wp2_with (go_at_call 161;refine (number_any _ _).mono ?_;rintro e w' ⟨rfl,hww⟩;rw [hww]);go_round
              case rel=>exact ⟨j+1,by go_num,by omega,hnx⟩
              case measure=>simp [intOf];omega
          · have hjI:¬ (j:Int)<(c.table.length:Int):=by omega
            have hres:Hid (Md.fault c n=0):=fault0' hkb.out HFB.out hmb.out Hpc.out.1 Hpc.out.2 (by simp [Md.numsB,hnk,hnv,hrn.out,Md.all_done hJ.out (show c.table.length<=j by omega)]);go_wp2_with fail
            go_ret;exact ⟨mret_int hres.out.symm,HB.out.trans (Below.mono HB3.out HB.out.size)⟩
end Go.Proofs.YtjgghimjnbjlbaaGreatDoor.Doc

namespace Go.Proofs.YtjgghimjnbjlbaaGreatDoor.Doc
open Go.RowKit
set_option maxRecDepth 10000
set_option maxHeartbeats 8000000
theorem refCon_5 (c:Md.Cn) (vt vx vb vr:Value) (n:Int) (w:World) (h:CnAt w c vt vx vb vr) (hk:c.kind=5) (hfg:∀ w',CnAt w' c vt vx vb vr->Calls Tryz.prog 157 #[cnVal c vt vx vb vr] w' fun e w''=>e=.returned (.bool (Md.plainBad c||Md.listBad c))/\Below w'.heap.size w' w''):Calls Tryz.prog 90 #[cnVal c vt vx vb vr,.int .i64 n] w fun e w'=>e=.returned (.int .i64 (Md.fault c n))/\Below w.heap.size w w':=by
  obtain ⟨ta,tc,rfl,_⟩:=id h.t;obtain ⟨xa,xc,rfl,hxm,hxo⟩:=id h.x;obtain ⟨ba,bc,rfl,hbm,hbo⟩:=id h.b;obtain ⟨ra,rc,rfl,hrm,hro⟩:=id h.r;unfold maxLen at hxm hbm hrm;obtain ⟨W,hW⟩:∃ W,w.alloc (.cells #[.int .i64 5,.int .i64 c.op,.slice ta c.terms.length tc,.int .i64 c.k,.int .i64 c.v,.int .i64 c.x,.int .i64 c.y,.slice xa c.xs.length xc,.slice ba c.table.length bc,.slice ra c.rows.length rc] 51)=W:=⟨_,rfl⟩;have hbW:Below w.heap.size w W:=by rw [<-hW];exact (Below.refl _ _).alloc (Nat.le_refl _) _
  have HB:Hid (Below w.heap.size w W):=hbW;have HC:Hid (CnAt W c (.slice ta c.terms.length tc) (.slice xa c.xs.length xc) (.slice ba c.table.length bc) (.slice ra c.rows.length rc)):=h.below hbW;have HXO:Hid (0<c.xs.length->∃ b off,xa=some ⟨b,off,none⟩/\b<w.heap.size/\∀ j (h:j<c.xs.length),w.cell? ⟨b,off+j,none⟩=some (.int .i64 c.xs[j])):=hxo;have HBO:Hid (0<c.table.length->∃ b off,ba=some ⟨b,off,none⟩/\b<w.heap.size/\∀ j (h:j<c.table.length),w.cell? ⟨b,off+j,none⟩=some (.int .i64 c.table[j])):=hbo;have HRO:Hid (0<c.rows.length->∃ b off,ra=some ⟨b,off,none⟩/\b<w.heap.size/\∀ j (h:j<c.rows.length),∃ u,w.cell? ⟨b,off+j,none⟩=some u/\MInts w u c.rows[j]):=hro;have c0:W.cell? ⟨w.heap.size,0,none⟩=some (.int .i64 5):=by rw [<-hW];simp
  have c1:W.cell? ⟨w.heap.size,1,none⟩=some (.int .i64 c.op):=by rw [<-hW];simp
  have c2:W.cell? ⟨w.heap.size,2,none⟩=some (.slice ta c.terms.length tc):=by rw [<-hW];simp
  have c3:W.cell? ⟨w.heap.size,3,none⟩=some (.int .i64 c.k):=by rw [<-hW];simp
  have c4:W.cell? ⟨w.heap.size,4,none⟩=some (.int .i64 c.v):=by rw [<-hW];simp
  have c5:W.cell? ⟨w.heap.size,5,none⟩=some (.int .i64 c.x):=by rw [<-hW];simp
  have c6:W.cell? ⟨w.heap.size,6,none⟩=some (.int .i64 c.y):=by rw [<-hW];simp
  have c7:W.cell? ⟨w.heap.size,7,none⟩=some (.slice xa c.xs.length xc):=by rw [<-hW];simp
  have c8:W.cell? ⟨w.heap.size,8,none⟩=some (.slice ba c.table.length bc):=by rw [<-hW];simp
  have c9:W.cell? ⟨w.heap.size,9,none⟩=some (.slice ra c.rows.length rc):=by rw [<-hW];simp
  have hsz:W.heap.size=w.heap.size+1:=by rw [<-hW];simp
  have hsN:w.heap.size<W.heap.size:=by omega
  have HCC:Hid (∀ w',Below W.heap.size W w'->w'.cell? ⟨w.heap.size,0,none⟩=some (.int .i64 5)/\w'.cell? ⟨w.heap.size,1,none⟩=some (.int .i64 c.op)/\w'.cell? ⟨w.heap.size,2,none⟩=some (.slice ta c.terms.length tc)/\w'.cell? ⟨w.heap.size,3,none⟩=some (.int .i64 c.k)/\w'.cell? ⟨w.heap.size,4,none⟩=some (.int .i64 c.v)/\w'.cell? ⟨w.heap.size,5,none⟩=some (.int .i64 c.x)/\w'.cell? ⟨w.heap.size,6,none⟩=some (.int .i64 c.y)/\w'.cell? ⟨w.heap.size,7,none⟩=some (.slice xa c.xs.length xc)/\w'.cell? ⟨w.heap.size,8,none⟩=some (.slice ba c.table.length bc)/\w'.cell? ⟨w.heap.size,9,none⟩=some (.slice ra c.rows.length rc)):=fun w' hb=>⟨(hb.cell (p:=⟨w.heap.size,0,none⟩) hsN).trans c0,(hb.cell (p:=⟨w.heap.size,1,none⟩) hsN).trans c1,(hb.cell (p:=⟨w.heap.size,2,none⟩) hsN).trans c2,(hb.cell (p:=⟨w.heap.size,3,none⟩) hsN).trans c3,(hb.cell (p:=⟨w.heap.size,4,none⟩) hsN).trans c4,(hb.cell (p:=⟨w.heap.size,5,none⟩) hsN).trans c5,(hb.cell (p:=⟨w.heap.size,6,none⟩) hsN).trans c6,(hb.cell (p:=⟨w.heap.size,7,none⟩) hsN).trans c7,(hb.cell (p:=⟨w.heap.size,8,none⟩) hsN).trans c8,(hb.cell (p:=⟨w.heap.size,9,none⟩) hsN).trans c9⟩
  have H85:Hid (∀ w',CnAt w' c (.slice ta c.terms.length tc) (.slice xa c.xs.length xc) (.slice ba c.table.length bc) (.slice ra c.rows.length rc)->Calls Tryz.prog 157 #[cnVal c (.slice ta c.terms.length tc) (.slice xa c.xs.length xc) (.slice ba c.table.length bc) (.slice ra c.rows.length rc)] w' fun e w''=>e=.returned (.bool (Md.plainBad c||Md.listBad c))/\Below w'.heap.size w' w''):=hfg
  have H87:Hid (∀ w',CnAt w' c (.slice ta c.terms.length tc) (.slice xa c.xs.length xc) (.slice ba c.table.length bc) (.slice ra c.rows.length rc)->Calls Tryz.prog 159 #[cnVal c (.slice ta c.terms.length tc) (.slice xa c.xs.length xc) (.slice ba c.table.length bc) (.slice ra c.rows.length rc)] w' fun e w''=>e=.returned (.bool (!(decide (8<c.xs.length)||Md.fewB c.rows.length 64||!(c.rows.all fun r=>r.length==c.xs.length))))/\Below w'.heap.size w' w''):=fun w' h'=>rowsOk_any c _ _ _ _ w' h'
  have H88:Hid (∀ w',CnAt w' c (.slice ta c.terms.length tc) (.slice xa c.xs.length xc) (.slice ba c.table.length bc) (.slice ra c.rows.length rc)->Calls Tryz.prog 160 #[cnVal c (.slice ta c.terms.length tc) (.slice xa c.xs.length xc) (.slice ba c.table.length bc) (.slice ra c.rows.length rc),.int .i64 n] w' fun e w''=>e=.returned (.bool (Md.plB n c.x&&Md.plB n c.y&&c.xs.all (Md.plB n)))/\Below w'.heap.size w' w''):=fun w' h'=>places_any c _ _ _ _ n w' h'
  clear hfg;unfold cnVal at H85 H87 H88;rw [hk] at H85 H87 H88;unfold cnVal;clear h hxo hbo hro hbW hsz;have hkr:Hid (1<=c.kind/\c.kind<=9):=by rw [hk];exact ⟨by decide,by decide⟩
  have hkb:Hid (Md.kindBad c.kind c.op=false):=kind_ok' hkr.out (fun h=>by rw [hk] at h;exact absurd h.1 (by decide));go_enter Tryz.func90,Tryz.ntmps90;go_wp2_with fail
  refine mcalls_at (H85.out _ HC.out) (by with_reducible rfl) (by with_reducible rfl) ?_;rintro e w1 ⟨rfl,hb1⟩;have HB1:Hid (Below W.heap.size W w1):=hb1
  cases hfb:(Md.plainBad c||Md.listBad c)
  rotate_left
  · have hres:Hid (Md.fault c n=48):=by show _=_;exact fault48' hkb.out hfb
    go_wp2_with fail
    go_ret;exact ⟨mret_int hres.out.symm,HB.out.trans (Below.mono hb1 HB.out.size)⟩
  have HFB:Hid ((Md.plainBad c||Md.listBad c)=false):=hfb;clear hfb c0 c1 c2 c3 c4 c5 c6 c7 c8 c9;obtain ⟨a0,a1,a2,a3,a4,a5,a6,a7,a8,a9⟩:=HCC.out _ hb1;clear hb1;have hrows:Hid (c.rows.all (fun r=>r.length==c.xs.length)=true):=rows_nil hk rfl HFB.out;go_wp2_with (first | (go_at_call 158;refine (lists_any _ _).mono ?_;rintro e w' ⟨rfl,hww⟩;rw [hww,show Md.fXs 5=true from rfl]));refine (many_any c.xs.length _).mono ?_;rintro e w' ⟨rfl,hww⟩;rw [hww];clear hww
  cases hm1:Md.fewB c.xs.length 64
  rotate_left
  · have hres:Hid (Md.fault c n=47):=by show _=_;exact fault47' hkb.out HFB.out (by simp [Md.manyBad,hk,Md.fXs,Md.mostXs,hm1])
    go_wp2_with fail
    go_ret;exact ⟨mret_int hres.out.symm,HB.out.trans (Below.mono HB1.out HB.out.size)⟩
  have hmb:Hid (Md.manyBad c=false):=by show _=_;simp [Md.manyBad,hk,Md.fTerms,Md.fXs,Md.fTable,Md.fRows,Md.mostXs,hm1,hrows.out]
  go_wp2_with (first | (go_at_call 158;refine (lists_any _ _).mono ?_;rintro e w' ⟨rfl,hww⟩;rw [hww,show Md.fXs 5=true from rfl]));refine (terms_any _ c.terms n _ (HC.out.below HB1.out).t).mono ?_;rintro e w' ⟨rfl,hww⟩;rw [hww];clear hww;obtain ⟨r,hr⟩:∃ r,termsE c.terms n=r:=⟨_,rfl⟩;rw [hr];have HRE:Hid (termsE c.terms n=r):=hr;clear hr;go_wp2_with fail
  refine mcalls_at (H88.out _ (HC.out.below HB1.out)) (by with_reducible rfl) (by with_reducible rfl) ?_;rintro e w3 ⟨rfl,hb3⟩;have HB3:Hid (Below W.heap.size W w3):=HB1.out.trans (hb3.mono HB1.out.size);clear hb3 a0 a1 a2 a3 a4 a5 a6 a7 a8 a9;obtain ⟨a0,a1,a2,a3,a4,a5,a6,a7,a8,a9⟩:=HCC.out _ HB3.out
  cases hps:(Md.plB n c.x&&Md.plB n c.y&&c.xs.all (Md.plB n))
  · have hres:Hid (Md.fault c n=44):=by show _=_;exact fault44' hkb.out HFB.out hmb.out (pl1 hps)
    go_wp2_with fail
    go_ret;exact ⟨mret_int hres.out.symm,HB.out.trans (Below.mono HB3.out HB.out.size)⟩
  rcases termsE_is c.terms n with ⟨h1,h2⟩ | ⟨h1,h2,h3⟩ | ⟨h1,h2,h3⟩
  · obtain rfl:r=44:=HRE.out.symm.trans h1
    have hres:Hid (Md.fault c n=44):=by show _=_;exact fault44' hkb.out HFB.out hmb.out (pl2 h2)
    go_wp2_with fail
    go_ret;exact ⟨mret_int hres.out.symm,HB.out.trans (Below.mono HB3.out HB.out.size)⟩
  · obtain rfl:r=45:=HRE.out.symm.trans h1
    have hres:Hid (Md.fault c n=45):=by show _=_;exact fault45' hkb.out HFB.out hmb.out (pl3 hps h2) h3
    go_wp2_with fail
    go_ret;exact ⟨mret_int hres.out.symm,HB.out.trans (Below.mono HB3.out HB.out.size)⟩
  · obtain rfl:r=0:=HRE.out.symm.trans h1
    have Hpc:Hid (Md.placesB c n=true/\Md.coefsB c.terms=true):=⟨pl3 hps h2,h3⟩;clear h1 h2 h3 hps
    cases hnk:Md.numB c.k
    · have hres:Hid (Md.fault c n=46):=by show _=_;exact fault46' hkb.out HFB.out hmb.out Hpc.out.1 Hpc.out.2 (by simp [Md.numsB,hnk])
      go_wp2_with (go_at_call 161;refine (number_any _ _).mono ?_;rintro e w' ⟨rfl,hww⟩;rw [hww]);go_ret;exact ⟨mret_int hres.out.symm,HB.out.trans (Below.mono HB3.out HB.out.size)⟩
    cases hnv:Md.numB c.v
    · have hres:Hid (Md.fault c n=46):=by show _=_;exact fault46' hkb.out HFB.out hmb.out Hpc.out.1 Hpc.out.2 (by simp [Md.numsB,hnv])
      go_wp2_with (go_at_call 161;refine (number_any _ _).mono ?_;rintro e w' ⟨rfl,hww⟩;rw [hww]);go_ret;exact ⟨mret_int hres.out.symm,HB.out.trans (Below.mono HB3.out HB.out.size)⟩
    go_wp2_with (go_at_call 161;refine (number_any _ _).mono ?_;rintro e w' ⟨rfl,hww⟩;rw [hww]);go_loop [7] (fun iv=>∃ k:Nat,iv=.int .i64 (k:Int)/\k<=c.rows.length/\Hid ((c.rows.take k).all (fun r=>r.all Md.numB)=true)) (fun iv=>c.rows.length-(intOf iv).toNat)
    case atStart=>exact ⟨0,rfl,Nat.zero_le _,(show _=_ by simp)⟩
    case round=>
      obtain ⟨k,rfl,hkk,hA⟩:=hrel
      by_cases hlt:k<c.rows.length
      · obtain ⟨b,off,rfl,hb,hc⟩:=HRO.out (by omega)
        obtain ⟨u,hcell,hu⟩:=hc k hlt;have hcw:=((HB.out.trans (HB3.out.mono HB.out.size)).cell (p:=⟨b,off+k,none⟩) hb).trans hcell;obtain ⟨ua,uc,rfl,hum,huo⟩:=hu;unfold maxLen at hum;have HUO:Hid (0<(c.rows[k]).length->∃ b off,ua=some ⟨b,off,none⟩/\b<w.heap.size/\∀ j (h:j<(c.rows[k]).length),w.cell? ⟨b,off+j,none⟩=some (.int .i64 (c.rows[k])[j])):=huo;have hkI:(k:Int)<(c.rows.length:Int):=by omega
        clear hc hcell huo;go_wp2_with fail
        go_loop [8] (fun jv=>∃ j:Nat,jv=.int .i64 (j:Int)/\j<=(c.rows[k]).length/\Hid (((c.rows[k]).take j).all Md.numB=true)) (fun jv=>(c.rows[k]).length-(intOf jv).toNat)
        case atStart=>exact ⟨0,rfl,Nat.zero_le _,(show _=_ by simp)⟩
        case round=>
          obtain ⟨j,rfl,hj,hJ⟩:=hrel
          by_cases hjl:j<(c.rows[k]).length
          · obtain ⟨bu,ou,rfl,hbu,hcu⟩:=HUO.out (by omega)
            have hcj:=((HB.out.trans (HB3.out.mono HB.out.size)).cell (p:=⟨bu,ou+j,none⟩) hbu).trans (hcu j hjl);have hjI:(j:Int)<((c.rows[k]).length:Int):=by omega
            clear hcu
            cases hp:Md.numB (c.rows[k])[j]
            · have hres:Hid (Md.fault c n=46):=fault46' hkb.out HFB.out hmb.out Hpc.out.1 Hpc.out.2 (nums_row (Md.all_stop hlt (Md.all_stop hjl hp)))
              generalize (c.rows[k])[j]=y at *
              go_wp2_with (go_at_call 161;refine (number_any _ _).mono ?_;rintro e w' ⟨rfl,hww⟩;rw [hww]);go_ret;exact ⟨mret_int hres.out.symm,HB.out.trans (Below.mono HB3.out HB.out.size)⟩
            · have hnx:Hid (((c.rows[k]).take (j+1)).all Md.numB=true):=Md.all_next hJ.out hjl hp
              generalize (c.rows[k])[j]=y at *
              go_wp2_with (go_at_call 161;refine (number_any _ _).mono ?_;rintro e w' ⟨rfl,hww⟩;rw [hww]);go_round
              case rel=>exact ⟨j+1,by go_num,by omega,hnx⟩
              case measure=>simp [intOf];omega
          · have hjI:¬ (j:Int)<((c.rows[k]).length:Int):=by omega
            have hnx:Hid ((c.rows.take (k+1)).all (fun r=>r.all Md.numB)=true):=Md.all_next hA.out hlt (Md.all_done hJ.out (by omega));go_wp2_with fail
            go_round
            case rel=>exact ⟨k+1,by go_num,by omega,hnx⟩
            case measure=>simp [intOf];omega
      · have hkI:¬ (k:Int)<(c.rows.length:Int):=by omega
        have hrn:Hid (c.rows.all (fun r=>r.all Md.numB)=true):=Md.all_done hA.out (by omega);go_wp2_with fail
        go_loop [9] (fun iv=>∃ k:Nat,iv=.int .i64 (k:Int)/\k<=c.table.length/\Hid ((c.table.take k).all Md.numB=true)) (fun iv=>c.table.length-(intOf iv).toNat)
        case atStart=>exact ⟨0,rfl,Nat.zero_le _,(show _=_ by simp)⟩
        case round=>
          obtain ⟨j,rfl,hj,hJ⟩:=hrel
          by_cases hjl:j<c.table.length
          · obtain ⟨bu,ou,rfl,hbu,hcu⟩:=HBO.out (by omega)
            have hcj:=((HB.out.trans (HB3.out.mono HB.out.size)).cell (p:=⟨bu,ou+j,none⟩) hbu).trans (hcu j hjl);have hjI:(j:Int)<(c.table.length:Int):=by omega
            clear hcu
            cases hp:Md.numB c.table[j]
            · have hres:Hid (Md.fault c n=46):=fault46' hkb.out HFB.out hmb.out Hpc.out.1 Hpc.out.2 (nums_tab (Md.all_stop hjl hp))
              generalize c.table[j]=y at *
              go_wp2_with (go_at_call 161;refine (number_any _ _).mono ?_;rintro e w' ⟨rfl,hww⟩;rw [hww]);go_ret;exact ⟨mret_int hres.out.symm,HB.out.trans (Below.mono HB3.out HB.out.size)⟩
            · have hnx:Hid ((c.table.take (j+1)).all Md.numB=true):=Md.all_next hJ.out hjl hp
              generalize c.table[j]=y at *
              go_wp2_with (go_at_call 161;refine (number_any _ _).mono ?_;rintro e w' ⟨rfl,hww⟩;rw [hww]);go_round
              case rel=>exact ⟨j+1,by go_num,by omega,hnx⟩
              case measure=>simp [intOf];omega
          · have hjI:¬ (j:Int)<(c.table.length:Int):=by omega
            have hres:Hid (Md.fault c n=0):=fault0' hkb.out HFB.out hmb.out Hpc.out.1 Hpc.out.2 (by simp [Md.numsB,hnk,hnv,hrn.out,Md.all_done hJ.out (show c.table.length<=j by omega)]);go_wp2_with fail
            go_ret;exact ⟨mret_int hres.out.symm,HB.out.trans (Below.mono HB3.out HB.out.size)⟩
end Go.Proofs.YtjgghimjnbjlbaaGreatDoor.Doc

namespace Go.Proofs.YtjgghimjnbjlbaaGreatDoor.Doc
open Go.RowKit
set_option maxRecDepth 10000
set_option maxHeartbeats 8000000
theorem refCon_6 (c:Md.Cn) (vt vx vb vr:Value) (n:Int) (w:World) (h:CnAt w c vt vx vb vr) (hk:c.kind=6) (hfg:∀ w',CnAt w' c vt vx vb vr->Calls Tryz.prog 157 #[cnVal c vt vx vb vr] w' fun e w''=>e=.returned (.bool (Md.plainBad c||Md.listBad c))/\Below w'.heap.size w' w''):Calls Tryz.prog 90 #[cnVal c vt vx vb vr,.int .i64 n] w fun e w'=>e=.returned (.int .i64 (Md.fault c n))/\Below w.heap.size w w':=by
  obtain ⟨ta,tc,rfl,_⟩:=id h.t;obtain ⟨xa,xc,rfl,hxm,hxo⟩:=id h.x;obtain ⟨ba,bc,rfl,hbm,hbo⟩:=id h.b;obtain ⟨ra,rc,rfl,hrm,hro⟩:=id h.r;unfold maxLen at hxm hbm hrm;obtain ⟨W,hW⟩:∃ W,w.alloc (.cells #[.int .i64 6,.int .i64 c.op,.slice ta c.terms.length tc,.int .i64 c.k,.int .i64 c.v,.int .i64 c.x,.int .i64 c.y,.slice xa c.xs.length xc,.slice ba c.table.length bc,.slice ra c.rows.length rc] 51)=W:=⟨_,rfl⟩;have hbW:Below w.heap.size w W:=by rw [<-hW];exact (Below.refl _ _).alloc (Nat.le_refl _) _
  have HB:Hid (Below w.heap.size w W):=hbW;have HC:Hid (CnAt W c (.slice ta c.terms.length tc) (.slice xa c.xs.length xc) (.slice ba c.table.length bc) (.slice ra c.rows.length rc)):=h.below hbW;have HXO:Hid (0<c.xs.length->∃ b off,xa=some ⟨b,off,none⟩/\b<w.heap.size/\∀ j (h:j<c.xs.length),w.cell? ⟨b,off+j,none⟩=some (.int .i64 c.xs[j])):=hxo;have HBO:Hid (0<c.table.length->∃ b off,ba=some ⟨b,off,none⟩/\b<w.heap.size/\∀ j (h:j<c.table.length),w.cell? ⟨b,off+j,none⟩=some (.int .i64 c.table[j])):=hbo;have HRO:Hid (0<c.rows.length->∃ b off,ra=some ⟨b,off,none⟩/\b<w.heap.size/\∀ j (h:j<c.rows.length),∃ u,w.cell? ⟨b,off+j,none⟩=some u/\MInts w u c.rows[j]):=hro;have c0:W.cell? ⟨w.heap.size,0,none⟩=some (.int .i64 6):=by rw [<-hW];simp
  have c1:W.cell? ⟨w.heap.size,1,none⟩=some (.int .i64 c.op):=by rw [<-hW];simp
  have c2:W.cell? ⟨w.heap.size,2,none⟩=some (.slice ta c.terms.length tc):=by rw [<-hW];simp
  have c3:W.cell? ⟨w.heap.size,3,none⟩=some (.int .i64 c.k):=by rw [<-hW];simp
  have c4:W.cell? ⟨w.heap.size,4,none⟩=some (.int .i64 c.v):=by rw [<-hW];simp
  have c5:W.cell? ⟨w.heap.size,5,none⟩=some (.int .i64 c.x):=by rw [<-hW];simp
  have c6:W.cell? ⟨w.heap.size,6,none⟩=some (.int .i64 c.y):=by rw [<-hW];simp
  have c7:W.cell? ⟨w.heap.size,7,none⟩=some (.slice xa c.xs.length xc):=by rw [<-hW];simp
  have c8:W.cell? ⟨w.heap.size,8,none⟩=some (.slice ba c.table.length bc):=by rw [<-hW];simp
  have c9:W.cell? ⟨w.heap.size,9,none⟩=some (.slice ra c.rows.length rc):=by rw [<-hW];simp
  have hsz:W.heap.size=w.heap.size+1:=by rw [<-hW];simp
  have hsN:w.heap.size<W.heap.size:=by omega
  have HCC:Hid (∀ w',Below W.heap.size W w'->w'.cell? ⟨w.heap.size,0,none⟩=some (.int .i64 6)/\w'.cell? ⟨w.heap.size,1,none⟩=some (.int .i64 c.op)/\w'.cell? ⟨w.heap.size,2,none⟩=some (.slice ta c.terms.length tc)/\w'.cell? ⟨w.heap.size,3,none⟩=some (.int .i64 c.k)/\w'.cell? ⟨w.heap.size,4,none⟩=some (.int .i64 c.v)/\w'.cell? ⟨w.heap.size,5,none⟩=some (.int .i64 c.x)/\w'.cell? ⟨w.heap.size,6,none⟩=some (.int .i64 c.y)/\w'.cell? ⟨w.heap.size,7,none⟩=some (.slice xa c.xs.length xc)/\w'.cell? ⟨w.heap.size,8,none⟩=some (.slice ba c.table.length bc)/\w'.cell? ⟨w.heap.size,9,none⟩=some (.slice ra c.rows.length rc)):=fun w' hb=>⟨(hb.cell (p:=⟨w.heap.size,0,none⟩) hsN).trans c0,(hb.cell (p:=⟨w.heap.size,1,none⟩) hsN).trans c1,(hb.cell (p:=⟨w.heap.size,2,none⟩) hsN).trans c2,(hb.cell (p:=⟨w.heap.size,3,none⟩) hsN).trans c3,(hb.cell (p:=⟨w.heap.size,4,none⟩) hsN).trans c4,(hb.cell (p:=⟨w.heap.size,5,none⟩) hsN).trans c5,(hb.cell (p:=⟨w.heap.size,6,none⟩) hsN).trans c6,(hb.cell (p:=⟨w.heap.size,7,none⟩) hsN).trans c7,(hb.cell (p:=⟨w.heap.size,8,none⟩) hsN).trans c8,(hb.cell (p:=⟨w.heap.size,9,none⟩) hsN).trans c9⟩
  have H85:Hid (∀ w',CnAt w' c (.slice ta c.terms.length tc) (.slice xa c.xs.length xc) (.slice ba c.table.length bc) (.slice ra c.rows.length rc)->Calls Tryz.prog 157 #[cnVal c (.slice ta c.terms.length tc) (.slice xa c.xs.length xc) (.slice ba c.table.length bc) (.slice ra c.rows.length rc)] w' fun e w''=>e=.returned (.bool (Md.plainBad c||Md.listBad c))/\Below w'.heap.size w' w''):=hfg
  have H87:Hid (∀ w',CnAt w' c (.slice ta c.terms.length tc) (.slice xa c.xs.length xc) (.slice ba c.table.length bc) (.slice ra c.rows.length rc)->Calls Tryz.prog 159 #[cnVal c (.slice ta c.terms.length tc) (.slice xa c.xs.length xc) (.slice ba c.table.length bc) (.slice ra c.rows.length rc)] w' fun e w''=>e=.returned (.bool (!(decide (8<c.xs.length)||Md.fewB c.rows.length 64||!(c.rows.all fun r=>r.length==c.xs.length))))/\Below w'.heap.size w' w''):=fun w' h'=>rowsOk_any c _ _ _ _ w' h'
  have H88:Hid (∀ w',CnAt w' c (.slice ta c.terms.length tc) (.slice xa c.xs.length xc) (.slice ba c.table.length bc) (.slice ra c.rows.length rc)->Calls Tryz.prog 160 #[cnVal c (.slice ta c.terms.length tc) (.slice xa c.xs.length xc) (.slice ba c.table.length bc) (.slice ra c.rows.length rc),.int .i64 n] w' fun e w''=>e=.returned (.bool (Md.plB n c.x&&Md.plB n c.y&&c.xs.all (Md.plB n)))/\Below w'.heap.size w' w''):=fun w' h'=>places_any c _ _ _ _ n w' h'
  clear hfg;unfold cnVal at H85 H87 H88;rw [hk] at H85 H87 H88;unfold cnVal;clear h hxo hbo hro hbW hsz;have hkr:Hid (1<=c.kind/\c.kind<=9):=by rw [hk];exact ⟨by decide,by decide⟩
  have hkb:Hid (Md.kindBad c.kind c.op=false):=kind_ok' hkr.out (fun h=>by rw [hk] at h;exact absurd h.1 (by decide));go_enter Tryz.func90,Tryz.ntmps90;go_wp2_with fail
  refine mcalls_at (H85.out _ HC.out) (by with_reducible rfl) (by with_reducible rfl) ?_;rintro e w1 ⟨rfl,hb1⟩;have HB1:Hid (Below W.heap.size W w1):=hb1
  cases hfb:(Md.plainBad c||Md.listBad c)
  rotate_left
  · have hres:Hid (Md.fault c n=48):=by show _=_;exact fault48' hkb.out hfb
    go_wp2_with fail
    go_ret;exact ⟨mret_int hres.out.symm,HB.out.trans (Below.mono hb1 HB.out.size)⟩
  have HFB:Hid ((Md.plainBad c||Md.listBad c)=false):=hfb;clear hfb c0 c1 c2 c3 c4 c5 c6 c7 c8 c9;obtain ⟨a0,a1,a2,a3,a4,a5,a6,a7,a8,a9⟩:=HCC.out _ hb1;clear hb1;have hrows:Hid (c.rows.all (fun r=>r.length==c.xs.length)=true):=rows_nil hk rfl HFB.out;go_wp2_with (first | (go_at_call 158;refine (lists_any _ _).mono ?_;rintro e w' ⟨rfl,hww⟩;rw [hww,show Md.fXs 6=true from rfl]));refine (many_any c.xs.length _).mono ?_;rintro e w' ⟨rfl,hww⟩;rw [hww];clear hww
  cases hm1:Md.fewB c.xs.length 64
  rotate_left
  · have hres:Hid (Md.fault c n=47):=by show _=_;exact fault47' hkb.out HFB.out (by simp [Md.manyBad,hk,Md.fXs,Md.mostXs,hm1])
    go_wp2_with fail
    go_ret;exact ⟨mret_int hres.out.symm,HB.out.trans (Below.mono HB1.out HB.out.size)⟩
  have hmb:Hid (Md.manyBad c=false):=by show _=_;simp [Md.manyBad,hk,Md.fTerms,Md.fXs,Md.fTable,Md.fRows,Md.mostXs,hm1,hrows.out]
  go_wp2_with (first | (go_at_call 158;refine (lists_any _ _).mono ?_;rintro e w' ⟨rfl,hww⟩;rw [hww,show Md.fXs 6=true from rfl]));refine (terms_any _ c.terms n _ (HC.out.below HB1.out).t).mono ?_;rintro e w' ⟨rfl,hww⟩;rw [hww];clear hww;obtain ⟨r,hr⟩:∃ r,termsE c.terms n=r:=⟨_,rfl⟩;rw [hr];have HRE:Hid (termsE c.terms n=r):=hr;clear hr;go_wp2_with fail
  refine mcalls_at (H88.out _ (HC.out.below HB1.out)) (by with_reducible rfl) (by with_reducible rfl) ?_;rintro e w3 ⟨rfl,hb3⟩;have HB3:Hid (Below W.heap.size W w3):=HB1.out.trans (hb3.mono HB1.out.size);clear hb3 a0 a1 a2 a3 a4 a5 a6 a7 a8 a9;obtain ⟨a0,a1,a2,a3,a4,a5,a6,a7,a8,a9⟩:=HCC.out _ HB3.out
  cases hps:(Md.plB n c.x&&Md.plB n c.y&&c.xs.all (Md.plB n))
  · have hres:Hid (Md.fault c n=44):=by show _=_;exact fault44' hkb.out HFB.out hmb.out (pl1 hps)
    go_wp2_with fail
    go_ret;exact ⟨mret_int hres.out.symm,HB.out.trans (Below.mono HB3.out HB.out.size)⟩
  rcases termsE_is c.terms n with ⟨h1,h2⟩ | ⟨h1,h2,h3⟩ | ⟨h1,h2,h3⟩
  · obtain rfl:r=44:=HRE.out.symm.trans h1
    have hres:Hid (Md.fault c n=44):=by show _=_;exact fault44' hkb.out HFB.out hmb.out (pl2 h2)
    go_wp2_with fail
    go_ret;exact ⟨mret_int hres.out.symm,HB.out.trans (Below.mono HB3.out HB.out.size)⟩
  · obtain rfl:r=45:=HRE.out.symm.trans h1
    have hres:Hid (Md.fault c n=45):=by show _=_;exact fault45' hkb.out HFB.out hmb.out (pl3 hps h2) h3
    go_wp2_with fail
    go_ret;exact ⟨mret_int hres.out.symm,HB.out.trans (Below.mono HB3.out HB.out.size)⟩
  · obtain rfl:r=0:=HRE.out.symm.trans h1
    have Hpc:Hid (Md.placesB c n=true/\Md.coefsB c.terms=true):=⟨pl3 hps h2,h3⟩;clear h1 h2 h3 hps
    cases hnk:Md.numB c.k
    · have hres:Hid (Md.fault c n=46):=by show _=_;exact fault46' hkb.out HFB.out hmb.out Hpc.out.1 Hpc.out.2 (by simp [Md.numsB,hnk])
      go_wp2_with (go_at_call 161;refine (number_any _ _).mono ?_;rintro e w' ⟨rfl,hww⟩;rw [hww]);go_ret;exact ⟨mret_int hres.out.symm,HB.out.trans (Below.mono HB3.out HB.out.size)⟩
    cases hnv:Md.numB c.v
    · have hres:Hid (Md.fault c n=46):=by show _=_;exact fault46' hkb.out HFB.out hmb.out Hpc.out.1 Hpc.out.2 (by simp [Md.numsB,hnv])
      go_wp2_with (go_at_call 161;refine (number_any _ _).mono ?_;rintro e w' ⟨rfl,hww⟩;rw [hww]);go_ret;exact ⟨mret_int hres.out.symm,HB.out.trans (Below.mono HB3.out HB.out.size)⟩
    go_wp2_with (go_at_call 161;refine (number_any _ _).mono ?_;rintro e w' ⟨rfl,hww⟩;rw [hww]);go_loop [7] (fun iv=>∃ k:Nat,iv=.int .i64 (k:Int)/\k<=c.rows.length/\Hid ((c.rows.take k).all (fun r=>r.all Md.numB)=true)) (fun iv=>c.rows.length-(intOf iv).toNat)
    case atStart=>exact ⟨0,rfl,Nat.zero_le _,(show _=_ by simp)⟩
    case round=>
      obtain ⟨k,rfl,hkk,hA⟩:=hrel
      by_cases hlt:k<c.rows.length
      · obtain ⟨b,off,rfl,hb,hc⟩:=HRO.out (by omega)
        obtain ⟨u,hcell,hu⟩:=hc k hlt;have hcw:=((HB.out.trans (HB3.out.mono HB.out.size)).cell (p:=⟨b,off+k,none⟩) hb).trans hcell;obtain ⟨ua,uc,rfl,hum,huo⟩:=hu;unfold maxLen at hum;have HUO:Hid (0<(c.rows[k]).length->∃ b off,ua=some ⟨b,off,none⟩/\b<w.heap.size/\∀ j (h:j<(c.rows[k]).length),w.cell? ⟨b,off+j,none⟩=some (.int .i64 (c.rows[k])[j])):=huo;have hkI:(k:Int)<(c.rows.length:Int):=by omega
        clear hc hcell huo;go_wp2_with fail
        go_loop [8] (fun jv=>∃ j:Nat,jv=.int .i64 (j:Int)/\j<=(c.rows[k]).length/\Hid (((c.rows[k]).take j).all Md.numB=true)) (fun jv=>(c.rows[k]).length-(intOf jv).toNat)
        case atStart=>exact ⟨0,rfl,Nat.zero_le _,(show _=_ by simp)⟩
        case round=>
          obtain ⟨j,rfl,hj,hJ⟩:=hrel
          by_cases hjl:j<(c.rows[k]).length
          · obtain ⟨bu,ou,rfl,hbu,hcu⟩:=HUO.out (by omega)
            have hcj:=((HB.out.trans (HB3.out.mono HB.out.size)).cell (p:=⟨bu,ou+j,none⟩) hbu).trans (hcu j hjl);have hjI:(j:Int)<((c.rows[k]).length:Int):=by omega
            clear hcu
            cases hp:Md.numB (c.rows[k])[j]
            · have hres:Hid (Md.fault c n=46):=fault46' hkb.out HFB.out hmb.out Hpc.out.1 Hpc.out.2 (nums_row (Md.all_stop hlt (Md.all_stop hjl hp)))
              generalize (c.rows[k])[j]=y at *
              go_wp2_with (go_at_call 161;refine (number_any _ _).mono ?_;rintro e w' ⟨rfl,hww⟩;rw [hww]);go_ret;exact ⟨mret_int hres.out.symm,HB.out.trans (Below.mono HB3.out HB.out.size)⟩
            · have hnx:Hid (((c.rows[k]).take (j+1)).all Md.numB=true):=Md.all_next hJ.out hjl hp
              generalize (c.rows[k])[j]=y at *
              go_wp2_with (go_at_call 161;refine (number_any _ _).mono ?_;rintro e w' ⟨rfl,hww⟩;rw [hww]);go_round
              case rel=>exact ⟨j+1,by go_num,by omega,hnx⟩
              case measure=>simp [intOf];omega
          · have hjI:¬ (j:Int)<((c.rows[k]).length:Int):=by omega
            have hnx:Hid ((c.rows.take (k+1)).all (fun r=>r.all Md.numB)=true):=Md.all_next hA.out hlt (Md.all_done hJ.out (by omega));go_wp2_with fail
            go_round
            case rel=>exact ⟨k+1,by go_num,by omega,hnx⟩
            case measure=>simp [intOf];omega
      · have hkI:¬ (k:Int)<(c.rows.length:Int):=by omega
        have hrn:Hid (c.rows.all (fun r=>r.all Md.numB)=true):=Md.all_done hA.out (by omega);go_wp2_with fail
        go_loop [9] (fun iv=>∃ k:Nat,iv=.int .i64 (k:Int)/\k<=c.table.length/\Hid ((c.table.take k).all Md.numB=true)) (fun iv=>c.table.length-(intOf iv).toNat)
        case atStart=>exact ⟨0,rfl,Nat.zero_le _,(show _=_ by simp)⟩
        case round=>
          obtain ⟨j,rfl,hj,hJ⟩:=hrel
          by_cases hjl:j<c.table.length
          · obtain ⟨bu,ou,rfl,hbu,hcu⟩:=HBO.out (by omega)
            have hcj:=((HB.out.trans (HB3.out.mono HB.out.size)).cell (p:=⟨bu,ou+j,none⟩) hbu).trans (hcu j hjl);have hjI:(j:Int)<(c.table.length:Int):=by omega
            clear hcu
            cases hp:Md.numB c.table[j]
            · have hres:Hid (Md.fault c n=46):=fault46' hkb.out HFB.out hmb.out Hpc.out.1 Hpc.out.2 (nums_tab (Md.all_stop hjl hp))
              generalize c.table[j]=y at *
              go_wp2_with (go_at_call 161;refine (number_any _ _).mono ?_;rintro e w' ⟨rfl,hww⟩;rw [hww]);go_ret;exact ⟨mret_int hres.out.symm,HB.out.trans (Below.mono HB3.out HB.out.size)⟩
            · have hnx:Hid ((c.table.take (j+1)).all Md.numB=true):=Md.all_next hJ.out hjl hp
              generalize c.table[j]=y at *
              go_wp2_with (go_at_call 161;refine (number_any _ _).mono ?_;rintro e w' ⟨rfl,hww⟩;rw [hww]);go_round
              case rel=>exact ⟨j+1,by go_num,by omega,hnx⟩
              case measure=>simp [intOf];omega
          · have hjI:¬ (j:Int)<(c.table.length:Int):=by omega
            have hres:Hid (Md.fault c n=0):=fault0' hkb.out HFB.out hmb.out Hpc.out.1 Hpc.out.2 (by simp [Md.numsB,hnk,hnv,hrn.out,Md.all_done hJ.out (show c.table.length<=j by omega)]);go_wp2_with fail
            go_ret;exact ⟨mret_int hres.out.symm,HB.out.trans (Below.mono HB3.out HB.out.size)⟩
end Go.Proofs.YtjgghimjnbjlbaaGreatDoor.Doc

namespace Go.Proofs.YtjgghimjnbjlbaaGreatDoor.Doc
open Go.RowKit
set_option maxRecDepth 10000
set_option maxHeartbeats 8000000
theorem refCon_7 (c:Md.Cn) (vt vx vb vr:Value) (n:Int) (w:World) (h:CnAt w c vt vx vb vr) (hk:c.kind=7) (hfg:∀ w',CnAt w' c vt vx vb vr->Calls Tryz.prog 157 #[cnVal c vt vx vb vr] w' fun e w''=>e=.returned (.bool (Md.plainBad c||Md.listBad c))/\Below w'.heap.size w' w''):Calls Tryz.prog 90 #[cnVal c vt vx vb vr,.int .i64 n] w fun e w'=>e=.returned (.int .i64 (Md.fault c n))/\Below w.heap.size w w':=by
  obtain ⟨ta,tc,rfl,_⟩:=id h.t;obtain ⟨xa,xc,rfl,hxm,hxo⟩:=id h.x;obtain ⟨ba,bc,rfl,hbm,hbo⟩:=id h.b;obtain ⟨ra,rc,rfl,hrm,hro⟩:=id h.r;unfold maxLen at hxm hbm hrm;obtain ⟨W,hW⟩:∃ W,w.alloc (.cells #[.int .i64 7,.int .i64 c.op,.slice ta c.terms.length tc,.int .i64 c.k,.int .i64 c.v,.int .i64 c.x,.int .i64 c.y,.slice xa c.xs.length xc,.slice ba c.table.length bc,.slice ra c.rows.length rc] 51)=W:=⟨_,rfl⟩;have hbW:Below w.heap.size w W:=by rw [<-hW];exact (Below.refl _ _).alloc (Nat.le_refl _) _
  have HB:Hid (Below w.heap.size w W):=hbW;have HC:Hid (CnAt W c (.slice ta c.terms.length tc) (.slice xa c.xs.length xc) (.slice ba c.table.length bc) (.slice ra c.rows.length rc)):=h.below hbW;have HXO:Hid (0<c.xs.length->∃ b off,xa=some ⟨b,off,none⟩/\b<w.heap.size/\∀ j (h:j<c.xs.length),w.cell? ⟨b,off+j,none⟩=some (.int .i64 c.xs[j])):=hxo;have HBO:Hid (0<c.table.length->∃ b off,ba=some ⟨b,off,none⟩/\b<w.heap.size/\∀ j (h:j<c.table.length),w.cell? ⟨b,off+j,none⟩=some (.int .i64 c.table[j])):=hbo;have HRO:Hid (0<c.rows.length->∃ b off,ra=some ⟨b,off,none⟩/\b<w.heap.size/\∀ j (h:j<c.rows.length),∃ u,w.cell? ⟨b,off+j,none⟩=some u/\MInts w u c.rows[j]):=hro;have c0:W.cell? ⟨w.heap.size,0,none⟩=some (.int .i64 7):=by rw [<-hW];simp
  have c1:W.cell? ⟨w.heap.size,1,none⟩=some (.int .i64 c.op):=by rw [<-hW];simp
  have c2:W.cell? ⟨w.heap.size,2,none⟩=some (.slice ta c.terms.length tc):=by rw [<-hW];simp
  have c3:W.cell? ⟨w.heap.size,3,none⟩=some (.int .i64 c.k):=by rw [<-hW];simp
  have c4:W.cell? ⟨w.heap.size,4,none⟩=some (.int .i64 c.v):=by rw [<-hW];simp
  have c5:W.cell? ⟨w.heap.size,5,none⟩=some (.int .i64 c.x):=by rw [<-hW];simp
  have c6:W.cell? ⟨w.heap.size,6,none⟩=some (.int .i64 c.y):=by rw [<-hW];simp
  have c7:W.cell? ⟨w.heap.size,7,none⟩=some (.slice xa c.xs.length xc):=by rw [<-hW];simp
  have c8:W.cell? ⟨w.heap.size,8,none⟩=some (.slice ba c.table.length bc):=by rw [<-hW];simp
  have c9:W.cell? ⟨w.heap.size,9,none⟩=some (.slice ra c.rows.length rc):=by rw [<-hW];simp
  have hsz:W.heap.size=w.heap.size+1:=by rw [<-hW];simp
  have hsN:w.heap.size<W.heap.size:=by omega
  have HCC:Hid (∀ w',Below W.heap.size W w'->w'.cell? ⟨w.heap.size,0,none⟩=some (.int .i64 7)/\w'.cell? ⟨w.heap.size,1,none⟩=some (.int .i64 c.op)/\w'.cell? ⟨w.heap.size,2,none⟩=some (.slice ta c.terms.length tc)/\w'.cell? ⟨w.heap.size,3,none⟩=some (.int .i64 c.k)/\w'.cell? ⟨w.heap.size,4,none⟩=some (.int .i64 c.v)/\w'.cell? ⟨w.heap.size,5,none⟩=some (.int .i64 c.x)/\w'.cell? ⟨w.heap.size,6,none⟩=some (.int .i64 c.y)/\w'.cell? ⟨w.heap.size,7,none⟩=some (.slice xa c.xs.length xc)/\w'.cell? ⟨w.heap.size,8,none⟩=some (.slice ba c.table.length bc)/\w'.cell? ⟨w.heap.size,9,none⟩=some (.slice ra c.rows.length rc)):=fun w' hb=>⟨(hb.cell (p:=⟨w.heap.size,0,none⟩) hsN).trans c0,(hb.cell (p:=⟨w.heap.size,1,none⟩) hsN).trans c1,(hb.cell (p:=⟨w.heap.size,2,none⟩) hsN).trans c2,(hb.cell (p:=⟨w.heap.size,3,none⟩) hsN).trans c3,(hb.cell (p:=⟨w.heap.size,4,none⟩) hsN).trans c4,(hb.cell (p:=⟨w.heap.size,5,none⟩) hsN).trans c5,(hb.cell (p:=⟨w.heap.size,6,none⟩) hsN).trans c6,(hb.cell (p:=⟨w.heap.size,7,none⟩) hsN).trans c7,(hb.cell (p:=⟨w.heap.size,8,none⟩) hsN).trans c8,(hb.cell (p:=⟨w.heap.size,9,none⟩) hsN).trans c9⟩
  have H85:Hid (∀ w',CnAt w' c (.slice ta c.terms.length tc) (.slice xa c.xs.length xc) (.slice ba c.table.length bc) (.slice ra c.rows.length rc)->Calls Tryz.prog 157 #[cnVal c (.slice ta c.terms.length tc) (.slice xa c.xs.length xc) (.slice ba c.table.length bc) (.slice ra c.rows.length rc)] w' fun e w''=>e=.returned (.bool (Md.plainBad c||Md.listBad c))/\Below w'.heap.size w' w''):=hfg
  have H87:Hid (∀ w',CnAt w' c (.slice ta c.terms.length tc) (.slice xa c.xs.length xc) (.slice ba c.table.length bc) (.slice ra c.rows.length rc)->Calls Tryz.prog 159 #[cnVal c (.slice ta c.terms.length tc) (.slice xa c.xs.length xc) (.slice ba c.table.length bc) (.slice ra c.rows.length rc)] w' fun e w''=>e=.returned (.bool (!(decide (8<c.xs.length)||Md.fewB c.rows.length 64||!(c.rows.all fun r=>r.length==c.xs.length))))/\Below w'.heap.size w' w''):=fun w' h'=>rowsOk_any c _ _ _ _ w' h'
  have H88:Hid (∀ w',CnAt w' c (.slice ta c.terms.length tc) (.slice xa c.xs.length xc) (.slice ba c.table.length bc) (.slice ra c.rows.length rc)->Calls Tryz.prog 160 #[cnVal c (.slice ta c.terms.length tc) (.slice xa c.xs.length xc) (.slice ba c.table.length bc) (.slice ra c.rows.length rc),.int .i64 n] w' fun e w''=>e=.returned (.bool (Md.plB n c.x&&Md.plB n c.y&&c.xs.all (Md.plB n)))/\Below w'.heap.size w' w''):=fun w' h'=>places_any c _ _ _ _ n w' h'
  clear hfg;unfold cnVal at H85 H87 H88;rw [hk] at H85 H87 H88;unfold cnVal;clear h hxo hbo hro hbW hsz;have hkr:Hid (1<=c.kind/\c.kind<=9):=by rw [hk];exact ⟨by decide,by decide⟩
  have hkb:Hid (Md.kindBad c.kind c.op=false):=kind_ok' hkr.out (fun h=>by rw [hk] at h;exact absurd h.1 (by decide));go_enter Tryz.func90,Tryz.ntmps90;go_wp2_with fail
  refine mcalls_at (H85.out _ HC.out) (by with_reducible rfl) (by with_reducible rfl) ?_;rintro e w1 ⟨rfl,hb1⟩;have HB1:Hid (Below W.heap.size W w1):=hb1
  cases hfb:(Md.plainBad c||Md.listBad c)
  rotate_left
  · have hres:Hid (Md.fault c n=48):=by show _=_;exact fault48' hkb.out hfb
    go_wp2_with fail
    go_ret;exact ⟨mret_int hres.out.symm,HB.out.trans (Below.mono hb1 HB.out.size)⟩
  have HFB:Hid ((Md.plainBad c||Md.listBad c)=false):=hfb;clear hfb c0 c1 c2 c3 c4 c5 c6 c7 c8 c9;obtain ⟨a0,a1,a2,a3,a4,a5,a6,a7,a8,a9⟩:=HCC.out _ hb1;clear hb1;have hrows:Hid (c.rows.all (fun r=>r.length==c.xs.length)=true):=rows_nil hk rfl HFB.out;go_wp2_with (first | (go_at_call 158;refine (lists_any _ _).mono ?_;rintro e w' ⟨rfl,hww⟩;rw [hww,show Md.fXs 7=false from rfl]));refine (many_any c.terms.length _).mono ?_;rintro e w' ⟨rfl,hww⟩;rw [hww];clear hww
  cases hm1:Md.fewB c.terms.length 64
  rotate_left
  · have hres:Hid (Md.fault c n=47):=by show _=_;exact fault47' hkb.out HFB.out (by simp [Md.manyBad,hk,Md.fTerms,hm1])
    go_wp2_with fail
    go_ret;exact ⟨mret_int hres.out.symm,HB.out.trans (Below.mono HB1.out HB.out.size)⟩
  have hmb:Hid (Md.manyBad c=false):=by show _=_;simp [Md.manyBad,hk,Md.fTerms,Md.fXs,Md.fTable,Md.fRows,hm1,hrows.out]
  go_wp2_with (first | (go_at_call 158;refine (lists_any _ _).mono ?_;rintro e w' ⟨rfl,hww⟩;rw [hww,show Md.fXs 7=false from rfl]));refine (terms_any _ c.terms n _ (HC.out.below HB1.out).t).mono ?_;rintro e w' ⟨rfl,hww⟩;rw [hww];clear hww;obtain ⟨r,hr⟩:∃ r,termsE c.terms n=r:=⟨_,rfl⟩;rw [hr];have HRE:Hid (termsE c.terms n=r):=hr;clear hr;go_wp2_with fail
  refine mcalls_at (H88.out _ (HC.out.below HB1.out)) (by with_reducible rfl) (by with_reducible rfl) ?_;rintro e w3 ⟨rfl,hb3⟩;have HB3:Hid (Below W.heap.size W w3):=HB1.out.trans (hb3.mono HB1.out.size);clear hb3 a0 a1 a2 a3 a4 a5 a6 a7 a8 a9;obtain ⟨a0,a1,a2,a3,a4,a5,a6,a7,a8,a9⟩:=HCC.out _ HB3.out
  cases hps:(Md.plB n c.x&&Md.plB n c.y&&c.xs.all (Md.plB n))
  · have hres:Hid (Md.fault c n=44):=by show _=_;exact fault44' hkb.out HFB.out hmb.out (pl1 hps)
    go_wp2_with fail
    go_ret;exact ⟨mret_int hres.out.symm,HB.out.trans (Below.mono HB3.out HB.out.size)⟩
  rcases termsE_is c.terms n with ⟨h1,h2⟩ | ⟨h1,h2,h3⟩ | ⟨h1,h2,h3⟩
  · obtain rfl:r=44:=HRE.out.symm.trans h1
    have hres:Hid (Md.fault c n=44):=by show _=_;exact fault44' hkb.out HFB.out hmb.out (pl2 h2)
    go_wp2_with fail
    go_ret;exact ⟨mret_int hres.out.symm,HB.out.trans (Below.mono HB3.out HB.out.size)⟩
  · obtain rfl:r=45:=HRE.out.symm.trans h1
    have hres:Hid (Md.fault c n=45):=by show _=_;exact fault45' hkb.out HFB.out hmb.out (pl3 hps h2) h3
    go_wp2_with fail
    go_ret;exact ⟨mret_int hres.out.symm,HB.out.trans (Below.mono HB3.out HB.out.size)⟩
  · obtain rfl:r=0:=HRE.out.symm.trans h1
    have Hpc:Hid (Md.placesB c n=true/\Md.coefsB c.terms=true):=⟨pl3 hps h2,h3⟩;clear h1 h2 h3 hps
    cases hnk:Md.numB c.k
    · have hres:Hid (Md.fault c n=46):=by show _=_;exact fault46' hkb.out HFB.out hmb.out Hpc.out.1 Hpc.out.2 (by simp [Md.numsB,hnk])
      go_wp2_with (go_at_call 161;refine (number_any _ _).mono ?_;rintro e w' ⟨rfl,hww⟩;rw [hww]);go_ret;exact ⟨mret_int hres.out.symm,HB.out.trans (Below.mono HB3.out HB.out.size)⟩
    cases hnv:Md.numB c.v
    · have hres:Hid (Md.fault c n=46):=by show _=_;exact fault46' hkb.out HFB.out hmb.out Hpc.out.1 Hpc.out.2 (by simp [Md.numsB,hnv])
      go_wp2_with (go_at_call 161;refine (number_any _ _).mono ?_;rintro e w' ⟨rfl,hww⟩;rw [hww]);go_ret;exact ⟨mret_int hres.out.symm,HB.out.trans (Below.mono HB3.out HB.out.size)⟩
    go_wp2_with (go_at_call 161;refine (number_any _ _).mono ?_;rintro e w' ⟨rfl,hww⟩;rw [hww]);go_loop [7] (fun iv=>∃ k:Nat,iv=.int .i64 (k:Int)/\k<=c.rows.length/\Hid ((c.rows.take k).all (fun r=>r.all Md.numB)=true)) (fun iv=>c.rows.length-(intOf iv).toNat)
    case atStart=>exact ⟨0,rfl,Nat.zero_le _,(show _=_ by simp)⟩
    case round=>
      obtain ⟨k,rfl,hkk,hA⟩:=hrel
      by_cases hlt:k<c.rows.length
      · obtain ⟨b,off,rfl,hb,hc⟩:=HRO.out (by omega)
        obtain ⟨u,hcell,hu⟩:=hc k hlt;have hcw:=((HB.out.trans (HB3.out.mono HB.out.size)).cell (p:=⟨b,off+k,none⟩) hb).trans hcell;obtain ⟨ua,uc,rfl,hum,huo⟩:=hu;unfold maxLen at hum;have HUO:Hid (0<(c.rows[k]).length->∃ b off,ua=some ⟨b,off,none⟩/\b<w.heap.size/\∀ j (h:j<(c.rows[k]).length),w.cell? ⟨b,off+j,none⟩=some (.int .i64 (c.rows[k])[j])):=huo;have hkI:(k:Int)<(c.rows.length:Int):=by omega
        clear hc hcell huo;go_wp2_with fail
        go_loop [8] (fun jv=>∃ j:Nat,jv=.int .i64 (j:Int)/\j<=(c.rows[k]).length/\Hid (((c.rows[k]).take j).all Md.numB=true)) (fun jv=>(c.rows[k]).length-(intOf jv).toNat)
        case atStart=>exact ⟨0,rfl,Nat.zero_le _,(show _=_ by simp)⟩
        case round=>
          obtain ⟨j,rfl,hj,hJ⟩:=hrel
          by_cases hjl:j<(c.rows[k]).length
          · obtain ⟨bu,ou,rfl,hbu,hcu⟩:=HUO.out (by omega)
            have hcj:=((HB.out.trans (HB3.out.mono HB.out.size)).cell (p:=⟨bu,ou+j,none⟩) hbu).trans (hcu j hjl);have hjI:(j:Int)<((c.rows[k]).length:Int):=by omega
            clear hcu
            cases hp:Md.numB (c.rows[k])[j]
            · have hres:Hid (Md.fault c n=46):=fault46' hkb.out HFB.out hmb.out Hpc.out.1 Hpc.out.2 (nums_row (Md.all_stop hlt (Md.all_stop hjl hp)))
              generalize (c.rows[k])[j]=y at *
              go_wp2_with (go_at_call 161;refine (number_any _ _).mono ?_;rintro e w' ⟨rfl,hww⟩;rw [hww]);go_ret;exact ⟨mret_int hres.out.symm,HB.out.trans (Below.mono HB3.out HB.out.size)⟩
            · have hnx:Hid (((c.rows[k]).take (j+1)).all Md.numB=true):=Md.all_next hJ.out hjl hp
              generalize (c.rows[k])[j]=y at *
              go_wp2_with (go_at_call 161;refine (number_any _ _).mono ?_;rintro e w' ⟨rfl,hww⟩;rw [hww]);go_round
              case rel=>exact ⟨j+1,by go_num,by omega,hnx⟩
              case measure=>simp [intOf];omega
          · have hjI:¬ (j:Int)<((c.rows[k]).length:Int):=by omega
            have hnx:Hid ((c.rows.take (k+1)).all (fun r=>r.all Md.numB)=true):=Md.all_next hA.out hlt (Md.all_done hJ.out (by omega));go_wp2_with fail
            go_round
            case rel=>exact ⟨k+1,by go_num,by omega,hnx⟩
            case measure=>simp [intOf];omega
      · have hkI:¬ (k:Int)<(c.rows.length:Int):=by omega
        have hrn:Hid (c.rows.all (fun r=>r.all Md.numB)=true):=Md.all_done hA.out (by omega);go_wp2_with fail
        go_loop [9] (fun iv=>∃ k:Nat,iv=.int .i64 (k:Int)/\k<=c.table.length/\Hid ((c.table.take k).all Md.numB=true)) (fun iv=>c.table.length-(intOf iv).toNat)
        case atStart=>exact ⟨0,rfl,Nat.zero_le _,(show _=_ by simp)⟩
        case round=>
          obtain ⟨j,rfl,hj,hJ⟩:=hrel
          by_cases hjl:j<c.table.length
          · obtain ⟨bu,ou,rfl,hbu,hcu⟩:=HBO.out (by omega)
            have hcj:=((HB.out.trans (HB3.out.mono HB.out.size)).cell (p:=⟨bu,ou+j,none⟩) hbu).trans (hcu j hjl);have hjI:(j:Int)<(c.table.length:Int):=by omega
            clear hcu
            cases hp:Md.numB c.table[j]
            · have hres:Hid (Md.fault c n=46):=fault46' hkb.out HFB.out hmb.out Hpc.out.1 Hpc.out.2 (nums_tab (Md.all_stop hjl hp))
              generalize c.table[j]=y at *
              go_wp2_with (go_at_call 161;refine (number_any _ _).mono ?_;rintro e w' ⟨rfl,hww⟩;rw [hww]);go_ret;exact ⟨mret_int hres.out.symm,HB.out.trans (Below.mono HB3.out HB.out.size)⟩
            · have hnx:Hid ((c.table.take (j+1)).all Md.numB=true):=Md.all_next hJ.out hjl hp
              generalize c.table[j]=y at *
              go_wp2_with (go_at_call 161;refine (number_any _ _).mono ?_;rintro e w' ⟨rfl,hww⟩;rw [hww]);go_round
              case rel=>exact ⟨j+1,by go_num,by omega,hnx⟩
              case measure=>simp [intOf];omega
          · have hjI:¬ (j:Int)<(c.table.length:Int):=by omega
            have hres:Hid (Md.fault c n=0):=fault0' hkb.out HFB.out hmb.out Hpc.out.1 Hpc.out.2 (by simp [Md.numsB,hnk,hnv,hrn.out,Md.all_done hJ.out (show c.table.length<=j by omega)]);go_wp2_with fail
            go_ret;exact ⟨mret_int hres.out.symm,HB.out.trans (Below.mono HB3.out HB.out.size)⟩
end Go.Proofs.YtjgghimjnbjlbaaGreatDoor.Doc

namespace Go.Proofs.YtjgghimjnbjlbaaGreatDoor.Doc
open Go.RowKit
set_option maxRecDepth 10000
set_option maxHeartbeats 8000000
theorem refCon_8 (c:Md.Cn) (vt vx vb vr:Value) (n:Int) (w:World) (h:CnAt w c vt vx vb vr) (hk:c.kind=8) (hfg:∀ w',CnAt w' c vt vx vb vr->Calls Tryz.prog 157 #[cnVal c vt vx vb vr] w' fun e w''=>e=.returned (.bool (Md.plainBad c||Md.listBad c))/\Below w'.heap.size w' w''):Calls Tryz.prog 90 #[cnVal c vt vx vb vr,.int .i64 n] w fun e w'=>e=.returned (.int .i64 (Md.fault c n))/\Below w.heap.size w w':=by
  obtain ⟨ta,tc,rfl,_⟩:=id h.t;obtain ⟨xa,xc,rfl,hxm,hxo⟩:=id h.x;obtain ⟨ba,bc,rfl,hbm,hbo⟩:=id h.b;obtain ⟨ra,rc,rfl,hrm,hro⟩:=id h.r;unfold maxLen at hxm hbm hrm;obtain ⟨W,hW⟩:∃ W,w.alloc (.cells #[.int .i64 8,.int .i64 c.op,.slice ta c.terms.length tc,.int .i64 c.k,.int .i64 c.v,.int .i64 c.x,.int .i64 c.y,.slice xa c.xs.length xc,.slice ba c.table.length bc,.slice ra c.rows.length rc] 51)=W:=⟨_,rfl⟩;have hbW:Below w.heap.size w W:=by rw [<-hW];exact (Below.refl _ _).alloc (Nat.le_refl _) _
  have HB:Hid (Below w.heap.size w W):=hbW;have HC:Hid (CnAt W c (.slice ta c.terms.length tc) (.slice xa c.xs.length xc) (.slice ba c.table.length bc) (.slice ra c.rows.length rc)):=h.below hbW;have HXO:Hid (0<c.xs.length->∃ b off,xa=some ⟨b,off,none⟩/\b<w.heap.size/\∀ j (h:j<c.xs.length),w.cell? ⟨b,off+j,none⟩=some (.int .i64 c.xs[j])):=hxo;have HBO:Hid (0<c.table.length->∃ b off,ba=some ⟨b,off,none⟩/\b<w.heap.size/\∀ j (h:j<c.table.length),w.cell? ⟨b,off+j,none⟩=some (.int .i64 c.table[j])):=hbo;have HRO:Hid (0<c.rows.length->∃ b off,ra=some ⟨b,off,none⟩/\b<w.heap.size/\∀ j (h:j<c.rows.length),∃ u,w.cell? ⟨b,off+j,none⟩=some u/\MInts w u c.rows[j]):=hro;have c0:W.cell? ⟨w.heap.size,0,none⟩=some (.int .i64 8):=by rw [<-hW];simp
  have c1:W.cell? ⟨w.heap.size,1,none⟩=some (.int .i64 c.op):=by rw [<-hW];simp
  have c2:W.cell? ⟨w.heap.size,2,none⟩=some (.slice ta c.terms.length tc):=by rw [<-hW];simp
  have c3:W.cell? ⟨w.heap.size,3,none⟩=some (.int .i64 c.k):=by rw [<-hW];simp
  have c4:W.cell? ⟨w.heap.size,4,none⟩=some (.int .i64 c.v):=by rw [<-hW];simp
  have c5:W.cell? ⟨w.heap.size,5,none⟩=some (.int .i64 c.x):=by rw [<-hW];simp
  have c6:W.cell? ⟨w.heap.size,6,none⟩=some (.int .i64 c.y):=by rw [<-hW];simp
  have c7:W.cell? ⟨w.heap.size,7,none⟩=some (.slice xa c.xs.length xc):=by rw [<-hW];simp
  have c8:W.cell? ⟨w.heap.size,8,none⟩=some (.slice ba c.table.length bc):=by rw [<-hW];simp
  have c9:W.cell? ⟨w.heap.size,9,none⟩=some (.slice ra c.rows.length rc):=by rw [<-hW];simp
  have hsz:W.heap.size=w.heap.size+1:=by rw [<-hW];simp
  have hsN:w.heap.size<W.heap.size:=by omega
  have HCC:Hid (∀ w',Below W.heap.size W w'->w'.cell? ⟨w.heap.size,0,none⟩=some (.int .i64 8)/\w'.cell? ⟨w.heap.size,1,none⟩=some (.int .i64 c.op)/\w'.cell? ⟨w.heap.size,2,none⟩=some (.slice ta c.terms.length tc)/\w'.cell? ⟨w.heap.size,3,none⟩=some (.int .i64 c.k)/\w'.cell? ⟨w.heap.size,4,none⟩=some (.int .i64 c.v)/\w'.cell? ⟨w.heap.size,5,none⟩=some (.int .i64 c.x)/\w'.cell? ⟨w.heap.size,6,none⟩=some (.int .i64 c.y)/\w'.cell? ⟨w.heap.size,7,none⟩=some (.slice xa c.xs.length xc)/\w'.cell? ⟨w.heap.size,8,none⟩=some (.slice ba c.table.length bc)/\w'.cell? ⟨w.heap.size,9,none⟩=some (.slice ra c.rows.length rc)):=fun w' hb=>⟨(hb.cell (p:=⟨w.heap.size,0,none⟩) hsN).trans c0,(hb.cell (p:=⟨w.heap.size,1,none⟩) hsN).trans c1,(hb.cell (p:=⟨w.heap.size,2,none⟩) hsN).trans c2,(hb.cell (p:=⟨w.heap.size,3,none⟩) hsN).trans c3,(hb.cell (p:=⟨w.heap.size,4,none⟩) hsN).trans c4,(hb.cell (p:=⟨w.heap.size,5,none⟩) hsN).trans c5,(hb.cell (p:=⟨w.heap.size,6,none⟩) hsN).trans c6,(hb.cell (p:=⟨w.heap.size,7,none⟩) hsN).trans c7,(hb.cell (p:=⟨w.heap.size,8,none⟩) hsN).trans c8,(hb.cell (p:=⟨w.heap.size,9,none⟩) hsN).trans c9⟩
  have H85:Hid (∀ w',CnAt w' c (.slice ta c.terms.length tc) (.slice xa c.xs.length xc) (.slice ba c.table.length bc) (.slice ra c.rows.length rc)->Calls Tryz.prog 157 #[cnVal c (.slice ta c.terms.length tc) (.slice xa c.xs.length xc) (.slice ba c.table.length bc) (.slice ra c.rows.length rc)] w' fun e w''=>e=.returned (.bool (Md.plainBad c||Md.listBad c))/\Below w'.heap.size w' w''):=hfg
  have H87:Hid (∀ w',CnAt w' c (.slice ta c.terms.length tc) (.slice xa c.xs.length xc) (.slice ba c.table.length bc) (.slice ra c.rows.length rc)->Calls Tryz.prog 159 #[cnVal c (.slice ta c.terms.length tc) (.slice xa c.xs.length xc) (.slice ba c.table.length bc) (.slice ra c.rows.length rc)] w' fun e w''=>e=.returned (.bool (!(decide (8<c.xs.length)||Md.fewB c.rows.length 64||!(c.rows.all fun r=>r.length==c.xs.length))))/\Below w'.heap.size w' w''):=fun w' h'=>rowsOk_any c _ _ _ _ w' h'
  have H88:Hid (∀ w',CnAt w' c (.slice ta c.terms.length tc) (.slice xa c.xs.length xc) (.slice ba c.table.length bc) (.slice ra c.rows.length rc)->Calls Tryz.prog 160 #[cnVal c (.slice ta c.terms.length tc) (.slice xa c.xs.length xc) (.slice ba c.table.length bc) (.slice ra c.rows.length rc),.int .i64 n] w' fun e w''=>e=.returned (.bool (Md.plB n c.x&&Md.plB n c.y&&c.xs.all (Md.plB n)))/\Below w'.heap.size w' w''):=fun w' h'=>places_any c _ _ _ _ n w' h'
  clear hfg;unfold cnVal at H85 H87 H88;rw [hk] at H85 H87 H88;unfold cnVal;clear h hxo hbo hro hbW hsz;have hkr:Hid (1<=c.kind/\c.kind<=9):=by rw [hk];exact ⟨by decide,by decide⟩
  have hkb:Hid (Md.kindBad c.kind c.op=false):=kind_ok' hkr.out (fun h=>by rw [hk] at h;exact absurd h.1 (by decide));go_enter Tryz.func90,Tryz.ntmps90;go_wp2_with fail
  refine mcalls_at (H85.out _ HC.out) (by with_reducible rfl) (by with_reducible rfl) ?_;rintro e w1 ⟨rfl,hb1⟩;have HB1:Hid (Below W.heap.size W w1):=hb1
  cases hfb:(Md.plainBad c||Md.listBad c)
  rotate_left
  · have hres:Hid (Md.fault c n=48):=by show _=_;exact fault48' hkb.out hfb
    go_wp2_with fail
    go_ret;exact ⟨mret_int hres.out.symm,HB.out.trans (Below.mono hb1 HB.out.size)⟩
  have HFB:Hid ((Md.plainBad c||Md.listBad c)=false):=hfb;clear hfb c0 c1 c2 c3 c4 c5 c6 c7 c8 c9;obtain ⟨a0,a1,a2,a3,a4,a5,a6,a7,a8,a9⟩:=HCC.out _ hb1;clear hb1;go_wp2_with (first | (go_at_call 158;refine (lists_any _ _).mono ?_;rintro e w' ⟨rfl,hww⟩;rw [hww,show Md.fXs 8=true from rfl]));refine (many_any c.xs.length _).mono ?_;rintro e w' ⟨rfl,hww⟩;rw [hww];clear hww
  cases hm1:Md.fewB c.xs.length 64
  rotate_left
  · have hres:Hid (Md.fault c n=47):=by show _=_;exact fault47' hkb.out HFB.out (many8 hk (.inl hm1))
    go_wp2_with fail
    go_ret;exact ⟨mret_int hres.out.symm,HB.out.trans (Below.mono HB1.out HB.out.size)⟩
  go_wp2_with (first | (go_at_call 158;refine (lists_any _ _).mono ?_;rintro e w' ⟨rfl,hww⟩;rw [hww,show Md.fXs 8=true from rfl]));refine mcalls_at (H87.out _ (HC.out.below HB1.out)) (by with_reducible rfl) (by with_reducible rfl) ?_;rintro e w2 ⟨rfl,hb2⟩;have HB2:Hid (Below W.heap.size W w2):=HB1.out.trans (hb2.mono HB1.out.size);clear hb2
  cases hm2:(decide (8<c.xs.length)||Md.fewB c.rows.length 64||!(c.rows.all fun r=>r.length==c.xs.length))
  rotate_left
  · have hres:Hid (Md.fault c n=47):=by show _=_;exact fault47' hkb.out HFB.out (many8 hk (.inr hm2))
    go_wp2_with fail
    go_ret;exact ⟨mret_int hres.out.symm,HB.out.trans (Below.mono HB2.out HB.out.size)⟩
  have hmb:Hid (Md.manyBad c=false):=many8f hk hm1 hm2;clear HB1 a0 a1 a2 a3 a4 a5 a6 a7 a8 a9 hm1 hm2;obtain ⟨a0,a1,a2,a3,a4,a5,a6,a7,a8,a9⟩:=HCC.out _ HB2.out;have HB1:Hid (Below W.heap.size W w2):=HB2.out;go_wp2_with (first | (go_at_call 158;refine (lists_any _ _).mono ?_;rintro e w' ⟨rfl,hww⟩;rw [hww,show Md.fXs 8=true from rfl]));refine (terms_any _ c.terms n _ (HC.out.below HB1.out).t).mono ?_;rintro e w' ⟨rfl,hww⟩;rw [hww];clear hww;obtain ⟨r,hr⟩:∃ r,termsE c.terms n=r:=⟨_,rfl⟩;rw [hr];have HRE:Hid (termsE c.terms n=r):=hr;clear hr;go_wp2_with fail
  refine mcalls_at (H88.out _ (HC.out.below HB1.out)) (by with_reducible rfl) (by with_reducible rfl) ?_;rintro e w3 ⟨rfl,hb3⟩;have HB3:Hid (Below W.heap.size W w3):=HB1.out.trans (hb3.mono HB1.out.size);clear hb3 a0 a1 a2 a3 a4 a5 a6 a7 a8 a9;obtain ⟨a0,a1,a2,a3,a4,a5,a6,a7,a8,a9⟩:=HCC.out _ HB3.out
  cases hps:(Md.plB n c.x&&Md.plB n c.y&&c.xs.all (Md.plB n))
  · have hres:Hid (Md.fault c n=44):=by show _=_;exact fault44' hkb.out HFB.out hmb.out (pl1 hps)
    go_wp2_with fail
    go_ret;exact ⟨mret_int hres.out.symm,HB.out.trans (Below.mono HB3.out HB.out.size)⟩
  rcases termsE_is c.terms n with ⟨h1,h2⟩ | ⟨h1,h2,h3⟩ | ⟨h1,h2,h3⟩
  · obtain rfl:r=44:=HRE.out.symm.trans h1
    have hres:Hid (Md.fault c n=44):=by show _=_;exact fault44' hkb.out HFB.out hmb.out (pl2 h2)
    go_wp2_with fail
    go_ret;exact ⟨mret_int hres.out.symm,HB.out.trans (Below.mono HB3.out HB.out.size)⟩
  · obtain rfl:r=45:=HRE.out.symm.trans h1
    have hres:Hid (Md.fault c n=45):=by show _=_;exact fault45' hkb.out HFB.out hmb.out (pl3 hps h2) h3
    go_wp2_with fail
    go_ret;exact ⟨mret_int hres.out.symm,HB.out.trans (Below.mono HB3.out HB.out.size)⟩
  · obtain rfl:r=0:=HRE.out.symm.trans h1
    have Hpc:Hid (Md.placesB c n=true/\Md.coefsB c.terms=true):=⟨pl3 hps h2,h3⟩;clear h1 h2 h3 hps
    cases hnk:Md.numB c.k
    · have hres:Hid (Md.fault c n=46):=by show _=_;exact fault46' hkb.out HFB.out hmb.out Hpc.out.1 Hpc.out.2 (by simp [Md.numsB,hnk])
      go_wp2_with (go_at_call 161;refine (number_any _ _).mono ?_;rintro e w' ⟨rfl,hww⟩;rw [hww]);go_ret;exact ⟨mret_int hres.out.symm,HB.out.trans (Below.mono HB3.out HB.out.size)⟩
    cases hnv:Md.numB c.v
    · have hres:Hid (Md.fault c n=46):=by show _=_;exact fault46' hkb.out HFB.out hmb.out Hpc.out.1 Hpc.out.2 (by simp [Md.numsB,hnv])
      go_wp2_with (go_at_call 161;refine (number_any _ _).mono ?_;rintro e w' ⟨rfl,hww⟩;rw [hww]);go_ret;exact ⟨mret_int hres.out.symm,HB.out.trans (Below.mono HB3.out HB.out.size)⟩
    go_wp2_with (go_at_call 161;refine (number_any _ _).mono ?_;rintro e w' ⟨rfl,hww⟩;rw [hww]);go_loop [7] (fun iv=>∃ k:Nat,iv=.int .i64 (k:Int)/\k<=c.rows.length/\Hid ((c.rows.take k).all (fun r=>r.all Md.numB)=true)) (fun iv=>c.rows.length-(intOf iv).toNat)
    case atStart=>exact ⟨0,rfl,Nat.zero_le _,(show _=_ by simp)⟩
    case round=>
      obtain ⟨k,rfl,hkk,hA⟩:=hrel
      by_cases hlt:k<c.rows.length
      · obtain ⟨b,off,rfl,hb,hc⟩:=HRO.out (by omega)
        obtain ⟨u,hcell,hu⟩:=hc k hlt;have hcw:=((HB.out.trans (HB3.out.mono HB.out.size)).cell (p:=⟨b,off+k,none⟩) hb).trans hcell;obtain ⟨ua,uc,rfl,hum,huo⟩:=hu;unfold maxLen at hum;have HUO:Hid (0<(c.rows[k]).length->∃ b off,ua=some ⟨b,off,none⟩/\b<w.heap.size/\∀ j (h:j<(c.rows[k]).length),w.cell? ⟨b,off+j,none⟩=some (.int .i64 (c.rows[k])[j])):=huo;have hkI:(k:Int)<(c.rows.length:Int):=by omega
        clear hc hcell huo;go_wp2_with fail
        go_loop [8] (fun jv=>∃ j:Nat,jv=.int .i64 (j:Int)/\j<=(c.rows[k]).length/\Hid (((c.rows[k]).take j).all Md.numB=true)) (fun jv=>(c.rows[k]).length-(intOf jv).toNat)
        case atStart=>exact ⟨0,rfl,Nat.zero_le _,(show _=_ by simp)⟩
        case round=>
          obtain ⟨j,rfl,hj,hJ⟩:=hrel
          by_cases hjl:j<(c.rows[k]).length
          · obtain ⟨bu,ou,rfl,hbu,hcu⟩:=HUO.out (by omega)
            have hcj:=((HB.out.trans (HB3.out.mono HB.out.size)).cell (p:=⟨bu,ou+j,none⟩) hbu).trans (hcu j hjl);have hjI:(j:Int)<((c.rows[k]).length:Int):=by omega
            clear hcu
            cases hp:Md.numB (c.rows[k])[j]
            · have hres:Hid (Md.fault c n=46):=fault46' hkb.out HFB.out hmb.out Hpc.out.1 Hpc.out.2 (nums_row (Md.all_stop hlt (Md.all_stop hjl hp)))
              generalize (c.rows[k])[j]=y at *
              go_wp2_with (go_at_call 161;refine (number_any _ _).mono ?_;rintro e w' ⟨rfl,hww⟩;rw [hww]);go_ret;exact ⟨mret_int hres.out.symm,HB.out.trans (Below.mono HB3.out HB.out.size)⟩
            · have hnx:Hid (((c.rows[k]).take (j+1)).all Md.numB=true):=Md.all_next hJ.out hjl hp
              generalize (c.rows[k])[j]=y at *
              go_wp2_with (go_at_call 161;refine (number_any _ _).mono ?_;rintro e w' ⟨rfl,hww⟩;rw [hww]);go_round
              case rel=>exact ⟨j+1,by go_num,by omega,hnx⟩
              case measure=>simp [intOf];omega
          · have hjI:¬ (j:Int)<((c.rows[k]).length:Int):=by omega
            have hnx:Hid ((c.rows.take (k+1)).all (fun r=>r.all Md.numB)=true):=Md.all_next hA.out hlt (Md.all_done hJ.out (by omega));go_wp2_with fail
            go_round
            case rel=>exact ⟨k+1,by go_num,by omega,hnx⟩
            case measure=>simp [intOf];omega
      · have hkI:¬ (k:Int)<(c.rows.length:Int):=by omega
        have hrn:Hid (c.rows.all (fun r=>r.all Md.numB)=true):=Md.all_done hA.out (by omega);go_wp2_with fail
        go_loop [9] (fun iv=>∃ k:Nat,iv=.int .i64 (k:Int)/\k<=c.table.length/\Hid ((c.table.take k).all Md.numB=true)) (fun iv=>c.table.length-(intOf iv).toNat)
        case atStart=>exact ⟨0,rfl,Nat.zero_le _,(show _=_ by simp)⟩
        case round=>
          obtain ⟨j,rfl,hj,hJ⟩:=hrel
          by_cases hjl:j<c.table.length
          · obtain ⟨bu,ou,rfl,hbu,hcu⟩:=HBO.out (by omega)
            have hcj:=((HB.out.trans (HB3.out.mono HB.out.size)).cell (p:=⟨bu,ou+j,none⟩) hbu).trans (hcu j hjl);have hjI:(j:Int)<(c.table.length:Int):=by omega
            clear hcu
            cases hp:Md.numB c.table[j]
            · have hres:Hid (Md.fault c n=46):=fault46' hkb.out HFB.out hmb.out Hpc.out.1 Hpc.out.2 (nums_tab (Md.all_stop hjl hp))
              generalize c.table[j]=y at *
              go_wp2_with (go_at_call 161;refine (number_any _ _).mono ?_;rintro e w' ⟨rfl,hww⟩;rw [hww]);go_ret;exact ⟨mret_int hres.out.symm,HB.out.trans (Below.mono HB3.out HB.out.size)⟩
            · have hnx:Hid ((c.table.take (j+1)).all Md.numB=true):=Md.all_next hJ.out hjl hp
              generalize c.table[j]=y at *
              go_wp2_with (go_at_call 161;refine (number_any _ _).mono ?_;rintro e w' ⟨rfl,hww⟩;rw [hww]);go_round
              case rel=>exact ⟨j+1,by go_num,by omega,hnx⟩
              case measure=>simp [intOf];omega
          · have hjI:¬ (j:Int)<(c.table.length:Int):=by omega
            have hres:Hid (Md.fault c n=0):=fault0' hkb.out HFB.out hmb.out Hpc.out.1 Hpc.out.2 (by simp [Md.numsB,hnk,hnv,hrn.out,Md.all_done hJ.out (show c.table.length<=j by omega)]);go_wp2_with fail
            go_ret;exact ⟨mret_int hres.out.symm,HB.out.trans (Below.mono HB3.out HB.out.size)⟩
end Go.Proofs.YtjgghimjnbjlbaaGreatDoor.Doc

namespace Go.Proofs.YtjgghimjnbjlbaaGreatDoor.Doc
open Go.RowKit
set_option maxRecDepth 10000
set_option maxHeartbeats 8000000
theorem refCon_9 (c:Md.Cn) (vt vx vb vr:Value) (n:Int) (w:World) (h:CnAt w c vt vx vb vr) (hk:c.kind=9) (hfg:∀ w',CnAt w' c vt vx vb vr->Calls Tryz.prog 157 #[cnVal c vt vx vb vr] w' fun e w''=>e=.returned (.bool (Md.plainBad c||Md.listBad c))/\Below w'.heap.size w' w''):Calls Tryz.prog 90 #[cnVal c vt vx vb vr,.int .i64 n] w fun e w'=>e=.returned (.int .i64 (Md.fault c n))/\Below w.heap.size w w':=by
  obtain ⟨ta,tc,rfl,_⟩:=id h.t;obtain ⟨xa,xc,rfl,hxm,hxo⟩:=id h.x;obtain ⟨ba,bc,rfl,hbm,hbo⟩:=id h.b;obtain ⟨ra,rc,rfl,hrm,hro⟩:=id h.r;unfold maxLen at hxm hbm hrm;obtain ⟨W,hW⟩:∃ W,w.alloc (.cells #[.int .i64 9,.int .i64 c.op,.slice ta c.terms.length tc,.int .i64 c.k,.int .i64 c.v,.int .i64 c.x,.int .i64 c.y,.slice xa c.xs.length xc,.slice ba c.table.length bc,.slice ra c.rows.length rc] 51)=W:=⟨_,rfl⟩;have hbW:Below w.heap.size w W:=by rw [<-hW];exact (Below.refl _ _).alloc (Nat.le_refl _) _
  have HB:Hid (Below w.heap.size w W):=hbW;have HC:Hid (CnAt W c (.slice ta c.terms.length tc) (.slice xa c.xs.length xc) (.slice ba c.table.length bc) (.slice ra c.rows.length rc)):=h.below hbW;have HXO:Hid (0<c.xs.length->∃ b off,xa=some ⟨b,off,none⟩/\b<w.heap.size/\∀ j (h:j<c.xs.length),w.cell? ⟨b,off+j,none⟩=some (.int .i64 c.xs[j])):=hxo;have HBO:Hid (0<c.table.length->∃ b off,ba=some ⟨b,off,none⟩/\b<w.heap.size/\∀ j (h:j<c.table.length),w.cell? ⟨b,off+j,none⟩=some (.int .i64 c.table[j])):=hbo;have HRO:Hid (0<c.rows.length->∃ b off,ra=some ⟨b,off,none⟩/\b<w.heap.size/\∀ j (h:j<c.rows.length),∃ u,w.cell? ⟨b,off+j,none⟩=some u/\MInts w u c.rows[j]):=hro;have c0:W.cell? ⟨w.heap.size,0,none⟩=some (.int .i64 9):=by rw [<-hW];simp
  have c1:W.cell? ⟨w.heap.size,1,none⟩=some (.int .i64 c.op):=by rw [<-hW];simp
  have c2:W.cell? ⟨w.heap.size,2,none⟩=some (.slice ta c.terms.length tc):=by rw [<-hW];simp
  have c3:W.cell? ⟨w.heap.size,3,none⟩=some (.int .i64 c.k):=by rw [<-hW];simp
  have c4:W.cell? ⟨w.heap.size,4,none⟩=some (.int .i64 c.v):=by rw [<-hW];simp
  have c5:W.cell? ⟨w.heap.size,5,none⟩=some (.int .i64 c.x):=by rw [<-hW];simp
  have c6:W.cell? ⟨w.heap.size,6,none⟩=some (.int .i64 c.y):=by rw [<-hW];simp
  have c7:W.cell? ⟨w.heap.size,7,none⟩=some (.slice xa c.xs.length xc):=by rw [<-hW];simp
  have c8:W.cell? ⟨w.heap.size,8,none⟩=some (.slice ba c.table.length bc):=by rw [<-hW];simp
  have c9:W.cell? ⟨w.heap.size,9,none⟩=some (.slice ra c.rows.length rc):=by rw [<-hW];simp
  have hsz:W.heap.size=w.heap.size+1:=by rw [<-hW];simp
  have hsN:w.heap.size<W.heap.size:=by omega
  have HCC:Hid (∀ w',Below W.heap.size W w'->w'.cell? ⟨w.heap.size,0,none⟩=some (.int .i64 9)/\w'.cell? ⟨w.heap.size,1,none⟩=some (.int .i64 c.op)/\w'.cell? ⟨w.heap.size,2,none⟩=some (.slice ta c.terms.length tc)/\w'.cell? ⟨w.heap.size,3,none⟩=some (.int .i64 c.k)/\w'.cell? ⟨w.heap.size,4,none⟩=some (.int .i64 c.v)/\w'.cell? ⟨w.heap.size,5,none⟩=some (.int .i64 c.x)/\w'.cell? ⟨w.heap.size,6,none⟩=some (.int .i64 c.y)/\w'.cell? ⟨w.heap.size,7,none⟩=some (.slice xa c.xs.length xc)/\w'.cell? ⟨w.heap.size,8,none⟩=some (.slice ba c.table.length bc)/\w'.cell? ⟨w.heap.size,9,none⟩=some (.slice ra c.rows.length rc)):=fun w' hb=>⟨(hb.cell (p:=⟨w.heap.size,0,none⟩) hsN).trans c0,(hb.cell (p:=⟨w.heap.size,1,none⟩) hsN).trans c1,(hb.cell (p:=⟨w.heap.size,2,none⟩) hsN).trans c2,(hb.cell (p:=⟨w.heap.size,3,none⟩) hsN).trans c3,(hb.cell (p:=⟨w.heap.size,4,none⟩) hsN).trans c4,(hb.cell (p:=⟨w.heap.size,5,none⟩) hsN).trans c5,(hb.cell (p:=⟨w.heap.size,6,none⟩) hsN).trans c6,(hb.cell (p:=⟨w.heap.size,7,none⟩) hsN).trans c7,(hb.cell (p:=⟨w.heap.size,8,none⟩) hsN).trans c8,(hb.cell (p:=⟨w.heap.size,9,none⟩) hsN).trans c9⟩
  have H85:Hid (∀ w',CnAt w' c (.slice ta c.terms.length tc) (.slice xa c.xs.length xc) (.slice ba c.table.length bc) (.slice ra c.rows.length rc)->Calls Tryz.prog 157 #[cnVal c (.slice ta c.terms.length tc) (.slice xa c.xs.length xc) (.slice ba c.table.length bc) (.slice ra c.rows.length rc)] w' fun e w''=>e=.returned (.bool (Md.plainBad c||Md.listBad c))/\Below w'.heap.size w' w''):=hfg
  have H87:Hid (∀ w',CnAt w' c (.slice ta c.terms.length tc) (.slice xa c.xs.length xc) (.slice ba c.table.length bc) (.slice ra c.rows.length rc)->Calls Tryz.prog 159 #[cnVal c (.slice ta c.terms.length tc) (.slice xa c.xs.length xc) (.slice ba c.table.length bc) (.slice ra c.rows.length rc)] w' fun e w''=>e=.returned (.bool (!(decide (8<c.xs.length)||Md.fewB c.rows.length 64||!(c.rows.all fun r=>r.length==c.xs.length))))/\Below w'.heap.size w' w''):=fun w' h'=>rowsOk_any c _ _ _ _ w' h'
  have H88:Hid (∀ w',CnAt w' c (.slice ta c.terms.length tc) (.slice xa c.xs.length xc) (.slice ba c.table.length bc) (.slice ra c.rows.length rc)->Calls Tryz.prog 160 #[cnVal c (.slice ta c.terms.length tc) (.slice xa c.xs.length xc) (.slice ba c.table.length bc) (.slice ra c.rows.length rc),.int .i64 n] w' fun e w''=>e=.returned (.bool (Md.plB n c.x&&Md.plB n c.y&&c.xs.all (Md.plB n)))/\Below w'.heap.size w' w''):=fun w' h'=>places_any c _ _ _ _ n w' h'
  clear hfg;unfold cnVal at H85 H87 H88;rw [hk] at H85 H87 H88;unfold cnVal;clear h hxo hbo hro hbW hsz;have hkr:Hid (1<=c.kind/\c.kind<=9):=by rw [hk];exact ⟨by decide,by decide⟩
  by_cases hop1:c.op<1
  · have hres:Hid (Md.fault c n=43):=fault43' (by rw [hk];rfl) (.inl hop1)
    go_enter Tryz.func90,Tryz.ntmps90;go_wp2_with fail
    go_ret;exact ⟨mret_int hres.out.symm,HB.out⟩
  by_cases hop2:3<c.op
  · have hres:Hid (Md.fault c n=43):=fault43' (by rw [hk];rfl) (.inr hop2)
    go_enter Tryz.func90,Tryz.ntmps90;go_wp2_with fail
    go_ret;exact ⟨mret_int hres.out.symm,HB.out⟩
  have hkb:Hid (Md.kindBad c.kind c.op=false):=kind_ok' hkr.out (fun h=>by omega);go_enter Tryz.func90,Tryz.ntmps90;go_wp2_with fail
  refine mcalls_at (H85.out _ HC.out) (by with_reducible rfl) (by with_reducible rfl) ?_;rintro e w1 ⟨rfl,hb1⟩;have HB1:Hid (Below W.heap.size W w1):=hb1
  cases hfb:(Md.plainBad c||Md.listBad c)
  rotate_left
  · have hres:Hid (Md.fault c n=48):=by show _=_;exact fault48' hkb.out hfb
    go_wp2_with fail
    go_ret;exact ⟨mret_int hres.out.symm,HB.out.trans (Below.mono hb1 HB.out.size)⟩
  have HFB:Hid ((Md.plainBad c||Md.listBad c)=false):=hfb;clear hfb c0 c1 c2 c3 c4 c5 c6 c7 c8 c9;obtain ⟨a0,a1,a2,a3,a4,a5,a6,a7,a8,a9⟩:=HCC.out _ hb1;clear hb1;have hrows:Hid (c.rows.all (fun r=>r.length==c.xs.length)=true):=rows_nil hk rfl HFB.out;go_wp2_with (first | (go_at_call 158;refine (lists_any _ _).mono ?_;rintro e w' ⟨rfl,hww⟩;rw [hww,show Md.fXs 9=true from rfl]));refine (many_any c.xs.length _).mono ?_;rintro e w' ⟨rfl,hww⟩;rw [hww];clear hww
  cases hm1:Md.fewB c.xs.length 64
  rotate_left
  · have hres:Hid (Md.fault c n=47):=by show _=_;exact fault47' hkb.out HFB.out (by simp [Md.manyBad,hk,Md.fXs,Md.mostXs,hm1])
    go_wp2_with fail
    go_ret;exact ⟨mret_int hres.out.symm,HB.out.trans (Below.mono HB1.out HB.out.size)⟩
  have hmb:Hid (Md.manyBad c=false):=by show _=_;simp [Md.manyBad,hk,Md.fTerms,Md.fXs,Md.fTable,Md.fRows,Md.mostXs,hm1,hrows.out]
  go_wp2_with (first | (go_at_call 158;refine (lists_any _ _).mono ?_;rintro e w' ⟨rfl,hww⟩;rw [hww,show Md.fXs 9=true from rfl]));refine (terms_any _ c.terms n _ (HC.out.below HB1.out).t).mono ?_;rintro e w' ⟨rfl,hww⟩;rw [hww];clear hww;obtain ⟨r,hr⟩:∃ r,termsE c.terms n=r:=⟨_,rfl⟩;rw [hr];have HRE:Hid (termsE c.terms n=r):=hr;clear hr;go_wp2_with fail
  refine mcalls_at (H88.out _ (HC.out.below HB1.out)) (by with_reducible rfl) (by with_reducible rfl) ?_;rintro e w3 ⟨rfl,hb3⟩;have HB3:Hid (Below W.heap.size W w3):=HB1.out.trans (hb3.mono HB1.out.size);clear hb3 a0 a1 a2 a3 a4 a5 a6 a7 a8 a9;obtain ⟨a0,a1,a2,a3,a4,a5,a6,a7,a8,a9⟩:=HCC.out _ HB3.out
  cases hps:(Md.plB n c.x&&Md.plB n c.y&&c.xs.all (Md.plB n))
  · have hres:Hid (Md.fault c n=44):=by show _=_;exact fault44' hkb.out HFB.out hmb.out (pl1 hps)
    go_wp2_with fail
    go_ret;exact ⟨mret_int hres.out.symm,HB.out.trans (Below.mono HB3.out HB.out.size)⟩
  rcases termsE_is c.terms n with ⟨h1,h2⟩ | ⟨h1,h2,h3⟩ | ⟨h1,h2,h3⟩
  · obtain rfl:r=44:=HRE.out.symm.trans h1
    have hres:Hid (Md.fault c n=44):=by show _=_;exact fault44' hkb.out HFB.out hmb.out (pl2 h2)
    go_wp2_with fail
    go_ret;exact ⟨mret_int hres.out.symm,HB.out.trans (Below.mono HB3.out HB.out.size)⟩
  · obtain rfl:r=45:=HRE.out.symm.trans h1
    have hres:Hid (Md.fault c n=45):=by show _=_;exact fault45' hkb.out HFB.out hmb.out (pl3 hps h2) h3
    go_wp2_with fail
    go_ret;exact ⟨mret_int hres.out.symm,HB.out.trans (Below.mono HB3.out HB.out.size)⟩
  · obtain rfl:r=0:=HRE.out.symm.trans h1
    have Hpc:Hid (Md.placesB c n=true/\Md.coefsB c.terms=true):=⟨pl3 hps h2,h3⟩;clear h1 h2 h3 hps
    cases hnk:Md.numB c.k
    · have hres:Hid (Md.fault c n=46):=by show _=_;exact fault46' hkb.out HFB.out hmb.out Hpc.out.1 Hpc.out.2 (by simp [Md.numsB,hnk])
      go_wp2_with (go_at_call 161;refine (number_any _ _).mono ?_;rintro e w' ⟨rfl,hww⟩;rw [hww]);go_ret;exact ⟨mret_int hres.out.symm,HB.out.trans (Below.mono HB3.out HB.out.size)⟩
    cases hnv:Md.numB c.v
    · have hres:Hid (Md.fault c n=46):=by show _=_;exact fault46' hkb.out HFB.out hmb.out Hpc.out.1 Hpc.out.2 (by simp [Md.numsB,hnv])
      go_wp2_with (go_at_call 161;refine (number_any _ _).mono ?_;rintro e w' ⟨rfl,hww⟩;rw [hww]);go_ret;exact ⟨mret_int hres.out.symm,HB.out.trans (Below.mono HB3.out HB.out.size)⟩
    go_wp2_with (go_at_call 161;refine (number_any _ _).mono ?_;rintro e w' ⟨rfl,hww⟩;rw [hww]);go_loop [7] (fun iv=>∃ k:Nat,iv=.int .i64 (k:Int)/\k<=c.rows.length/\Hid ((c.rows.take k).all (fun r=>r.all Md.numB)=true)) (fun iv=>c.rows.length-(intOf iv).toNat)
    case atStart=>exact ⟨0,rfl,Nat.zero_le _,(show _=_ by simp)⟩
    case round=>
      obtain ⟨k,rfl,hkk,hA⟩:=hrel
      by_cases hlt:k<c.rows.length
      · obtain ⟨b,off,rfl,hb,hc⟩:=HRO.out (by omega)
        obtain ⟨u,hcell,hu⟩:=hc k hlt;have hcw:=((HB.out.trans (HB3.out.mono HB.out.size)).cell (p:=⟨b,off+k,none⟩) hb).trans hcell;obtain ⟨ua,uc,rfl,hum,huo⟩:=hu;unfold maxLen at hum;have HUO:Hid (0<(c.rows[k]).length->∃ b off,ua=some ⟨b,off,none⟩/\b<w.heap.size/\∀ j (h:j<(c.rows[k]).length),w.cell? ⟨b,off+j,none⟩=some (.int .i64 (c.rows[k])[j])):=huo;have hkI:(k:Int)<(c.rows.length:Int):=by omega
        clear hc hcell huo;go_wp2_with fail
        go_loop [8] (fun jv=>∃ j:Nat,jv=.int .i64 (j:Int)/\j<=(c.rows[k]).length/\Hid (((c.rows[k]).take j).all Md.numB=true)) (fun jv=>(c.rows[k]).length-(intOf jv).toNat)
        case atStart=>exact ⟨0,rfl,Nat.zero_le _,(show _=_ by simp)⟩
        case round=>
          obtain ⟨j,rfl,hj,hJ⟩:=hrel
          by_cases hjl:j<(c.rows[k]).length
          · obtain ⟨bu,ou,rfl,hbu,hcu⟩:=HUO.out (by omega)
            have hcj:=((HB.out.trans (HB3.out.mono HB.out.size)).cell (p:=⟨bu,ou+j,none⟩) hbu).trans (hcu j hjl);have hjI:(j:Int)<((c.rows[k]).length:Int):=by omega
            clear hcu
            cases hp:Md.numB (c.rows[k])[j]
            · have hres:Hid (Md.fault c n=46):=fault46' hkb.out HFB.out hmb.out Hpc.out.1 Hpc.out.2 (nums_row (Md.all_stop hlt (Md.all_stop hjl hp)))
              generalize (c.rows[k])[j]=y at *
              go_wp2_with (go_at_call 161;refine (number_any _ _).mono ?_;rintro e w' ⟨rfl,hww⟩;rw [hww]);go_ret;exact ⟨mret_int hres.out.symm,HB.out.trans (Below.mono HB3.out HB.out.size)⟩
            · have hnx:Hid (((c.rows[k]).take (j+1)).all Md.numB=true):=Md.all_next hJ.out hjl hp
              generalize (c.rows[k])[j]=y at *
              go_wp2_with (go_at_call 161;refine (number_any _ _).mono ?_;rintro e w' ⟨rfl,hww⟩;rw [hww]);go_round
              case rel=>exact ⟨j+1,by go_num,by omega,hnx⟩
              case measure=>simp [intOf];omega
          · have hjI:¬ (j:Int)<((c.rows[k]).length:Int):=by omega
            have hnx:Hid ((c.rows.take (k+1)).all (fun r=>r.all Md.numB)=true):=Md.all_next hA.out hlt (Md.all_done hJ.out (by omega));go_wp2_with fail
            go_round
            case rel=>exact ⟨k+1,by go_num,by omega,hnx⟩
            case measure=>simp [intOf];omega
      · have hkI:¬ (k:Int)<(c.rows.length:Int):=by omega
        have hrn:Hid (c.rows.all (fun r=>r.all Md.numB)=true):=Md.all_done hA.out (by omega);go_wp2_with fail
        go_loop [9] (fun iv=>∃ k:Nat,iv=.int .i64 (k:Int)/\k<=c.table.length/\Hid ((c.table.take k).all Md.numB=true)) (fun iv=>c.table.length-(intOf iv).toNat)
        case atStart=>exact ⟨0,rfl,Nat.zero_le _,(show _=_ by simp)⟩
        case round=>
          obtain ⟨j,rfl,hj,hJ⟩:=hrel
          by_cases hjl:j<c.table.length
          · obtain ⟨bu,ou,rfl,hbu,hcu⟩:=HBO.out (by omega)
            have hcj:=((HB.out.trans (HB3.out.mono HB.out.size)).cell (p:=⟨bu,ou+j,none⟩) hbu).trans (hcu j hjl);have hjI:(j:Int)<(c.table.length:Int):=by omega
            clear hcu
            cases hp:Md.numB c.table[j]
            · have hres:Hid (Md.fault c n=46):=fault46' hkb.out HFB.out hmb.out Hpc.out.1 Hpc.out.2 (nums_tab (Md.all_stop hjl hp))
              generalize c.table[j]=y at *
              go_wp2_with (go_at_call 161;refine (number_any _ _).mono ?_;rintro e w' ⟨rfl,hww⟩;rw [hww]);go_ret;exact ⟨mret_int hres.out.symm,HB.out.trans (Below.mono HB3.out HB.out.size)⟩
            · have hnx:Hid ((c.table.take (j+1)).all Md.numB=true):=Md.all_next hJ.out hjl hp
              generalize c.table[j]=y at *
              go_wp2_with (go_at_call 161;refine (number_any _ _).mono ?_;rintro e w' ⟨rfl,hww⟩;rw [hww]);go_round
              case rel=>exact ⟨j+1,by go_num,by omega,hnx⟩
              case measure=>simp [intOf];omega
          · have hjI:¬ (j:Int)<(c.table.length:Int):=by omega
            have hres:Hid (Md.fault c n=0):=fault0' hkb.out HFB.out hmb.out Hpc.out.1 Hpc.out.2 (by simp [Md.numsB,hnk,hnv,hrn.out,Md.all_done hJ.out (show c.table.length<=j by omega)]);go_wp2_with fail
            go_ret;exact ⟨mret_int hres.out.symm,HB.out.trans (Below.mono HB3.out HB.out.size)⟩
end Go.Proofs.YtjgghimjnbjlbaaGreatDoor.Doc

namespace Go.Proofs.YtjgghimjnbjlbaaGreatDoor.Doc
open Go.RowKit
set_option maxRecDepth 10000
set_option maxHeartbeats 8000000
theorem fault_kind {c:Md.Cn} {n:Int} (h:c.kind<1∨9<c.kind):Md.fault c n=43:=by
  unfold Md.fault Md.kindBad;rw [decide_eq_true h];rfl
theorem refCon_0 (c:Md.Cn) (vt vx vb vr:Value) (n:Int) (w:World) (h:CnAt w c vt vx vb vr) (hk:c.kind<1∨9<c.kind):Calls Tryz.prog 90 #[cnVal c vt vx vb vr,.int .i64 n] w fun e w'=>e=.returned (.int .i64 (Md.fault c n))/\Below w.heap.size w w':=by
  have hres:Hid (Md.fault c n=43):=fault_kind hk;obtain ⟨ta,tc,rfl,_⟩:=h.t.form;obtain ⟨xa,xc,rfl,_⟩:=h.x.form;obtain ⟨ba,bc,rfl,_⟩:=h.b.form;obtain ⟨ra,rc,rfl,_⟩:=h.r.form;clear h;unfold cnVal;rcases hk with hk | hk
  · go_enter Tryz.func90,Tryz.ntmps90
    go_wp2_with fail
    go_ret;exact ⟨mret_int hres.out.symm,(Below.refl _ _).alloc (Nat.le_refl _) _⟩
  · have hk1:¬ c.kind<1:=by omega
    go_enter Tryz.func90,Tryz.ntmps90;go_wp2_with fail
    go_ret;exact ⟨mret_int hres.out.symm,(Below.refl _ _).alloc (Nat.le_refl _) _⟩
def ForeignOk:Prop:=∀ (c:Md.Cn) (vt vx vb vr:Value) (w:World),CnAt w c vt vx vb vr->1<=c.kind/\c.kind<=9->Calls Tryz.prog 157 #[cnVal c vt vx vb vr] w fun e w'=>e=.returned (.bool (Md.plainBad c||Md.listBad c))/\Below w.heap.size w w'
theorem kind_is {k:Int} (h1:1<=k) (h2:k<=9):k=1∨k=2∨k=3∨k=4∨k=5∨k=6∨k=7∨k=8∨k=9:=by omega
theorem refCon_any (HF:ForeignOk) (c:Md.Cn) (vt vx vb vr:Value) (n:Int) (w:World) (h:CnAt w c vt vx vb vr):Calls Tryz.prog 90 #[cnVal c vt vx vb vr,.int .i64 n] w fun e w'=>e=.returned (.int .i64 (Md.fault c n))/\Below w.heap.size w w':=by
  by_cases hk:1<=c.kind/\c.kind<=9
  · have hfg:∀ w',CnAt w' c vt vx vb vr->Calls Tryz.prog 157 #[cnVal c vt vx vb vr] w' fun e w''=>e=.returned (.bool (Md.plainBad c||Md.listBad c))/\Below w'.heap.size w' w'':=fun w' h'=>HF c vt vx vb vr w' h' hk
    rcases kind_is hk.1 hk.2 with k | k | k | k | k | k | k | k | k
    · exact refCon_1 c vt vx vb vr n w h k hfg
    · exact refCon_2 c vt vx vb vr n w h k hfg
    · exact refCon_3 c vt vx vb vr n w h k hfg
    · exact refCon_4 c vt vx vb vr n w h k hfg
    · exact refCon_5 c vt vx vb vr n w h k hfg
    · exact refCon_6 c vt vx vb vr n w h k hfg
    · exact refCon_7 c vt vx vb vr n w h k hfg
    · exact refCon_8 c vt vx vb vr n w h k hfg
    · exact refCon_9 c vt vx vb vr n w h k hfg
  · exact refCon_0 c vt vx vb vr n w h (by omega)
end Go.Proofs.YtjgghimjnbjlbaaGreatDoor.Doc
