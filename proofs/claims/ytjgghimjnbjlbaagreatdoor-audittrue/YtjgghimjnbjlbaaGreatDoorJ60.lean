/-
  Put together: DcRefCon1, DcRefCon2, DcRefCon3, DcRefCon4, DcRefCon5, DcRefCon6, DcRefCon7, DcRefCon8, DcRefCon9, DcRefAny.
-/
import Derived.Test.YtjgghimjnbjlbaaGreatDoorJ04
import Derived.Test.YtjgghimjnbjlbaaGreatDoorJ08
namespace Go.Proofs.YtjgghimjnbjlbaaGreatDoor.Doc
open Go.RowKit
set_option maxRecDepth 10000
set_option maxHeartbeats 8000000
theorem y2v (c:Md.Cn) (vt vx vb vr:Value) (n:Int) (w:World) (h:CnAt w c vt vx vb vr) (hk:c.kind=1) (hfg:∀ w',CnAt w' c vt vx vb vr->Calls Tryz.prog 157 #[yh c vt vx vb vr] w' fun e w''=>e=.returned (.bool (Md.plainBad c||Md.listBad c))/\Below w'.heap.size w' w''):Calls Tryz.prog 90 #[yh c vt vx vb vr,.int .i64 n] w fun e w'=>e=.returned (.int .i64 (Md.fault c n))/\Below w.heap.size w w':=by
  have H87:=hid (xd c vt vx vb vr);have H88:=hid (xb c vt vx vb vr n);obtain ⟨ta,tc,rfl,_⟩:=id h.t;obtain ⟨xa,xc,rfl,hxm,hxo⟩:=id h.x;obtain ⟨ba,bc,rfl,hbm,hbo⟩:=id h.b;obtain ⟨ra,rc,rfl,hrm,hro⟩:=id h.r;unfold maxLen at hxm hbm hrm;obtain ⟨W,hW,hbW,c0,c1,c2,c3,c4,c5,c6,c7,c8,c9,hsN,HCC⟩:=yE 1 c.op c.k c.v c.x c.y (.slice ta c.terms.length tc) (.slice xa c.xs.length xc) (.slice ba c.table.length bc) (.slice ra c.rows.length rc) w;have HB:=hid hbW;have HC:=hid (h.below hbW);have HXO:=hid hxo;have HBO:=hid hbo;have HRO:=hid hro;have H85:=hid hfg;clear hfg;unfold yh at H85 H87 H88;rw [hk] at H85 H87 H88;unfold yh;clear h hxo hbo hro hbW;have hkr:Hid (1<=c.kind/\c.kind<=9):=by rw [hk];exact ⟨by decide,by decide⟩
  by_cases hop1:c.op<1
  · have hres:Hid (Md.fault c n=43):=YG (by rw [hk];rfl) (.inl hop1)
    go_enter Tryz.func90,Tryz.ntmps90;go_wp2_with fail
    go_ret;exact ⟨yi hres.out.symm,HB.out⟩
  by_cases hop2:3<c.op
  · have hres:Hid (Md.fault c n=43):=YG (by rw [hk];rfl) (.inr hop2)
    go_enter Tryz.func90,Tryz.ntmps90;go_wp2_with fail
    go_ret;exact ⟨yi hres.out.symm,HB.out⟩
  have hkb:Hid (Md.kindBad c.kind c.op=false):=xe hkr.out (fun h=>by omega);go_enter Tryz.func90,Tryz.ntmps90;go_wp2_with fail
  refine mcA (H85.out _ HC.out) ?_;rintro e w1 ⟨rfl,hb1⟩;have HB1:Hid (Below W.heap.size W w1):=hb1
  cases hfb:(Md.plainBad c||Md.listBad c)
  rotate_left
  · have hres:Hid (Md.fault c n=48):=by show _=_;exact xf hkb.out hfb
    go_wp2_with fail
    go_ret;exact ⟨yi hres.out.symm,HB.out.trans (Below.mono hb1 HB.out.size)⟩
  have HFB:Hid ((Md.plainBad c||Md.listBad c)=false):=hfb;clear hfb c0 c1 c2 c3 c4 c5 c6 c7 c8 c9;obtain ⟨a0,a1,a2,a3,a4,a5,a6,a7,a8,a9⟩:=HCC.out _ hb1;clear hb1;have hrows:Hid (c.rows.all (fun r=>r.length==c.xs.length)=true):=xF hk rfl HFB.out;go_wp2_with (first | (go_at_call 158;refine (yH _ _).mono ?_;rintro e w' ⟨rfl,hww⟩;rw [hww,show Md.fXs 1=false from rfl]));refine (zB c.terms.length _).mono ?_;rintro e w' ⟨rfl,hww⟩;rw [hww];clear hww
  cases hm1:Md.fewB c.terms.length 64
  rotate_left
  · have hres:Hid (Md.fault c n=47):=by show _=_;exact xg hkb.out HFB.out (by simp [Md.manyBad,hk,Md.fTerms,hm1])
    go_wp2_with fail
    go_ret;exact ⟨yi hres.out.symm,HB.out.trans (Below.mono HB1.out HB.out.size)⟩
  have hmb:Hid (Md.manyBad c=false):=by show _=_;simp [Md.manyBad,hk,Md.fTerms,Md.fXs,Md.fTable,Md.fRows,hm1,hrows.out]
  go_wp2_with (first | (go_at_call 158;refine (yH _ _).mono ?_;rintro e w' ⟨rfl,hww⟩;rw [hww,show Md.fXs 1=false from rfl]));refine (zU _ c.terms n _ (HC.out.below HB1.out).t).mono ?_;rintro e w' ⟨rfl,hww⟩;rw [hww];clear hww;obtain ⟨r,hr⟩:∃ r,yx c.terms n=r:=⟨_,rfl⟩;rw [hr];have HRE:Hid (yx c.terms n=r):=hr;clear hr;go_wp2_with fail
  refine mcA (H88.out _ (HC.out.below HB1.out)) ?_;rintro e w3 ⟨rfl,hb3⟩;have HB3:Hid (Below W.heap.size W w3):=HB1.out.trans (hb3.mono HB1.out.size);clear hb3 a0 a1 a2 a3 a4 a5 a6 a7 a8 a9;obtain ⟨a0,a1,a2,a3,a4,a5,a6,a7,a8,a9⟩:=HCC.out _ HB3.out
  cases hps:(Md.plB n c.x&&Md.plB n c.y&&c.xs.all (Md.plB n))
  · have hres:Hid (Md.fault c n=44):=by show _=_;exact zg hkb.out HFB.out hmb.out (pl1 hps)
    go_wp2_with fail
    go_ret;exact ⟨yi hres.out.symm,HB.out.trans (Below.mono HB3.out HB.out.size)⟩
  rcases xh c.terms n with ⟨h1,h2⟩ | ⟨h1,h2,h3⟩ | ⟨h1,h2,h3⟩
  · obtain rfl:r=44:=HRE.out.symm.trans h1
    have hres:Hid (Md.fault c n=44):=by show _=_;exact zg hkb.out HFB.out hmb.out (pl2 h2)
    go_wp2_with fail
    go_ret;exact ⟨yi hres.out.symm,HB.out.trans (Below.mono HB3.out HB.out.size)⟩
  · obtain rfl:r=45:=HRE.out.symm.trans h1
    have hres:Hid (Md.fault c n=45):=by show _=_;exact xi hkb.out HFB.out hmb.out (pl3 hps h2) h3
    go_wp2_with fail
    go_ret;exact ⟨yi hres.out.symm,HB.out.trans (Below.mono HB3.out HB.out.size)⟩
  · obtain rfl:r=0:=HRE.out.symm.trans h1
    have Hpc:Hid (Md.placesB c n=true/\Md.coefsB c.terms=true):=⟨pl3 hps h2,h3⟩;clear h1 h2 h3 hps
    cases hnk:Md.numB c.k
    · have hres:Hid (Md.fault c n=46):=by show _=_;exact yy hkb.out HFB.out hmb.out Hpc.out.1 Hpc.out.2 (by simp [Md.numsB,hnk])
      go_wp2_with (go_at_call 161;refine (yn _ _).mono ?_;rintro e w' ⟨rfl,hww⟩;rw [hww]);go_ret;exact ⟨yi hres.out.symm,HB.out.trans (Below.mono HB3.out HB.out.size)⟩
    cases hnv:Md.numB c.v
    · have hres:Hid (Md.fault c n=46):=by show _=_;exact yy hkb.out HFB.out hmb.out Hpc.out.1 Hpc.out.2 (by simp [Md.numsB,hnv])
      go_wp2_with (go_at_call 161;refine (yn _ _).mono ?_;rintro e w' ⟨rfl,hww⟩;rw [hww]);go_ret;exact ⟨yi hres.out.symm,HB.out.trans (Below.mono HB3.out HB.out.size)⟩
    go_wp2_with (go_at_call 161;refine (yn _ _).mono ?_;rintro e w' ⟨rfl,hww⟩;rw [hww]);go_loop [7] (fun iv=>∃ k:Nat,iv=.int .i64 (k:Int)/\k<=c.rows.length/\Hid ((c.rows.take k).all (fun r=>r.all Md.numB)=true)) (fun iv=>c.rows.length-(intOf iv).toNat)
    case atStart=>exact ⟨0,rfl,Nat.zero_le _,(show _=_ by simp)⟩
    case round=>
      obtain ⟨k,rfl,hkk,hA⟩:=hrel
      by_cases hlt:k<c.rows.length
      · obtain ⟨b,off,rfl,hb,hc⟩:=HRO.out (by omega)
        obtain ⟨u,hcell,hu⟩:=hc k hlt;have hcw:=((HB.out.trans (HB3.out.mono HB.out.size)).cell (p:=⟨b,off+k,none⟩) hb).trans hcell;obtain ⟨ua,uc,rfl,hum,huo⟩:=hu;unfold maxLen at hum;have HUO:Hid (0<(c.rows[k]).length->∃ b off,ua=some ⟨b,off,none⟩/\b<w.heap.size/\∀ j (h:j<(c.rows[k]).length),w.cell? ⟨b,off+j,none⟩=some (.int .i64 (c.rows[k])[j])):=huo;have hkI:(k:Int)<(c.rows.length:Int):=by omega
        clear hc hcell huo;go_wp2_with fail
        go_loop [8] (fun jv=>∃ j:Nat,jv=.int .i64 (j:Int)/\j<=(c.rows[k]).length/\Hid (((c.rows[k]).take j).all Md.numB=true)) (fun jv=>(c.rows[k]).length-(intOf jv).toNat)
        case atStart=>exact ⟨0,rfl,Nat.zero_le _,(show _=_ by simp)⟩
        case round=>
          obtain ⟨j,rfl,hj,hJ⟩:=hrel
          by_cases hjl:j<(c.rows[k]).length
          · obtain ⟨bu,ou,rfl,hbu,hcu⟩:=HUO.out (by omega)
            have hcj:=((HB.out.trans (HB3.out.mono HB.out.size)).cell (p:=⟨bu,ou+j,none⟩) hbu).trans (hcu j hjl);have hjI:(j:Int)<((c.rows[k]).length:Int):=by omega
            clear hcu
            cases hp:Md.numB (c.rows[k])[j]
            · have hres:Hid (Md.fault c n=46):=yy hkb.out HFB.out hmb.out Hpc.out.1 Hpc.out.2 (xm (Md.all_stop hlt (Md.all_stop hjl hp)))
              generalize (c.rows[k])[j]=y at *
              go_wp2_with (go_at_call 161;refine (yn _ _).mono ?_;rintro e w' ⟨rfl,hww⟩;rw [hww]);go_ret;exact ⟨yi hres.out.symm,HB.out.trans (Below.mono HB3.out HB.out.size)⟩
            · have hnx:Hid (((c.rows[k]).take (j+1)).all Md.numB=true):=Md.all_next hJ.out hjl hp
              generalize (c.rows[k])[j]=y at *
              go_wp2_with (go_at_call 161;refine (yn _ _).mono ?_;rintro e w' ⟨rfl,hww⟩;rw [hww]);go_round
              case rel=>exact ⟨j+1,by go_num,by omega,hnx⟩
              case measure=>simp [intOf];omega
          · have hjI:¬ (j:Int)<((c.rows[k]).length:Int):=by omega
            have hnx:Hid ((c.rows.take (k+1)).all (fun r=>r.all Md.numB)=true):=Md.all_next hA.out hlt (Md.all_done hJ.out (by omega));go_wp2_with fail
            go_round
            case rel=>exact ⟨k+1,by go_num,by omega,hnx⟩
            case measure=>simp [intOf];omega
      · have hkI:¬ (k:Int)<(c.rows.length:Int):=by omega
        have hrn:Hid (c.rows.all (fun r=>r.all Md.numB)=true):=Md.all_done hA.out (by omega);go_wp2_with fail
        go_loop [9] (fun iv=>∃ k:Nat,iv=.int .i64 (k:Int)/\k<=c.table.length/\Hid ((c.table.take k).all Md.numB=true)) (fun iv=>c.table.length-(intOf iv).toNat)
        case atStart=>exact ⟨0,rfl,Nat.zero_le _,(show _=_ by simp)⟩
        case round=>
          obtain ⟨j,rfl,hj,hJ⟩:=hrel
          by_cases hjl:j<c.table.length
          · obtain ⟨bu,ou,rfl,hbu,hcu⟩:=HBO.out (by omega)
            have hcj:=((HB.out.trans (HB3.out.mono HB.out.size)).cell (p:=⟨bu,ou+j,none⟩) hbu).trans (hcu j hjl);have hjI:(j:Int)<(c.table.length:Int):=by omega
            clear hcu
            cases hp:Md.numB c.table[j]
            · have hres:Hid (Md.fault c n=46):=yy hkb.out HFB.out hmb.out Hpc.out.1 Hpc.out.2 (xn (Md.all_stop hjl hp))
              generalize c.table[j]=y at *
              go_wp2_with (go_at_call 161;refine (yn _ _).mono ?_;rintro e w' ⟨rfl,hww⟩;rw [hww]);go_ret;exact ⟨yi hres.out.symm,HB.out.trans (Below.mono HB3.out HB.out.size)⟩
            · have hnx:Hid ((c.table.take (j+1)).all Md.numB=true):=Md.all_next hJ.out hjl hp
              generalize c.table[j]=y at *
              go_wp2_with (go_at_call 161;refine (yn _ _).mono ?_;rintro e w' ⟨rfl,hww⟩;rw [hww]);go_round
              case rel=>exact ⟨j+1,by go_num,by omega,hnx⟩
              case measure=>simp [intOf];omega
          · have hjI:¬ (j:Int)<(c.table.length:Int):=by omega
            have hres:Hid (Md.fault c n=0):=xo hkb.out HFB.out hmb.out Hpc.out.1 Hpc.out.2 (by simp [Md.numsB,hnk,hnv,hrn.out,Md.all_done hJ.out (show c.table.length<=j by omega)]);go_wp2_with fail
            go_ret;exact ⟨yi hres.out.symm,HB.out.trans (Below.mono HB3.out HB.out.size)⟩
end Go.Proofs.YtjgghimjnbjlbaaGreatDoor.Doc

namespace Go.Proofs.YtjgghimjnbjlbaaGreatDoor.Doc
open Go.RowKit
set_option maxRecDepth 10000
set_option maxHeartbeats 8000000
theorem y2w (c:Md.Cn) (vt vx vb vr:Value) (n:Int) (w:World) (h:CnAt w c vt vx vb vr) (hk:c.kind=2) (hfg:∀ w',CnAt w' c vt vx vb vr->Calls Tryz.prog 157 #[yh c vt vx vb vr] w' fun e w''=>e=.returned (.bool (Md.plainBad c||Md.listBad c))/\Below w'.heap.size w' w''):Calls Tryz.prog 90 #[yh c vt vx vb vr,.int .i64 n] w fun e w'=>e=.returned (.int .i64 (Md.fault c n))/\Below w.heap.size w w':=by
  have H87:=hid (xd c vt vx vb vr);have H88:=hid (xb c vt vx vb vr n);obtain ⟨ta,tc,rfl,_⟩:=id h.t;obtain ⟨xa,xc,rfl,hxm,hxo⟩:=id h.x;obtain ⟨ba,bc,rfl,hbm,hbo⟩:=id h.b;obtain ⟨ra,rc,rfl,hrm,hro⟩:=id h.r;unfold maxLen at hxm hbm hrm;obtain ⟨W,hW,hbW,c0,c1,c2,c3,c4,c5,c6,c7,c8,c9,hsN,HCC⟩:=yE 2 c.op c.k c.v c.x c.y (.slice ta c.terms.length tc) (.slice xa c.xs.length xc) (.slice ba c.table.length bc) (.slice ra c.rows.length rc) w;have HB:=hid hbW;have HC:=hid (h.below hbW);have HXO:=hid hxo;have HBO:=hid hbo;have HRO:=hid hro;have H85:=hid hfg;clear hfg;unfold yh at H85 H87 H88;rw [hk] at H85 H87 H88;unfold yh;clear h hxo hbo hro hbW;have hkr:Hid (1<=c.kind/\c.kind<=9):=by rw [hk];exact ⟨by decide,by decide⟩
  have hkb:Hid (Md.kindBad c.kind c.op=false):=xe hkr.out (fun h=>by rw [hk] at h;exact absurd h.1 (by decide));go_enter Tryz.func90,Tryz.ntmps90;go_wp2_with fail
  refine mcA (H85.out _ HC.out) ?_;rintro e w1 ⟨rfl,hb1⟩;have HB1:Hid (Below W.heap.size W w1):=hb1
  cases hfb:(Md.plainBad c||Md.listBad c)
  rotate_left
  · have hres:Hid (Md.fault c n=48):=by show _=_;exact xf hkb.out hfb
    go_wp2_with fail
    go_ret;exact ⟨yi hres.out.symm,HB.out.trans (Below.mono hb1 HB.out.size)⟩
  have HFB:Hid ((Md.plainBad c||Md.listBad c)=false):=hfb;clear hfb c0 c1 c2 c3 c4 c5 c6 c7 c8 c9;obtain ⟨a0,a1,a2,a3,a4,a5,a6,a7,a8,a9⟩:=HCC.out _ hb1;clear hb1;have hrows:Hid (c.rows.all (fun r=>r.length==c.xs.length)=true):=xF hk rfl HFB.out;have hmb:Hid (Md.manyBad c=false):=by show _=_;simp [Md.manyBad,hk,Md.fTerms,Md.fXs,Md.fTable,Md.fRows,hrows.out]
  go_wp2_with (first | (go_at_call 158;refine (yH _ _).mono ?_;rintro e w' ⟨rfl,hww⟩;rw [hww,show Md.fXs 2=false from rfl]));refine (zU _ c.terms n _ (HC.out.below HB1.out).t).mono ?_;rintro e w' ⟨rfl,hww⟩;rw [hww];clear hww;obtain ⟨r,hr⟩:∃ r,yx c.terms n=r:=⟨_,rfl⟩;rw [hr];have HRE:Hid (yx c.terms n=r):=hr;clear hr;go_wp2_with fail
  refine mcA (H88.out _ (HC.out.below HB1.out)) ?_;rintro e w3 ⟨rfl,hb3⟩;have HB3:Hid (Below W.heap.size W w3):=HB1.out.trans (hb3.mono HB1.out.size);clear hb3 a0 a1 a2 a3 a4 a5 a6 a7 a8 a9;obtain ⟨a0,a1,a2,a3,a4,a5,a6,a7,a8,a9⟩:=HCC.out _ HB3.out
  cases hps:(Md.plB n c.x&&Md.plB n c.y&&c.xs.all (Md.plB n))
  · have hres:Hid (Md.fault c n=44):=by show _=_;exact zg hkb.out HFB.out hmb.out (pl1 hps)
    go_wp2_with fail
    go_ret;exact ⟨yi hres.out.symm,HB.out.trans (Below.mono HB3.out HB.out.size)⟩
  rcases xh c.terms n with ⟨h1,h2⟩ | ⟨h1,h2,h3⟩ | ⟨h1,h2,h3⟩
  · obtain rfl:r=44:=HRE.out.symm.trans h1
    have hres:Hid (Md.fault c n=44):=by show _=_;exact zg hkb.out HFB.out hmb.out (pl2 h2)
    go_wp2_with fail
    go_ret;exact ⟨yi hres.out.symm,HB.out.trans (Below.mono HB3.out HB.out.size)⟩
  · obtain rfl:r=45:=HRE.out.symm.trans h1
    have hres:Hid (Md.fault c n=45):=by show _=_;exact xi hkb.out HFB.out hmb.out (pl3 hps h2) h3
    go_wp2_with fail
    go_ret;exact ⟨yi hres.out.symm,HB.out.trans (Below.mono HB3.out HB.out.size)⟩
  · obtain rfl:r=0:=HRE.out.symm.trans h1
    have Hpc:Hid (Md.placesB c n=true/\Md.coefsB c.terms=true):=⟨pl3 hps h2,h3⟩;clear h1 h2 h3 hps
    cases hnk:Md.numB c.k
    · have hres:Hid (Md.fault c n=46):=by show _=_;exact yy hkb.out HFB.out hmb.out Hpc.out.1 Hpc.out.2 (by simp [Md.numsB,hnk])
      go_wp2_with (go_at_call 161;refine (yn _ _).mono ?_;rintro e w' ⟨rfl,hww⟩;rw [hww]);go_ret;exact ⟨yi hres.out.symm,HB.out.trans (Below.mono HB3.out HB.out.size)⟩
    cases hnv:Md.numB c.v
    · have hres:Hid (Md.fault c n=46):=by show _=_;exact yy hkb.out HFB.out hmb.out Hpc.out.1 Hpc.out.2 (by simp [Md.numsB,hnv])
      go_wp2_with (go_at_call 161;refine (yn _ _).mono ?_;rintro e w' ⟨rfl,hww⟩;rw [hww]);go_ret;exact ⟨yi hres.out.symm,HB.out.trans (Below.mono HB3.out HB.out.size)⟩
    go_wp2_with (go_at_call 161;refine (yn _ _).mono ?_;rintro e w' ⟨rfl,hww⟩;rw [hww]);go_loop [7] (fun iv=>∃ k:Nat,iv=.int .i64 (k:Int)/\k<=c.rows.length/\Hid ((c.rows.take k).all (fun r=>r.all Md.numB)=true)) (fun iv=>c.rows.length-(intOf iv).toNat)
    case atStart=>exact ⟨0,rfl,Nat.zero_le _,(show _=_ by simp)⟩
    case round=>
      obtain ⟨k,rfl,hkk,hA⟩:=hrel
      by_cases hlt:k<c.rows.length
      · obtain ⟨b,off,rfl,hb,hc⟩:=HRO.out (by omega)
        obtain ⟨u,hcell,hu⟩:=hc k hlt;have hcw:=((HB.out.trans (HB3.out.mono HB.out.size)).cell (p:=⟨b,off+k,none⟩) hb).trans hcell;obtain ⟨ua,uc,rfl,hum,huo⟩:=hu;unfold maxLen at hum;have HUO:Hid (0<(c.rows[k]).length->∃ b off,ua=some ⟨b,off,none⟩/\b<w.heap.size/\∀ j (h:j<(c.rows[k]).length),w.cell? ⟨b,off+j,none⟩=some (.int .i64 (c.rows[k])[j])):=huo;have hkI:(k:Int)<(c.rows.length:Int):=by omega
        clear hc hcell huo;go_wp2_with fail
        go_loop [8] (fun jv=>∃ j:Nat,jv=.int .i64 (j:Int)/\j<=(c.rows[k]).length/\Hid (((c.rows[k]).take j).all Md.numB=true)) (fun jv=>(c.rows[k]).length-(intOf jv).toNat)
        case atStart=>exact ⟨0,rfl,Nat.zero_le _,(show _=_ by simp)⟩
        case round=>
          obtain ⟨j,rfl,hj,hJ⟩:=hrel
          by_cases hjl:j<(c.rows[k]).length
          · obtain ⟨bu,ou,rfl,hbu,hcu⟩:=HUO.out (by omega)
            have hcj:=((HB.out.trans (HB3.out.mono HB.out.size)).cell (p:=⟨bu,ou+j,none⟩) hbu).trans (hcu j hjl);have hjI:(j:Int)<((c.rows[k]).length:Int):=by omega
            clear hcu
            cases hp:Md.numB (c.rows[k])[j]
            · have hres:Hid (Md.fault c n=46):=yy hkb.out HFB.out hmb.out Hpc.out.1 Hpc.out.2 (xm (Md.all_stop hlt (Md.all_stop hjl hp)))
              generalize (c.rows[k])[j]=y at *
              go_wp2_with (go_at_call 161;refine (yn _ _).mono ?_;rintro e w' ⟨rfl,hww⟩;rw [hww]);go_ret;exact ⟨yi hres.out.symm,HB.out.trans (Below.mono HB3.out HB.out.size)⟩
            · have hnx:Hid (((c.rows[k]).take (j+1)).all Md.numB=true):=Md.all_next hJ.out hjl hp
              generalize (c.rows[k])[j]=y at *
              go_wp2_with (go_at_call 161;refine (yn _ _).mono ?_;rintro e w' ⟨rfl,hww⟩;rw [hww]);go_round
              case rel=>exact ⟨j+1,by go_num,by omega,hnx⟩
              case measure=>simp [intOf];omega
          · have hjI:¬ (j:Int)<((c.rows[k]).length:Int):=by omega
            have hnx:Hid ((c.rows.take (k+1)).all (fun r=>r.all Md.numB)=true):=Md.all_next hA.out hlt (Md.all_done hJ.out (by omega));go_wp2_with fail
            go_round
            case rel=>exact ⟨k+1,by go_num,by omega,hnx⟩
            case measure=>simp [intOf];omega
      · have hkI:¬ (k:Int)<(c.rows.length:Int):=by omega
        have hrn:Hid (c.rows.all (fun r=>r.all Md.numB)=true):=Md.all_done hA.out (by omega);go_wp2_with fail
        go_loop [9] (fun iv=>∃ k:Nat,iv=.int .i64 (k:Int)/\k<=c.table.length/\Hid ((c.table.take k).all Md.numB=true)) (fun iv=>c.table.length-(intOf iv).toNat)
        case atStart=>exact ⟨0,rfl,Nat.zero_le _,(show _=_ by simp)⟩
        case round=>
          obtain ⟨j,rfl,hj,hJ⟩:=hrel
          by_cases hjl:j<c.table.length
          · obtain ⟨bu,ou,rfl,hbu,hcu⟩:=HBO.out (by omega)
            have hcj:=((HB.out.trans (HB3.out.mono HB.out.size)).cell (p:=⟨bu,ou+j,none⟩) hbu).trans (hcu j hjl);have hjI:(j:Int)<(c.table.length:Int):=by omega
            clear hcu
            cases hp:Md.numB c.table[j]
            · have hres:Hid (Md.fault c n=46):=yy hkb.out HFB.out hmb.out Hpc.out.1 Hpc.out.2 (xn (Md.all_stop hjl hp))
              generalize c.table[j]=y at *
              go_wp2_with (go_at_call 161;refine (yn _ _).mono ?_;rintro e w' ⟨rfl,hww⟩;rw [hww]);go_ret;exact ⟨yi hres.out.symm,HB.out.trans (Below.mono HB3.out HB.out.size)⟩
            · have hnx:Hid ((c.table.take (j+1)).all Md.numB=true):=Md.all_next hJ.out hjl hp
              generalize c.table[j]=y at *
              go_wp2_with (go_at_call 161;refine (yn _ _).mono ?_;rintro e w' ⟨rfl,hww⟩;rw [hww]);go_round
              case rel=>exact ⟨j+1,by go_num,by omega,hnx⟩
              case measure=>simp [intOf];omega
          · have hjI:¬ (j:Int)<(c.table.length:Int):=by omega
            have hres:Hid (Md.fault c n=0):=xo hkb.out HFB.out hmb.out Hpc.out.1 Hpc.out.2 (by simp [Md.numsB,hnk,hnv,hrn.out,Md.all_done hJ.out (show c.table.length<=j by omega)]);go_wp2_with fail
            go_ret;exact ⟨yi hres.out.symm,HB.out.trans (Below.mono HB3.out HB.out.size)⟩
end Go.Proofs.YtjgghimjnbjlbaaGreatDoor.Doc

namespace Go.Proofs.YtjgghimjnbjlbaaGreatDoor.Doc
open Go.RowKit
set_option maxRecDepth 10000
set_option maxHeartbeats 8000000
theorem y2x (c:Md.Cn) (vt vx vb vr:Value) (n:Int) (w:World) (h:CnAt w c vt vx vb vr) (hk:c.kind=3) (hfg:∀ w',CnAt w' c vt vx vb vr->Calls Tryz.prog 157 #[yh c vt vx vb vr] w' fun e w''=>e=.returned (.bool (Md.plainBad c||Md.listBad c))/\Below w'.heap.size w' w''):Calls Tryz.prog 90 #[yh c vt vx vb vr,.int .i64 n] w fun e w'=>e=.returned (.int .i64 (Md.fault c n))/\Below w.heap.size w w':=by
  have H87:=hid (xd c vt vx vb vr);have H88:=hid (xb c vt vx vb vr n);obtain ⟨ta,tc,rfl,_⟩:=id h.t;obtain ⟨xa,xc,rfl,hxm,hxo⟩:=id h.x;obtain ⟨ba,bc,rfl,hbm,hbo⟩:=id h.b;obtain ⟨ra,rc,rfl,hrm,hro⟩:=id h.r;unfold maxLen at hxm hbm hrm;obtain ⟨W,hW,hbW,c0,c1,c2,c3,c4,c5,c6,c7,c8,c9,hsN,HCC⟩:=yE 3 c.op c.k c.v c.x c.y (.slice ta c.terms.length tc) (.slice xa c.xs.length xc) (.slice ba c.table.length bc) (.slice ra c.rows.length rc) w;have HB:=hid hbW;have HC:=hid (h.below hbW);have HXO:=hid hxo;have HBO:=hid hbo;have HRO:=hid hro;have H85:=hid hfg;clear hfg;unfold yh at H85 H87 H88;rw [hk] at H85 H87 H88;unfold yh;clear h hxo hbo hro hbW;have hkr:Hid (1<=c.kind/\c.kind<=9):=by rw [hk];exact ⟨by decide,by decide⟩
  have hkb:Hid (Md.kindBad c.kind c.op=false):=xe hkr.out (fun h=>by rw [hk] at h;exact absurd h.1 (by decide));go_enter Tryz.func90,Tryz.ntmps90;go_wp2_with fail
  refine mcA (H85.out _ HC.out) ?_;rintro e w1 ⟨rfl,hb1⟩;have HB1:Hid (Below W.heap.size W w1):=hb1
  cases hfb:(Md.plainBad c||Md.listBad c)
  rotate_left
  · have hres:Hid (Md.fault c n=48):=by show _=_;exact xf hkb.out hfb
    go_wp2_with fail
    go_ret;exact ⟨yi hres.out.symm,HB.out.trans (Below.mono hb1 HB.out.size)⟩
  have HFB:Hid ((Md.plainBad c||Md.listBad c)=false):=hfb;clear hfb c0 c1 c2 c3 c4 c5 c6 c7 c8 c9;obtain ⟨a0,a1,a2,a3,a4,a5,a6,a7,a8,a9⟩:=HCC.out _ hb1;clear hb1;have hrows:Hid (c.rows.all (fun r=>r.length==c.xs.length)=true):=xF hk rfl HFB.out;go_wp2_with (first | (go_at_call 158;refine (yH _ _).mono ?_;rintro e w' ⟨rfl,hww⟩;rw [hww,show Md.fXs 3=true from rfl]));refine (zB c.xs.length _).mono ?_;rintro e w' ⟨rfl,hww⟩;rw [hww];clear hww
  cases hm1:Md.fewB c.xs.length 64
  rotate_left
  · have hres:Hid (Md.fault c n=47):=by show _=_;exact xg hkb.out HFB.out (by simp [Md.manyBad,hk,Md.fXs,Md.mostXs,hm1])
    go_wp2_with fail
    go_ret;exact ⟨yi hres.out.symm,HB.out.trans (Below.mono HB1.out HB.out.size)⟩
  have hmb:Hid (Md.manyBad c=false):=by show _=_;simp [Md.manyBad,hk,Md.fTerms,Md.fXs,Md.fTable,Md.fRows,Md.mostXs,hm1,hrows.out]
  go_wp2_with (first | (go_at_call 158;refine (yH _ _).mono ?_;rintro e w' ⟨rfl,hww⟩;rw [hww,show Md.fXs 3=true from rfl]));refine (zU _ c.terms n _ (HC.out.below HB1.out).t).mono ?_;rintro e w' ⟨rfl,hww⟩;rw [hww];clear hww;obtain ⟨r,hr⟩:∃ r,yx c.terms n=r:=⟨_,rfl⟩;rw [hr];have HRE:Hid (yx c.terms n=r):=hr;clear hr;go_wp2_with fail
  refine mcA (H88.out _ (HC.out.below HB1.out)) ?_;rintro e w3 ⟨rfl,hb3⟩;have HB3:Hid (Below W.heap.size W w3):=HB1.out.trans (hb3.mono HB1.out.size);clear hb3 a0 a1 a2 a3 a4 a5 a6 a7 a8 a9;obtain ⟨a0,a1,a2,a3,a4,a5,a6,a7,a8,a9⟩:=HCC.out _ HB3.out
  cases hps:(Md.plB n c.x&&Md.plB n c.y&&c.xs.all (Md.plB n))
  · have hres:Hid (Md.fault c n=44):=by show _=_;exact zg hkb.out HFB.out hmb.out (pl1 hps)
    go_wp2_with fail
    go_ret;exact ⟨yi hres.out.symm,HB.out.trans (Below.mono HB3.out HB.out.size)⟩
  rcases xh c.terms n with ⟨h1,h2⟩ | ⟨h1,h2,h3⟩ | ⟨h1,h2,h3⟩
  · obtain rfl:r=44:=HRE.out.symm.trans h1
    have hres:Hid (Md.fault c n=44):=by show _=_;exact zg hkb.out HFB.out hmb.out (pl2 h2)
    go_wp2_with fail
    go_ret;exact ⟨yi hres.out.symm,HB.out.trans (Below.mono HB3.out HB.out.size)⟩
  · obtain rfl:r=45:=HRE.out.symm.trans h1
    have hres:Hid (Md.fault c n=45):=by show _=_;exact xi hkb.out HFB.out hmb.out (pl3 hps h2) h3
    go_wp2_with fail
    go_ret;exact ⟨yi hres.out.symm,HB.out.trans (Below.mono HB3.out HB.out.size)⟩
  · obtain rfl:r=0:=HRE.out.symm.trans h1
    have Hpc:Hid (Md.placesB c n=true/\Md.coefsB c.terms=true):=⟨pl3 hps h2,h3⟩;clear h1 h2 h3 hps
    cases hnk:Md.numB c.k
    · have hres:Hid (Md.fault c n=46):=by show _=_;exact yy hkb.out HFB.out hmb.out Hpc.out.1 Hpc.out.2 (by simp [Md.numsB,hnk])
      go_wp2_with (go_at_call 161;refine (yn _ _).mono ?_;rintro e w' ⟨rfl,hww⟩;rw [hww]);go_ret;exact ⟨yi hres.out.symm,HB.out.trans (Below.mono HB3.out HB.out.size)⟩
    cases hnv:Md.numB c.v
    · have hres:Hid (Md.fault c n=46):=by show _=_;exact yy hkb.out HFB.out hmb.out Hpc.out.1 Hpc.out.2 (by simp [Md.numsB,hnv])
      go_wp2_with (go_at_call 161;refine (yn _ _).mono ?_;rintro e w' ⟨rfl,hww⟩;rw [hww]);go_ret;exact ⟨yi hres.out.symm,HB.out.trans (Below.mono HB3.out HB.out.size)⟩
    go_wp2_with (go_at_call 161;refine (yn _ _).mono ?_;rintro e w' ⟨rfl,hww⟩;rw [hww]);go_loop [7] (fun iv=>∃ k:Nat,iv=.int .i64 (k:Int)/\k<=c.rows.length/\Hid ((c.rows.take k).all (fun r=>r.all Md.numB)=true)) (fun iv=>c.rows.length-(intOf iv).toNat)
    case atStart=>exact ⟨0,rfl,Nat.zero_le _,(show _=_ by simp)⟩
    case round=>
      obtain ⟨k,rfl,hkk,hA⟩:=hrel
      by_cases hlt:k<c.rows.length
      · obtain ⟨b,off,rfl,hb,hc⟩:=HRO.out (by omega)
        obtain ⟨u,hcell,hu⟩:=hc k hlt;have hcw:=((HB.out.trans (HB3.out.mono HB.out.size)).cell (p:=⟨b,off+k,none⟩) hb).trans hcell;obtain ⟨ua,uc,rfl,hum,huo⟩:=hu;unfold maxLen at hum;have HUO:Hid (0<(c.rows[k]).length->∃ b off,ua=some ⟨b,off,none⟩/\b<w.heap.size/\∀ j (h:j<(c.rows[k]).length),w.cell? ⟨b,off+j,none⟩=some (.int .i64 (c.rows[k])[j])):=huo;have hkI:(k:Int)<(c.rows.length:Int):=by omega
        clear hc hcell huo;go_wp2_with fail
        go_loop [8] (fun jv=>∃ j:Nat,jv=.int .i64 (j:Int)/\j<=(c.rows[k]).length/\Hid (((c.rows[k]).take j).all Md.numB=true)) (fun jv=>(c.rows[k]).length-(intOf jv).toNat)
        case atStart=>exact ⟨0,rfl,Nat.zero_le _,(show _=_ by simp)⟩
        case round=>
          obtain ⟨j,rfl,hj,hJ⟩:=hrel
          by_cases hjl:j<(c.rows[k]).length
          · obtain ⟨bu,ou,rfl,hbu,hcu⟩:=HUO.out (by omega)
            have hcj:=((HB.out.trans (HB3.out.mono HB.out.size)).cell (p:=⟨bu,ou+j,none⟩) hbu).trans (hcu j hjl);have hjI:(j:Int)<((c.rows[k]).length:Int):=by omega
            clear hcu
            cases hp:Md.numB (c.rows[k])[j]
            · have hres:Hid (Md.fault c n=46):=yy hkb.out HFB.out hmb.out Hpc.out.1 Hpc.out.2 (xm (Md.all_stop hlt (Md.all_stop hjl hp)))
              generalize (c.rows[k])[j]=y at *
              go_wp2_with (go_at_call 161;refine (yn _ _).mono ?_;rintro e w' ⟨rfl,hww⟩;rw [hww]);go_ret;exact ⟨yi hres.out.symm,HB.out.trans (Below.mono HB3.out HB.out.size)⟩
            · have hnx:Hid (((c.rows[k]).take (j+1)).all Md.numB=true):=Md.all_next hJ.out hjl hp
              generalize (c.rows[k])[j]=y at *
              go_wp2_with (go_at_call 161;refine (yn _ _).mono ?_;rintro e w' ⟨rfl,hww⟩;rw [hww]);go_round
              case rel=>exact ⟨j+1,by go_num,by omega,hnx⟩
              case measure=>simp [intOf];omega
          · have hjI:¬ (j:Int)<((c.rows[k]).length:Int):=by omega
            have hnx:Hid ((c.rows.take (k+1)).all (fun r=>r.all Md.numB)=true):=Md.all_next hA.out hlt (Md.all_done hJ.out (by omega));go_wp2_with fail
            go_round
            case rel=>exact ⟨k+1,by go_num,by omega,hnx⟩
            case measure=>simp [intOf];omega
      · have hkI:¬ (k:Int)<(c.rows.length:Int):=by omega
        have hrn:Hid (c.rows.all (fun r=>r.all Md.numB)=true):=Md.all_done hA.out (by omega);go_wp2_with fail
        go_loop [9] (fun iv=>∃ k:Nat,iv=.int .i64 (k:Int)/\k<=c.table.length/\Hid ((c.table.take k).all Md.numB=true)) (fun iv=>c.table.length-(intOf iv).toNat)
        case atStart=>exact ⟨0,rfl,Nat.zero_le _,(show _=_ by simp)⟩
        case round=>
          obtain ⟨j,rfl,hj,hJ⟩:=hrel
          by_cases hjl:j<c.table.length
          · obtain ⟨bu,ou,rfl,hbu,hcu⟩:=HBO.out (by omega)
            have hcj:=((HB.out.trans (HB3.out.mono HB.out.size)).cell (p:=⟨bu,ou+j,none⟩) hbu).trans (hcu j hjl);have hjI:(j:Int)<(c.table.length:Int):=by omega
            clear hcu
            cases hp:Md.numB c.table[j]
            · have hres:Hid (Md.fault c n=46):=yy hkb.out HFB.out hmb.out Hpc.out.1 Hpc.out.2 (xn (Md.all_stop hjl hp))
              generalize c.table[j]=y at *
              go_wp2_with (go_at_call 161;refine (yn _ _).mono ?_;rintro e w' ⟨rfl,hww⟩;rw [hww]);go_ret;exact ⟨yi hres.out.symm,HB.out.trans (Below.mono HB3.out HB.out.size)⟩
            · have hnx:Hid ((c.table.take (j+1)).all Md.numB=true):=Md.all_next hJ.out hjl hp
              generalize c.table[j]=y at *
              go_wp2_with (go_at_call 161;refine (yn _ _).mono ?_;rintro e w' ⟨rfl,hww⟩;rw [hww]);go_round
              case rel=>exact ⟨j+1,by go_num,by omega,hnx⟩
              case measure=>simp [intOf];omega
          · have hjI:¬ (j:Int)<(c.table.length:Int):=by omega
            have hres:Hid (Md.fault c n=0):=xo hkb.out HFB.out hmb.out Hpc.out.1 Hpc.out.2 (by simp [Md.numsB,hnk,hnv,hrn.out,Md.all_done hJ.out (show c.table.length<=j by omega)]);go_wp2_with fail
            go_ret;exact ⟨yi hres.out.symm,HB.out.trans (Below.mono HB3.out HB.out.size)⟩
end Go.Proofs.YtjgghimjnbjlbaaGreatDoor.Doc

namespace Go.Proofs.YtjgghimjnbjlbaaGreatDoor.Doc
open Go.RowKit
set_option maxRecDepth 10000
set_option maxHeartbeats 8000000
theorem y2y (c:Md.Cn) (vt vx vb vr:Value) (n:Int) (w:World) (h:CnAt w c vt vx vb vr) (hk:c.kind=4) (hfg:∀ w',CnAt w' c vt vx vb vr->Calls Tryz.prog 157 #[yh c vt vx vb vr] w' fun e w''=>e=.returned (.bool (Md.plainBad c||Md.listBad c))/\Below w'.heap.size w' w''):Calls Tryz.prog 90 #[yh c vt vx vb vr,.int .i64 n] w fun e w'=>e=.returned (.int .i64 (Md.fault c n))/\Below w.heap.size w w':=by
  have H87:=hid (xd c vt vx vb vr);have H88:=hid (xb c vt vx vb vr n);obtain ⟨ta,tc,rfl,_⟩:=id h.t;obtain ⟨xa,xc,rfl,hxm,hxo⟩:=id h.x;obtain ⟨ba,bc,rfl,hbm,hbo⟩:=id h.b;obtain ⟨ra,rc,rfl,hrm,hro⟩:=id h.r;unfold maxLen at hxm hbm hrm;obtain ⟨W,hW,hbW,c0,c1,c2,c3,c4,c5,c6,c7,c8,c9,hsN,HCC⟩:=yE 4 c.op c.k c.v c.x c.y (.slice ta c.terms.length tc) (.slice xa c.xs.length xc) (.slice ba c.table.length bc) (.slice ra c.rows.length rc) w;have HB:=hid hbW;have HC:=hid (h.below hbW);have HXO:=hid hxo;have HBO:=hid hbo;have HRO:=hid hro;have H85:=hid hfg;clear hfg;unfold yh at H85 H87 H88;rw [hk] at H85 H87 H88;unfold yh;clear h hxo hbo hro hbW;have hkr:Hid (1<=c.kind/\c.kind<=9):=by rw [hk];exact ⟨by decide,by decide⟩
  have hkb:Hid (Md.kindBad c.kind c.op=false):=xe hkr.out (fun h=>by rw [hk] at h;exact absurd h.1 (by decide));go_enter Tryz.func90,Tryz.ntmps90;go_wp2_with fail
  refine mcA (H85.out _ HC.out) ?_;rintro e w1 ⟨rfl,hb1⟩;have HB1:Hid (Below W.heap.size W w1):=hb1
  cases hfb:(Md.plainBad c||Md.listBad c)
  rotate_left
  · have hres:Hid (Md.fault c n=48):=by show _=_;exact xf hkb.out hfb
    go_wp2_with fail
    go_ret;exact ⟨yi hres.out.symm,HB.out.trans (Below.mono hb1 HB.out.size)⟩
  have HFB:Hid ((Md.plainBad c||Md.listBad c)=false):=hfb;clear hfb c0 c1 c2 c3 c4 c5 c6 c7 c8 c9;obtain ⟨a0,a1,a2,a3,a4,a5,a6,a7,a8,a9⟩:=HCC.out _ hb1;clear hb1;have hrows:Hid (c.rows.all (fun r=>r.length==c.xs.length)=true):=xF hk rfl HFB.out;go_wp2_with (first | (go_at_call 158;refine (yH _ _).mono ?_;rintro e w' ⟨rfl,hww⟩;rw [hww,show Md.fXs 4=false from rfl]));refine (zB c.table.length _).mono ?_;rintro e w' ⟨rfl,hww⟩;rw [hww];clear hww
  cases hm1:Md.fewB c.table.length 64
  rotate_left
  · have hres:Hid (Md.fault c n=47):=by show _=_;exact xg hkb.out HFB.out (by simp [Md.manyBad,hk,Md.fTable,hm1])
    go_wp2_with fail
    go_ret;exact ⟨yi hres.out.symm,HB.out.trans (Below.mono HB1.out HB.out.size)⟩
  have hmb:Hid (Md.manyBad c=false):=by show _=_;simp [Md.manyBad,hk,Md.fTerms,Md.fXs,Md.fTable,Md.fRows,hm1,hrows.out]
  go_wp2_with (first | (go_at_call 158;refine (yH _ _).mono ?_;rintro e w' ⟨rfl,hww⟩;rw [hww,show Md.fXs 4=false from rfl]));refine (zU _ c.terms n _ (HC.out.below HB1.out).t).mono ?_;rintro e w' ⟨rfl,hww⟩;rw [hww];clear hww;obtain ⟨r,hr⟩:∃ r,yx c.terms n=r:=⟨_,rfl⟩;rw [hr];have HRE:Hid (yx c.terms n=r):=hr;clear hr;go_wp2_with fail
  refine mcA (H88.out _ (HC.out.below HB1.out)) ?_;rintro e w3 ⟨rfl,hb3⟩;have HB3:Hid (Below W.heap.size W w3):=HB1.out.trans (hb3.mono HB1.out.size);clear hb3 a0 a1 a2 a3 a4 a5 a6 a7 a8 a9;obtain ⟨a0,a1,a2,a3,a4,a5,a6,a7,a8,a9⟩:=HCC.out _ HB3.out
  cases hps:(Md.plB n c.x&&Md.plB n c.y&&c.xs.all (Md.plB n))
  · have hres:Hid (Md.fault c n=44):=by show _=_;exact zg hkb.out HFB.out hmb.out (pl1 hps)
    go_wp2_with fail
    go_ret;exact ⟨yi hres.out.symm,HB.out.trans (Below.mono HB3.out HB.out.size)⟩
  rcases xh c.terms n with ⟨h1,h2⟩ | ⟨h1,h2,h3⟩ | ⟨h1,h2,h3⟩
  · obtain rfl:r=44:=HRE.out.symm.trans h1
    have hres:Hid (Md.fault c n=44):=by show _=_;exact zg hkb.out HFB.out hmb.out (pl2 h2)
    go_wp2_with fail
    go_ret;exact ⟨yi hres.out.symm,HB.out.trans (Below.mono HB3.out HB.out.size)⟩
  · obtain rfl:r=45:=HRE.out.symm.trans h1
    have hres:Hid (Md.fault c n=45):=by show _=_;exact xi hkb.out HFB.out hmb.out (pl3 hps h2) h3
    go_wp2_with fail
    go_ret;exact ⟨yi hres.out.symm,HB.out.trans (Below.mono HB3.out HB.out.size)⟩
  · obtain rfl:r=0:=HRE.out.symm.trans h1
    have Hpc:Hid (Md.placesB c n=true/\Md.coefsB c.terms=true):=⟨pl3 hps h2,h3⟩;clear h1 h2 h3 hps
    cases hnk:Md.numB c.k
    · have hres:Hid (Md.fault c n=46):=by show _=_;exact yy hkb.out HFB.out hmb.out Hpc.out.1 Hpc.out.2 (by simp [Md.numsB,hnk])
      go_wp2_with (go_at_call 161;refine (yn _ _).mono ?_;rintro e w' ⟨rfl,hww⟩;rw [hww]);go_ret;exact ⟨yi hres.out.symm,HB.out.trans (Below.mono HB3.out HB.out.size)⟩
    cases hnv:Md.numB c.v
    · have hres:Hid (Md.fault c n=46):=by show _=_;exact yy hkb.out HFB.out hmb.out Hpc.out.1 Hpc.out.2 (by simp [Md.numsB,hnv])
      go_wp2_with (go_at_call 161;refine (yn _ _).mono ?_;rintro e w' ⟨rfl,hww⟩;rw [hww]);go_ret;exact ⟨yi hres.out.symm,HB.out.trans (Below.mono HB3.out HB.out.size)⟩
    go_wp2_with (go_at_call 161;refine (yn _ _).mono ?_;rintro e w' ⟨rfl,hww⟩;rw [hww]);go_loop [7] (fun iv=>∃ k:Nat,iv=.int .i64 (k:Int)/\k<=c.rows.length/\Hid ((c.rows.take k).all (fun r=>r.all Md.numB)=true)) (fun iv=>c.rows.length-(intOf iv).toNat)
    case atStart=>exact ⟨0,rfl,Nat.zero_le _,(show _=_ by simp)⟩
    case round=>
      obtain ⟨k,rfl,hkk,hA⟩:=hrel
      by_cases hlt:k<c.rows.length
      · obtain ⟨b,off,rfl,hb,hc⟩:=HRO.out (by omega)
        obtain ⟨u,hcell,hu⟩:=hc k hlt;have hcw:=((HB.out.trans (HB3.out.mono HB.out.size)).cell (p:=⟨b,off+k,none⟩) hb).trans hcell;obtain ⟨ua,uc,rfl,hum,huo⟩:=hu;unfold maxLen at hum;have HUO:Hid (0<(c.rows[k]).length->∃ b off,ua=some ⟨b,off,none⟩/\b<w.heap.size/\∀ j (h:j<(c.rows[k]).length),w.cell? ⟨b,off+j,none⟩=some (.int .i64 (c.rows[k])[j])):=huo;have hkI:(k:Int)<(c.rows.length:Int):=by omega
        clear hc hcell huo;go_wp2_with fail
        go_loop [8] (fun jv=>∃ j:Nat,jv=.int .i64 (j:Int)/\j<=(c.rows[k]).length/\Hid (((c.rows[k]).take j).all Md.numB=true)) (fun jv=>(c.rows[k]).length-(intOf jv).toNat)
        case atStart=>exact ⟨0,rfl,Nat.zero_le _,(show _=_ by simp)⟩
        case round=>
          obtain ⟨j,rfl,hj,hJ⟩:=hrel
          by_cases hjl:j<(c.rows[k]).length
          · obtain ⟨bu,ou,rfl,hbu,hcu⟩:=HUO.out (by omega)
            have hcj:=((HB.out.trans (HB3.out.mono HB.out.size)).cell (p:=⟨bu,ou+j,none⟩) hbu).trans (hcu j hjl);have hjI:(j:Int)<((c.rows[k]).length:Int):=by omega
            clear hcu
            cases hp:Md.numB (c.rows[k])[j]
            · have hres:Hid (Md.fault c n=46):=yy hkb.out HFB.out hmb.out Hpc.out.1 Hpc.out.2 (xm (Md.all_stop hlt (Md.all_stop hjl hp)))
              generalize (c.rows[k])[j]=y at *
              go_wp2_with (go_at_call 161;refine (yn _ _).mono ?_;rintro e w' ⟨rfl,hww⟩;rw [hww]);go_ret;exact ⟨yi hres.out.symm,HB.out.trans (Below.mono HB3.out HB.out.size)⟩
            · have hnx:Hid (((c.rows[k]).take (j+1)).all Md.numB=true):=Md.all_next hJ.out hjl hp
              generalize (c.rows[k])[j]=y at *
              go_wp2_with (go_at_call 161;refine (yn _ _).mono ?_;rintro e w' ⟨rfl,hww⟩;rw [hww]);go_round
              case rel=>exact ⟨j+1,by go_num,by omega,hnx⟩
              case measure=>simp [intOf];omega
          · have hjI:¬ (j:Int)<((c.rows[k]).length:Int):=by omega
            have hnx:Hid ((c.rows.take (k+1)).all (fun r=>r.all Md.numB)=true):=Md.all_next hA.out hlt (Md.all_done hJ.out (by omega));go_wp2_with fail
            go_round
            case rel=>exact ⟨k+1,by go_num,by omega,hnx⟩
            case measure=>simp [intOf];omega
      · have hkI:¬ (k:Int)<(c.rows.length:Int):=by omega
        have hrn:Hid (c.rows.all (fun r=>r.all Md.numB)=true):=Md.all_done hA.out (by omega);go_wp2_with fail
        go_loop [9] (fun iv=>∃ k:Nat,iv=.int .i64 (k:Int)/\k<=c.table.length/\Hid ((c.table.take k).all Md.numB=true)) (fun iv=>c.table.length-(intOf iv).toNat)
        case atStart=>exact ⟨0,rfl,Nat.zero_le _,(show _=_ by simp)⟩
        case round=>
          obtain ⟨j,rfl,hj,hJ⟩:=hrel
          by_cases hjl:j<c.table.length
          · obtain ⟨bu,ou,rfl,hbu,hcu⟩:=HBO.out (by omega)
            have hcj:=((HB.out.trans (HB3.out.mono HB.out.size)).cell (p:=⟨bu,ou+j,none⟩) hbu).trans (hcu j hjl);have hjI:(j:Int)<(c.table.length:Int):=by omega
            clear hcu
            cases hp:Md.numB c.table[j]
            · have hres:Hid (Md.fault c n=46):=yy hkb.out HFB.out hmb.out Hpc.out.1 Hpc.out.2 (xn (Md.all_stop hjl hp))
              generalize c.table[j]=y at *
              go_wp2_with (go_at_call 161;refine (yn _ _).mono ?_;rintro e w' ⟨rfl,hww⟩;rw [hww]);go_ret;exact ⟨yi hres.out.symm,HB.out.trans (Below.mono HB3.out HB.out.size)⟩
            · have hnx:Hid ((c.table.take (j+1)).all Md.numB=true):=Md.all_next hJ.out hjl hp
              generalize c.table[j]=y at *
              go_wp2_with (go_at_call 161;refine (yn _ _).mono ?_;rintro e w' ⟨rfl,hww⟩;rw [hww]);go_round
              case rel=>exact ⟨j+1,by go_num,by omega,hnx⟩
              case measure=>simp [intOf];omega
          · have hjI:¬ (j:Int)<(c.table.length:Int):=by omega
            have hres:Hid (Md.fault c n=0):=xo hkb.out HFB.out hmb.out Hpc.out.1 Hpc.out.2 (by simp [Md.numsB,hnk,hnv,hrn.out,Md.all_done hJ.out (show c.table.length<=j by omega)]);go_wp2_with fail
            go_ret;exact ⟨yi hres.out.symm,HB.out.trans (Below.mono HB3.out HB.out.size)⟩
end Go.Proofs.YtjgghimjnbjlbaaGreatDoor.Doc

namespace Go.Proofs.YtjgghimjnbjlbaaGreatDoor.Doc
open Go.RowKit
set_option maxRecDepth 10000
set_option maxHeartbeats 8000000
theorem y2z (c:Md.Cn) (vt vx vb vr:Value) (n:Int) (w:World) (h:CnAt w c vt vx vb vr) (hk:c.kind=5) (hfg:∀ w',CnAt w' c vt vx vb vr->Calls Tryz.prog 157 #[yh c vt vx vb vr] w' fun e w''=>e=.returned (.bool (Md.plainBad c||Md.listBad c))/\Below w'.heap.size w' w''):Calls Tryz.prog 90 #[yh c vt vx vb vr,.int .i64 n] w fun e w'=>e=.returned (.int .i64 (Md.fault c n))/\Below w.heap.size w w':=by
  have H87:=hid (xd c vt vx vb vr);have H88:=hid (xb c vt vx vb vr n);obtain ⟨ta,tc,rfl,_⟩:=id h.t;obtain ⟨xa,xc,rfl,hxm,hxo⟩:=id h.x;obtain ⟨ba,bc,rfl,hbm,hbo⟩:=id h.b;obtain ⟨ra,rc,rfl,hrm,hro⟩:=id h.r;unfold maxLen at hxm hbm hrm;obtain ⟨W,hW,hbW,c0,c1,c2,c3,c4,c5,c6,c7,c8,c9,hsN,HCC⟩:=yE 5 c.op c.k c.v c.x c.y (.slice ta c.terms.length tc) (.slice xa c.xs.length xc) (.slice ba c.table.length bc) (.slice ra c.rows.length rc) w;have HB:=hid hbW;have HC:=hid (h.below hbW);have HXO:=hid hxo;have HBO:=hid hbo;have HRO:=hid hro;have H85:=hid hfg;clear hfg;unfold yh at H85 H87 H88;rw [hk] at H85 H87 H88;unfold yh;clear h hxo hbo hro hbW;have hkr:Hid (1<=c.kind/\c.kind<=9):=by rw [hk];exact ⟨by decide,by decide⟩
  have hkb:Hid (Md.kindBad c.kind c.op=false):=xe hkr.out (fun h=>by rw [hk] at h;exact absurd h.1 (by decide));go_enter Tryz.func90,Tryz.ntmps90;go_wp2_with fail
  refine mcA (H85.out _ HC.out) ?_;rintro e w1 ⟨rfl,hb1⟩;have HB1:Hid (Below W.heap.size W w1):=hb1
  cases hfb:(Md.plainBad c||Md.listBad c)
  rotate_left
  · have hres:Hid (Md.fault c n=48):=by show _=_;exact xf hkb.out hfb
    go_wp2_with fail
    go_ret;exact ⟨yi hres.out.symm,HB.out.trans (Below.mono hb1 HB.out.size)⟩
  have HFB:Hid ((Md.plainBad c||Md.listBad c)=false):=hfb;clear hfb c0 c1 c2 c3 c4 c5 c6 c7 c8 c9;obtain ⟨a0,a1,a2,a3,a4,a5,a6,a7,a8,a9⟩:=HCC.out _ hb1;clear hb1;have hrows:Hid (c.rows.all (fun r=>r.length==c.xs.length)=true):=xF hk rfl HFB.out;go_wp2_with (first | (go_at_call 158;refine (yH _ _).mono ?_;rintro e w' ⟨rfl,hww⟩;rw [hww,show Md.fXs 5=true from rfl]));refine (zB c.xs.length _).mono ?_;rintro e w' ⟨rfl,hww⟩;rw [hww];clear hww
  cases hm1:Md.fewB c.xs.length 64
  rotate_left
  · have hres:Hid (Md.fault c n=47):=by show _=_;exact xg hkb.out HFB.out (by simp [Md.manyBad,hk,Md.fXs,Md.mostXs,hm1])
    go_wp2_with fail
    go_ret;exact ⟨yi hres.out.symm,HB.out.trans (Below.mono HB1.out HB.out.size)⟩
  have hmb:Hid (Md.manyBad c=false):=by show _=_;simp [Md.manyBad,hk,Md.fTerms,Md.fXs,Md.fTable,Md.fRows,Md.mostXs,hm1,hrows.out]
  go_wp2_with (first | (go_at_call 158;refine (yH _ _).mono ?_;rintro e w' ⟨rfl,hww⟩;rw [hww,show Md.fXs 5=true from rfl]));refine (zU _ c.terms n _ (HC.out.below HB1.out).t).mono ?_;rintro e w' ⟨rfl,hww⟩;rw [hww];clear hww;obtain ⟨r,hr⟩:∃ r,yx c.terms n=r:=⟨_,rfl⟩;rw [hr];have HRE:Hid (yx c.terms n=r):=hr;clear hr;go_wp2_with fail
  refine mcA (H88.out _ (HC.out.below HB1.out)) ?_;rintro e w3 ⟨rfl,hb3⟩;have HB3:Hid (Below W.heap.size W w3):=HB1.out.trans (hb3.mono HB1.out.size);clear hb3 a0 a1 a2 a3 a4 a5 a6 a7 a8 a9;obtain ⟨a0,a1,a2,a3,a4,a5,a6,a7,a8,a9⟩:=HCC.out _ HB3.out
  cases hps:(Md.plB n c.x&&Md.plB n c.y&&c.xs.all (Md.plB n))
  · have hres:Hid (Md.fault c n=44):=by show _=_;exact zg hkb.out HFB.out hmb.out (pl1 hps)
    go_wp2_with fail
    go_ret;exact ⟨yi hres.out.symm,HB.out.trans (Below.mono HB3.out HB.out.size)⟩
  rcases xh c.terms n with ⟨h1,h2⟩ | ⟨h1,h2,h3⟩ | ⟨h1,h2,h3⟩
  · obtain rfl:r=44:=HRE.out.symm.trans h1
    have hres:Hid (Md.fault c n=44):=by show _=_;exact zg hkb.out HFB.out hmb.out (pl2 h2)
    go_wp2_with fail
    go_ret;exact ⟨yi hres.out.symm,HB.out.trans (Below.mono HB3.out HB.out.size)⟩
  · obtain rfl:r=45:=HRE.out.symm.trans h1
    have hres:Hid (Md.fault c n=45):=by show _=_;exact xi hkb.out HFB.out hmb.out (pl3 hps h2) h3
    go_wp2_with fail
    go_ret;exact ⟨yi hres.out.symm,HB.out.trans (Below.mono HB3.out HB.out.size)⟩
  · obtain rfl:r=0:=HRE.out.symm.trans h1
    have Hpc:Hid (Md.placesB c n=true/\Md.coefsB c.terms=true):=⟨pl3 hps h2,h3⟩;clear h1 h2 h3 hps
    cases hnk:Md.numB c.k
    · have hres:Hid (Md.fault c n=46):=by show _=_;exact yy hkb.out HFB.out hmb.out Hpc.out.1 Hpc.out.2 (by simp [Md.numsB,hnk])
      go_wp2_with (go_at_call 161;refine (yn _ _).mono ?_;rintro e w' ⟨rfl,hww⟩;rw [hww]);go_ret;exact ⟨yi hres.out.symm,HB.out.trans (Below.mono HB3.out HB.out.size)⟩
    cases hnv:Md.numB c.v
    · have hres:Hid (Md.fault c n=46):=by show _=_;exact yy hkb.out HFB.out hmb.out Hpc.out.1 Hpc.out.2 (by simp [Md.numsB,hnv])
      go_wp2_with (go_at_call 161;refine (yn _ _).mono ?_;rintro e w' ⟨rfl,hww⟩;rw [hww]);go_ret;exact ⟨yi hres.out.symm,HB.out.trans (Below.mono HB3.out HB.out.size)⟩
    go_wp2_with (go_at_call 161;refine (yn _ _).mono ?_;rintro e w' ⟨rfl,hww⟩;rw [hww]);go_loop [7] (fun iv=>∃ k:Nat,iv=.int .i64 (k:Int)/\k<=c.rows.length/\Hid ((c.rows.take k).all (fun r=>r.all Md.numB)=true)) (fun iv=>c.rows.length-(intOf iv).toNat)
    case atStart=>exact ⟨0,rfl,Nat.zero_le _,(show _=_ by simp)⟩
    case round=>
      obtain ⟨k,rfl,hkk,hA⟩:=hrel
      by_cases hlt:k<c.rows.length
      · obtain ⟨b,off,rfl,hb,hc⟩:=HRO.out (by omega)
        obtain ⟨u,hcell,hu⟩:=hc k hlt;have hcw:=((HB.out.trans (HB3.out.mono HB.out.size)).cell (p:=⟨b,off+k,none⟩) hb).trans hcell;obtain ⟨ua,uc,rfl,hum,huo⟩:=hu;unfold maxLen at hum;have HUO:Hid (0<(c.rows[k]).length->∃ b off,ua=some ⟨b,off,none⟩/\b<w.heap.size/\∀ j (h:j<(c.rows[k]).length),w.cell? ⟨b,off+j,none⟩=some (.int .i64 (c.rows[k])[j])):=huo;have hkI:(k:Int)<(c.rows.length:Int):=by omega
        clear hc hcell huo;go_wp2_with fail
        go_loop [8] (fun jv=>∃ j:Nat,jv=.int .i64 (j:Int)/\j<=(c.rows[k]).length/\Hid (((c.rows[k]).take j).all Md.numB=true)) (fun jv=>(c.rows[k]).length-(intOf jv).toNat)
        case atStart=>exact ⟨0,rfl,Nat.zero_le _,(show _=_ by simp)⟩
        case round=>
          obtain ⟨j,rfl,hj,hJ⟩:=hrel
          by_cases hjl:j<(c.rows[k]).length
          · obtain ⟨bu,ou,rfl,hbu,hcu⟩:=HUO.out (by omega)
            have hcj:=((HB.out.trans (HB3.out.mono HB.out.size)).cell (p:=⟨bu,ou+j,none⟩) hbu).trans (hcu j hjl);have hjI:(j:Int)<((c.rows[k]).length:Int):=by omega
            clear hcu
            cases hp:Md.numB (c.rows[k])[j]
            · have hres:Hid (Md.fault c n=46):=yy hkb.out HFB.out hmb.out Hpc.out.1 Hpc.out.2 (xm (Md.all_stop hlt (Md.all_stop hjl hp)))
              generalize (c.rows[k])[j]=y at *
              go_wp2_with (go_at_call 161;refine (yn _ _).mono ?_;rintro e w' ⟨rfl,hww⟩;rw [hww]);go_ret;exact ⟨yi hres.out.symm,HB.out.trans (Below.mono HB3.out HB.out.size)⟩
            · have hnx:Hid (((c.rows[k]).take (j+1)).all Md.numB=true):=Md.all_next hJ.out hjl hp
              generalize (c.rows[k])[j]=y at *
              go_wp2_with (go_at_call 161;refine (yn _ _).mono ?_;rintro e w' ⟨rfl,hww⟩;rw [hww]);go_round
              case rel=>exact ⟨j+1,by go_num,by omega,hnx⟩
              case measure=>simp [intOf];omega
          · have hjI:¬ (j:Int)<((c.rows[k]).length:Int):=by omega
            have hnx:Hid ((c.rows.take (k+1)).all (fun r=>r.all Md.numB)=true):=Md.all_next hA.out hlt (Md.all_done hJ.out (by omega));go_wp2_with fail
            go_round
            case rel=>exact ⟨k+1,by go_num,by omega,hnx⟩
            case measure=>simp [intOf];omega
      · have hkI:¬ (k:Int)<(c.rows.length:Int):=by omega
        have hrn:Hid (c.rows.all (fun r=>r.all Md.numB)=true):=Md.all_done hA.out (by omega);go_wp2_with fail
        go_loop [9] (fun iv=>∃ k:Nat,iv=.int .i64 (k:Int)/\k<=c.table.length/\Hid ((c.table.take k).all Md.numB=true)) (fun iv=>c.table.length-(intOf iv).toNat)
        case atStart=>exact ⟨0,rfl,Nat.zero_le _,(show _=_ by simp)⟩
        case round=>
          obtain ⟨j,rfl,hj,hJ⟩:=hrel
          by_cases hjl:j<c.table.length
          · obtain ⟨bu,ou,rfl,hbu,hcu⟩:=HBO.out (by omega)
            have hcj:=((HB.out.trans (HB3.out.mono HB.out.size)).cell (p:=⟨bu,ou+j,none⟩) hbu).trans (hcu j hjl);have hjI:(j:Int)<(c.table.length:Int):=by omega
            clear hcu
            cases hp:Md.numB c.table[j]
            · have hres:Hid (Md.fault c n=46):=yy hkb.out HFB.out hmb.out Hpc.out.1 Hpc.out.2 (xn (Md.all_stop hjl hp))
              generalize c.table[j]=y at *
              go_wp2_with (go_at_call 161;refine (yn _ _).mono ?_;rintro e w' ⟨rfl,hww⟩;rw [hww]);go_ret;exact ⟨yi hres.out.symm,HB.out.trans (Below.mono HB3.out HB.out.size)⟩
            · have hnx:Hid ((c.table.take (j+1)).all Md.numB=true):=Md.all_next hJ.out hjl hp
              generalize c.table[j]=y at *
              go_wp2_with (go_at_call 161;refine (yn _ _).mono ?_;rintro e w' ⟨rfl,hww⟩;rw [hww]);go_round
              case rel=>exact ⟨j+1,by go_num,by omega,hnx⟩
              case measure=>simp [intOf];omega
          · have hjI:¬ (j:Int)<(c.table.length:Int):=by omega
            have hres:Hid (Md.fault c n=0):=xo hkb.out HFB.out hmb.out Hpc.out.1 Hpc.out.2 (by simp [Md.numsB,hnk,hnv,hrn.out,Md.all_done hJ.out (show c.table.length<=j by omega)]);go_wp2_with fail
            go_ret;exact ⟨yi hres.out.symm,HB.out.trans (Below.mono HB3.out HB.out.size)⟩
end Go.Proofs.YtjgghimjnbjlbaaGreatDoor.Doc

namespace Go.Proofs.YtjgghimjnbjlbaaGreatDoor.Doc
open Go.RowKit
set_option maxRecDepth 10000
set_option maxHeartbeats 8000000
theorem y2A (c:Md.Cn) (vt vx vb vr:Value) (n:Int) (w:World) (h:CnAt w c vt vx vb vr) (hk:c.kind=6) (hfg:∀ w',CnAt w' c vt vx vb vr->Calls Tryz.prog 157 #[yh c vt vx vb vr] w' fun e w''=>e=.returned (.bool (Md.plainBad c||Md.listBad c))/\Below w'.heap.size w' w''):Calls Tryz.prog 90 #[yh c vt vx vb vr,.int .i64 n] w fun e w'=>e=.returned (.int .i64 (Md.fault c n))/\Below w.heap.size w w':=by
  have H87:=hid (xd c vt vx vb vr);have H88:=hid (xb c vt vx vb vr n);obtain ⟨ta,tc,rfl,_⟩:=id h.t;obtain ⟨xa,xc,rfl,hxm,hxo⟩:=id h.x;obtain ⟨ba,bc,rfl,hbm,hbo⟩:=id h.b;obtain ⟨ra,rc,rfl,hrm,hro⟩:=id h.r;unfold maxLen at hxm hbm hrm;obtain ⟨W,hW,hbW,c0,c1,c2,c3,c4,c5,c6,c7,c8,c9,hsN,HCC⟩:=yE 6 c.op c.k c.v c.x c.y (.slice ta c.terms.length tc) (.slice xa c.xs.length xc) (.slice ba c.table.length bc) (.slice ra c.rows.length rc) w;have HB:=hid hbW;have HC:=hid (h.below hbW);have HXO:=hid hxo;have HBO:=hid hbo;have HRO:=hid hro;have H85:=hid hfg;clear hfg;unfold yh at H85 H87 H88;rw [hk] at H85 H87 H88;unfold yh;clear h hxo hbo hro hbW;have hkr:Hid (1<=c.kind/\c.kind<=9):=by rw [hk];exact ⟨by decide,by decide⟩
  have hkb:Hid (Md.kindBad c.kind c.op=false):=xe hkr.out (fun h=>by rw [hk] at h;exact absurd h.1 (by decide));go_enter Tryz.func90,Tryz.ntmps90;go_wp2_with fail
  refine mcA (H85.out _ HC.out) ?_;rintro e w1 ⟨rfl,hb1⟩;have HB1:Hid (Below W.heap.size W w1):=hb1
  cases hfb:(Md.plainBad c||Md.listBad c)
  rotate_left
  · have hres:Hid (Md.fault c n=48):=by show _=_;exact xf hkb.out hfb
    go_wp2_with fail
    go_ret;exact ⟨yi hres.out.symm,HB.out.trans (Below.mono hb1 HB.out.size)⟩
  have HFB:Hid ((Md.plainBad c||Md.listBad c)=false):=hfb;clear hfb c0 c1 c2 c3 c4 c5 c6 c7 c8 c9;obtain ⟨a0,a1,a2,a3,a4,a5,a6,a7,a8,a9⟩:=HCC.out _ hb1;clear hb1;have hrows:Hid (c.rows.all (fun r=>r.length==c.xs.length)=true):=xF hk rfl HFB.out;go_wp2_with (first | (go_at_call 158;refine (yH _ _).mono ?_;rintro e w' ⟨rfl,hww⟩;rw [hww,show Md.fXs 6=true from rfl]));refine (zB c.xs.length _).mono ?_;rintro e w' ⟨rfl,hww⟩;rw [hww];clear hww
  cases hm1:Md.fewB c.xs.length 64
  rotate_left
  · have hres:Hid (Md.fault c n=47):=by show _=_;exact xg hkb.out HFB.out (by simp [Md.manyBad,hk,Md.fXs,Md.mostXs,hm1])
    go_wp2_with fail
    go_ret;exact ⟨yi hres.out.symm,HB.out.trans (Below.mono HB1.out HB.out.size)⟩
  have hmb:Hid (Md.manyBad c=false):=by show _=_;simp [Md.manyBad,hk,Md.fTerms,Md.fXs,Md.fTable,Md.fRows,Md.mostXs,hm1,hrows.out]
  go_wp2_with (first | (go_at_call 158;refine (yH _ _).mono ?_;rintro e w' ⟨rfl,hww⟩;rw [hww,show Md.fXs 6=true from rfl]));refine (zU _ c.terms n _ (HC.out.below HB1.out).t).mono ?_;rintro e w' ⟨rfl,hww⟩;rw [hww];clear hww;obtain ⟨r,hr⟩:∃ r,yx c.terms n=r:=⟨_,rfl⟩;rw [hr];have HRE:Hid (yx c.terms n=r):=hr;clear hr;go_wp2_with fail
  refine mcA (H88.out _ (HC.out.below HB1.out)) ?_;rintro e w3 ⟨rfl,hb3⟩;have HB3:Hid (Below W.heap.size W w3):=HB1.out.trans (hb3.mono HB1.out.size);clear hb3 a0 a1 a2 a3 a4 a5 a6 a7 a8 a9;obtain ⟨a0,a1,a2,a3,a4,a5,a6,a7,a8,a9⟩:=HCC.out _ HB3.out
  cases hps:(Md.plB n c.x&&Md.plB n c.y&&c.xs.all (Md.plB n))
  · have hres:Hid (Md.fault c n=44):=by show _=_;exact zg hkb.out HFB.out hmb.out (pl1 hps)
    go_wp2_with fail
    go_ret;exact ⟨yi hres.out.symm,HB.out.trans (Below.mono HB3.out HB.out.size)⟩
  rcases xh c.terms n with ⟨h1,h2⟩ | ⟨h1,h2,h3⟩ | ⟨h1,h2,h3⟩
  · obtain rfl:r=44:=HRE.out.symm.trans h1
    have hres:Hid (Md.fault c n=44):=by show _=_;exact zg hkb.out HFB.out hmb.out (pl2 h2)
    go_wp2_with fail
    go_ret;exact ⟨yi hres.out.symm,HB.out.trans (Below.mono HB3.out HB.out.size)⟩
  · obtain rfl:r=45:=HRE.out.symm.trans h1
    have hres:Hid (Md.fault c n=45):=by show _=_;exact xi hkb.out HFB.out hmb.out (pl3 hps h2) h3
    go_wp2_with fail
    go_ret;exact ⟨yi hres.out.symm,HB.out.trans (Below.mono HB3.out HB.out.size)⟩
  · obtain rfl:r=0:=HRE.out.symm.trans h1
    have Hpc:Hid (Md.placesB c n=true/\Md.coefsB c.terms=true):=⟨pl3 hps h2,h3⟩;clear h1 h2 h3 hps
    cases hnk:Md.numB c.k
    · have hres:Hid (Md.fault c n=46):=by show _=_;exact yy hkb.out HFB.out hmb.out Hpc.out.1 Hpc.out.2 (by simp [Md.numsB,hnk])
      go_wp2_with (go_at_call 161;refine (yn _ _).mono ?_;rintro e w' ⟨rfl,hww⟩;rw [hww]);go_ret;exact ⟨yi hres.out.symm,HB.out.trans (Below.mono HB3.out HB.out.size)⟩
    cases hnv:Md.numB c.v
    · have hres:Hid (Md.fault c n=46):=by show _=_;exact yy hkb.out HFB.out hmb.out Hpc.out.1 Hpc.out.2 (by simp [Md.numsB,hnv])
      go_wp2_with (go_at_call 161;refine (yn _ _).mono ?_;rintro e w' ⟨rfl,hww⟩;rw [hww]);go_ret;exact ⟨yi hres.out.symm,HB.out.trans (Below.mono HB3.out HB.out.size)⟩
    go_wp2_with (go_at_call 161;refine (yn _ _).mono ?_;rintro e w' ⟨rfl,hww⟩;rw [hww]);go_loop [7] (fun iv=>∃ k:Nat,iv=.int .i64 (k:Int)/\k<=c.rows.length/\Hid ((c.rows.take k).all (fun r=>r.all Md.numB)=true)) (fun iv=>c.rows.length-(intOf iv).toNat)
    case atStart=>exact ⟨0,rfl,Nat.zero_le _,(show _=_ by simp)⟩
    case round=>
      obtain ⟨k,rfl,hkk,hA⟩:=hrel
      by_cases hlt:k<c.rows.length
      · obtain ⟨b,off,rfl,hb,hc⟩:=HRO.out (by omega)
        obtain ⟨u,hcell,hu⟩:=hc k hlt;have hcw:=((HB.out.trans (HB3.out.mono HB.out.size)).cell (p:=⟨b,off+k,none⟩) hb).trans hcell;obtain ⟨ua,uc,rfl,hum,huo⟩:=hu;unfold maxLen at hum;have HUO:Hid (0<(c.rows[k]).length->∃ b off,ua=some ⟨b,off,none⟩/\b<w.heap.size/\∀ j (h:j<(c.rows[k]).length),w.cell? ⟨b,off+j,none⟩=some (.int .i64 (c.rows[k])[j])):=huo;have hkI:(k:Int)<(c.rows.length:Int):=by omega
        clear hc hcell huo;go_wp2_with fail
        go_loop [8] (fun jv=>∃ j:Nat,jv=.int .i64 (j:Int)/\j<=(c.rows[k]).length/\Hid (((c.rows[k]).take j).all Md.numB=true)) (fun jv=>(c.rows[k]).length-(intOf jv).toNat)
        case atStart=>exact ⟨0,rfl,Nat.zero_le _,(show _=_ by simp)⟩
        case round=>
          obtain ⟨j,rfl,hj,hJ⟩:=hrel
          by_cases hjl:j<(c.rows[k]).length
          · obtain ⟨bu,ou,rfl,hbu,hcu⟩:=HUO.out (by omega)
            have hcj:=((HB.out.trans (HB3.out.mono HB.out.size)).cell (p:=⟨bu,ou+j,none⟩) hbu).trans (hcu j hjl);have hjI:(j:Int)<((c.rows[k]).length:Int):=by omega
            clear hcu
            cases hp:Md.numB (c.rows[k])[j]
            · have hres:Hid (Md.fault c n=46):=yy hkb.out HFB.out hmb.out Hpc.out.1 Hpc.out.2 (xm (Md.all_stop hlt (Md.all_stop hjl hp)))
              generalize (c.rows[k])[j]=y at *
              go_wp2_with (go_at_call 161;refine (yn _ _).mono ?_;rintro e w' ⟨rfl,hww⟩;rw [hww]);go_ret;exact ⟨yi hres.out.symm,HB.out.trans (Below.mono HB3.out HB.out.size)⟩
            · have hnx:Hid (((c.rows[k]).take (j+1)).all Md.numB=true):=Md.all_next hJ.out hjl hp
              generalize (c.rows[k])[j]=y at *
              go_wp2_with (go_at_call 161;refine (yn _ _).mono ?_;rintro e w' ⟨rfl,hww⟩;rw [hww]);go_round
              case rel=>exact ⟨j+1,by go_num,by omega,hnx⟩
              case measure=>simp [intOf];omega
          · have hjI:¬ (j:Int)<((c.rows[k]).length:Int):=by omega
            have hnx:Hid ((c.rows.take (k+1)).all (fun r=>r.all Md.numB)=true):=Md.all_next hA.out hlt (Md.all_done hJ.out (by omega));go_wp2_with fail
            go_round
            case rel=>exact ⟨k+1,by go_num,by omega,hnx⟩
            case measure=>simp [intOf];omega
      · have hkI:¬ (k:Int)<(c.rows.length:Int):=by omega
        have hrn:Hid (c.rows.all (fun r=>r.all Md.numB)=true):=Md.all_done hA.out (by omega);go_wp2_with fail
        go_loop [9] (fun iv=>∃ k:Nat,iv=.int .i64 (k:Int)/\k<=c.table.length/\Hid ((c.table.take k).all Md.numB=true)) (fun iv=>c.table.length-(intOf iv).toNat)
        case atStart=>exact ⟨0,rfl,Nat.zero_le _,(show _=_ by simp)⟩
        case round=>
          obtain ⟨j,rfl,hj,hJ⟩:=hrel
          by_cases hjl:j<c.table.length
          · obtain ⟨bu,ou,rfl,hbu,hcu⟩:=HBO.out (by omega)
            have hcj:=((HB.out.trans (HB3.out.mono HB.out.size)).cell (p:=⟨bu,ou+j,none⟩) hbu).trans (hcu j hjl);have hjI:(j:Int)<(c.table.length:Int):=by omega
            clear hcu
            cases hp:Md.numB c.table[j]
            · have hres:Hid (Md.fault c n=46):=yy hkb.out HFB.out hmb.out Hpc.out.1 Hpc.out.2 (xn (Md.all_stop hjl hp))
              generalize c.table[j]=y at *
              go_wp2_with (go_at_call 161;refine (yn _ _).mono ?_;rintro e w' ⟨rfl,hww⟩;rw [hww]);go_ret;exact ⟨yi hres.out.symm,HB.out.trans (Below.mono HB3.out HB.out.size)⟩
            · have hnx:Hid ((c.table.take (j+1)).all Md.numB=true):=Md.all_next hJ.out hjl hp
              generalize c.table[j]=y at *
              go_wp2_with (go_at_call 161;refine (yn _ _).mono ?_;rintro e w' ⟨rfl,hww⟩;rw [hww]);go_round
              case rel=>exact ⟨j+1,by go_num,by omega,hnx⟩
              case measure=>simp [intOf];omega
          · have hjI:¬ (j:Int)<(c.table.length:Int):=by omega
            have hres:Hid (Md.fault c n=0):=xo hkb.out HFB.out hmb.out Hpc.out.1 Hpc.out.2 (by simp [Md.numsB,hnk,hnv,hrn.out,Md.all_done hJ.out (show c.table.length<=j by omega)]);go_wp2_with fail
            go_ret;exact ⟨yi hres.out.symm,HB.out.trans (Below.mono HB3.out HB.out.size)⟩
end Go.Proofs.YtjgghimjnbjlbaaGreatDoor.Doc

namespace Go.Proofs.YtjgghimjnbjlbaaGreatDoor.Doc
open Go.RowKit
set_option maxRecDepth 10000
set_option maxHeartbeats 8000000
theorem y2B (c:Md.Cn) (vt vx vb vr:Value) (n:Int) (w:World) (h:CnAt w c vt vx vb vr) (hk:c.kind=7) (hfg:∀ w',CnAt w' c vt vx vb vr->Calls Tryz.prog 157 #[yh c vt vx vb vr] w' fun e w''=>e=.returned (.bool (Md.plainBad c||Md.listBad c))/\Below w'.heap.size w' w''):Calls Tryz.prog 90 #[yh c vt vx vb vr,.int .i64 n] w fun e w'=>e=.returned (.int .i64 (Md.fault c n))/\Below w.heap.size w w':=by
  have H87:=hid (xd c vt vx vb vr);have H88:=hid (xb c vt vx vb vr n);obtain ⟨ta,tc,rfl,_⟩:=id h.t;obtain ⟨xa,xc,rfl,hxm,hxo⟩:=id h.x;obtain ⟨ba,bc,rfl,hbm,hbo⟩:=id h.b;obtain ⟨ra,rc,rfl,hrm,hro⟩:=id h.r;unfold maxLen at hxm hbm hrm;obtain ⟨W,hW,hbW,c0,c1,c2,c3,c4,c5,c6,c7,c8,c9,hsN,HCC⟩:=yE 7 c.op c.k c.v c.x c.y (.slice ta c.terms.length tc) (.slice xa c.xs.length xc) (.slice ba c.table.length bc) (.slice ra c.rows.length rc) w;have HB:=hid hbW;have HC:=hid (h.below hbW);have HXO:=hid hxo;have HBO:=hid hbo;have HRO:=hid hro;have H85:=hid hfg;clear hfg;unfold yh at H85 H87 H88;rw [hk] at H85 H87 H88;unfold yh;clear h hxo hbo hro hbW;have hkr:Hid (1<=c.kind/\c.kind<=9):=by rw [hk];exact ⟨by decide,by decide⟩
  have hkb:Hid (Md.kindBad c.kind c.op=false):=xe hkr.out (fun h=>by rw [hk] at h;exact absurd h.1 (by decide));go_enter Tryz.func90,Tryz.ntmps90;go_wp2_with fail
  refine mcA (H85.out _ HC.out) ?_;rintro e w1 ⟨rfl,hb1⟩;have HB1:Hid (Below W.heap.size W w1):=hb1
  cases hfb:(Md.plainBad c||Md.listBad c)
  rotate_left
  · have hres:Hid (Md.fault c n=48):=by show _=_;exact xf hkb.out hfb
    go_wp2_with fail
    go_ret;exact ⟨yi hres.out.symm,HB.out.trans (Below.mono hb1 HB.out.size)⟩
  have HFB:Hid ((Md.plainBad c||Md.listBad c)=false):=hfb;clear hfb c0 c1 c2 c3 c4 c5 c6 c7 c8 c9;obtain ⟨a0,a1,a2,a3,a4,a5,a6,a7,a8,a9⟩:=HCC.out _ hb1;clear hb1;have hrows:Hid (c.rows.all (fun r=>r.length==c.xs.length)=true):=xF hk rfl HFB.out;go_wp2_with (first | (go_at_call 158;refine (yH _ _).mono ?_;rintro e w' ⟨rfl,hww⟩;rw [hww,show Md.fXs 7=false from rfl]));refine (zB c.terms.length _).mono ?_;rintro e w' ⟨rfl,hww⟩;rw [hww];clear hww
  cases hm1:Md.fewB c.terms.length 64
  rotate_left
  · have hres:Hid (Md.fault c n=47):=by show _=_;exact xg hkb.out HFB.out (by simp [Md.manyBad,hk,Md.fTerms,hm1])
    go_wp2_with fail
    go_ret;exact ⟨yi hres.out.symm,HB.out.trans (Below.mono HB1.out HB.out.size)⟩
  have hmb:Hid (Md.manyBad c=false):=by show _=_;simp [Md.manyBad,hk,Md.fTerms,Md.fXs,Md.fTable,Md.fRows,hm1,hrows.out]
  go_wp2_with (first | (go_at_call 158;refine (yH _ _).mono ?_;rintro e w' ⟨rfl,hww⟩;rw [hww,show Md.fXs 7=false from rfl]));refine (zU _ c.terms n _ (HC.out.below HB1.out).t).mono ?_;rintro e w' ⟨rfl,hww⟩;rw [hww];clear hww;obtain ⟨r,hr⟩:∃ r,yx c.terms n=r:=⟨_,rfl⟩;rw [hr];have HRE:Hid (yx c.terms n=r):=hr;clear hr;go_wp2_with fail
  refine mcA (H88.out _ (HC.out.below HB1.out)) ?_;rintro e w3 ⟨rfl,hb3⟩;have HB3:Hid (Below W.heap.size W w3):=HB1.out.trans (hb3.mono HB1.out.size);clear hb3 a0 a1 a2 a3 a4 a5 a6 a7 a8 a9;obtain ⟨a0,a1,a2,a3,a4,a5,a6,a7,a8,a9⟩:=HCC.out _ HB3.out
  cases hps:(Md.plB n c.x&&Md.plB n c.y&&c.xs.all (Md.plB n))
  · have hres:Hid (Md.fault c n=44):=by show _=_;exact zg hkb.out HFB.out hmb.out (pl1 hps)
    go_wp2_with fail
    go_ret;exact ⟨yi hres.out.symm,HB.out.trans (Below.mono HB3.out HB.out.size)⟩
  rcases xh c.terms n with ⟨h1,h2⟩ | ⟨h1,h2,h3⟩ | ⟨h1,h2,h3⟩
  · obtain rfl:r=44:=HRE.out.symm.trans h1
    have hres:Hid (Md.fault c n=44):=by show _=_;exact zg hkb.out HFB.out hmb.out (pl2 h2)
    go_wp2_with fail
    go_ret;exact ⟨yi hres.out.symm,HB.out.trans (Below.mono HB3.out HB.out.size)⟩
  · obtain rfl:r=45:=HRE.out.symm.trans h1
    have hres:Hid (Md.fault c n=45):=by show _=_;exact xi hkb.out HFB.out hmb.out (pl3 hps h2) h3
    go_wp2_with fail
    go_ret;exact ⟨yi hres.out.symm,HB.out.trans (Below.mono HB3.out HB.out.size)⟩
  · obtain rfl:r=0:=HRE.out.symm.trans h1
    have Hpc:Hid (Md.placesB c n=true/\Md.coefsB c.terms=true):=⟨pl3 hps h2,h3⟩;clear h1 h2 h3 hps
    cases hnk:Md.numB c.k
    · have hres:Hid (Md.fault c n=46):=by show _=_;exact yy hkb.out HFB.out hmb.out Hpc.out.1 Hpc.out.2 (by simp [Md.numsB,hnk])
      go_wp2_with (go_at_call 161;refine (yn _ _).mono ?_;rintro e w' ⟨rfl,hww⟩;rw [hww]);go_ret;exact ⟨yi hres.out.symm,HB.out.trans (Below.mono HB3.out HB.out.size)⟩
    cases hnv:Md.numB c.v
    · have hres:Hid (Md.fault c n=46):=by show _=_;exact yy hkb.out HFB.out hmb.out Hpc.out.1 Hpc.out.2 (by simp [Md.numsB,hnv])
      go_wp2_with (go_at_call 161;refine (yn _ _).mono ?_;rintro e w' ⟨rfl,hww⟩;rw [hww]);go_ret;exact ⟨yi hres.out.symm,HB.out.trans (Below.mono HB3.out HB.out.size)⟩
    go_wp2_with (go_at_call 161;refine (yn _ _).mono ?_;rintro e w' ⟨rfl,hww⟩;rw [hww]);go_loop [7] (fun iv=>∃ k:Nat,iv=.int .i64 (k:Int)/\k<=c.rows.length/\Hid ((c.rows.take k).all (fun r=>r.all Md.numB)=true)) (fun iv=>c.rows.length-(intOf iv).toNat)
    case atStart=>exact ⟨0,rfl,Nat.zero_le _,(show _=_ by simp)⟩
    case round=>
      obtain ⟨k,rfl,hkk,hA⟩:=hrel
      by_cases hlt:k<c.rows.length
      · obtain ⟨b,off,rfl,hb,hc⟩:=HRO.out (by omega)
        obtain ⟨u,hcell,hu⟩:=hc k hlt;have hcw:=((HB.out.trans (HB3.out.mono HB.out.size)).cell (p:=⟨b,off+k,none⟩) hb).trans hcell;obtain ⟨ua,uc,rfl,hum,huo⟩:=hu;unfold maxLen at hum;have HUO:Hid (0<(c.rows[k]).length->∃ b off,ua=some ⟨b,off,none⟩/\b<w.heap.size/\∀ j (h:j<(c.rows[k]).length),w.cell? ⟨b,off+j,none⟩=some (.int .i64 (c.rows[k])[j])):=huo;have hkI:(k:Int)<(c.rows.length:Int):=by omega
        clear hc hcell huo;go_wp2_with fail
        go_loop [8] (fun jv=>∃ j:Nat,jv=.int .i64 (j:Int)/\j<=(c.rows[k]).length/\Hid (((c.rows[k]).take j).all Md.numB=true)) (fun jv=>(c.rows[k]).length-(intOf jv).toNat)
        case atStart=>exact ⟨0,rfl,Nat.zero_le _,(show _=_ by simp)⟩
        case round=>
          obtain ⟨j,rfl,hj,hJ⟩:=hrel
          by_cases hjl:j<(c.rows[k]).length
          · obtain ⟨bu,ou,rfl,hbu,hcu⟩:=HUO.out (by omega)
            have hcj:=((HB.out.trans (HB3.out.mono HB.out.size)).cell (p:=⟨bu,ou+j,none⟩) hbu).trans (hcu j hjl);have hjI:(j:Int)<((c.rows[k]).length:Int):=by omega
            clear hcu
            cases hp:Md.numB (c.rows[k])[j]
            · have hres:Hid (Md.fault c n=46):=yy hkb.out HFB.out hmb.out Hpc.out.1 Hpc.out.2 (xm (Md.all_stop hlt (Md.all_stop hjl hp)))
              generalize (c.rows[k])[j]=y at *
              go_wp2_with (go_at_call 161;refine (yn _ _).mono ?_;rintro e w' ⟨rfl,hww⟩;rw [hww]);go_ret;exact ⟨yi hres.out.symm,HB.out.trans (Below.mono HB3.out HB.out.size)⟩
            · have hnx:Hid (((c.rows[k]).take (j+1)).all Md.numB=true):=Md.all_next hJ.out hjl hp
              generalize (c.rows[k])[j]=y at *
              go_wp2_with (go_at_call 161;refine (yn _ _).mono ?_;rintro e w' ⟨rfl,hww⟩;rw [hww]);go_round
              case rel=>exact ⟨j+1,by go_num,by omega,hnx⟩
              case measure=>simp [intOf];omega
          · have hjI:¬ (j:Int)<((c.rows[k]).length:Int):=by omega
            have hnx:Hid ((c.rows.take (k+1)).all (fun r=>r.all Md.numB)=true):=Md.all_next hA.out hlt (Md.all_done hJ.out (by omega));go_wp2_with fail
            go_round
            case rel=>exact ⟨k+1,by go_num,by omega,hnx⟩
            case measure=>simp [intOf];omega
      · have hkI:¬ (k:Int)<(c.rows.length:Int):=by omega
        have hrn:Hid (c.rows.all (fun r=>r.all Md.numB)=true):=Md.all_done hA.out (by omega);go_wp2_with fail
        go_loop [9] (fun iv=>∃ k:Nat,iv=.int .i64 (k:Int)/\k<=c.table.length/\Hid ((c.table.take k).all Md.numB=true)) (fun iv=>c.table.length-(intOf iv).toNat)
        case atStart=>exact ⟨0,rfl,Nat.zero_le _,(show _=_ by simp)⟩
        case round=>
          obtain ⟨j,rfl,hj,hJ⟩:=hrel
          by_cases hjl:j<c.table.length
          · obtain ⟨bu,ou,rfl,hbu,hcu⟩:=HBO.out (by omega)
            have hcj:=((HB.out.trans (HB3.out.mono HB.out.size)).cell (p:=⟨bu,ou+j,none⟩) hbu).trans (hcu j hjl);have hjI:(j:Int)<(c.table.length:Int):=by omega
            clear hcu
            cases hp:Md.numB c.table[j]
            · have hres:Hid (Md.fault c n=46):=yy hkb.out HFB.out hmb.out Hpc.out.1 Hpc.out.2 (xn (Md.all_stop hjl hp))
              generalize c.table[j]=y at *
              go_wp2_with (go_at_call 161;refine (yn _ _).mono ?_;rintro e w' ⟨rfl,hww⟩;rw [hww]);go_ret;exact ⟨yi hres.out.symm,HB.out.trans (Below.mono HB3.out HB.out.size)⟩
            · have hnx:Hid ((c.table.take (j+1)).all Md.numB=true):=Md.all_next hJ.out hjl hp
              generalize c.table[j]=y at *
              go_wp2_with (go_at_call 161;refine (yn _ _).mono ?_;rintro e w' ⟨rfl,hww⟩;rw [hww]);go_round
              case rel=>exact ⟨j+1,by go_num,by omega,hnx⟩
              case measure=>simp [intOf];omega
          · have hjI:¬ (j:Int)<(c.table.length:Int):=by omega
            have hres:Hid (Md.fault c n=0):=xo hkb.out HFB.out hmb.out Hpc.out.1 Hpc.out.2 (by simp [Md.numsB,hnk,hnv,hrn.out,Md.all_done hJ.out (show c.table.length<=j by omega)]);go_wp2_with fail
            go_ret;exact ⟨yi hres.out.symm,HB.out.trans (Below.mono HB3.out HB.out.size)⟩
end Go.Proofs.YtjgghimjnbjlbaaGreatDoor.Doc

namespace Go.Proofs.YtjgghimjnbjlbaaGreatDoor.Doc
open Go.RowKit
set_option maxRecDepth 10000
set_option maxHeartbeats 8000000
theorem y2C (c:Md.Cn) (vt vx vb vr:Value) (n:Int) (w:World) (h:CnAt w c vt vx vb vr) (hk:c.kind=8) (hfg:∀ w',CnAt w' c vt vx vb vr->Calls Tryz.prog 157 #[yh c vt vx vb vr] w' fun e w''=>e=.returned (.bool (Md.plainBad c||Md.listBad c))/\Below w'.heap.size w' w''):Calls Tryz.prog 90 #[yh c vt vx vb vr,.int .i64 n] w fun e w'=>e=.returned (.int .i64 (Md.fault c n))/\Below w.heap.size w w':=by
  have H87:=hid (xd c vt vx vb vr);have H88:=hid (xb c vt vx vb vr n);obtain ⟨ta,tc,rfl,_⟩:=id h.t;obtain ⟨xa,xc,rfl,hxm,hxo⟩:=id h.x;obtain ⟨ba,bc,rfl,hbm,hbo⟩:=id h.b;obtain ⟨ra,rc,rfl,hrm,hro⟩:=id h.r;unfold maxLen at hxm hbm hrm;obtain ⟨W,hW,hbW,c0,c1,c2,c3,c4,c5,c6,c7,c8,c9,hsN,HCC⟩:=yE 8 c.op c.k c.v c.x c.y (.slice ta c.terms.length tc) (.slice xa c.xs.length xc) (.slice ba c.table.length bc) (.slice ra c.rows.length rc) w;have HB:=hid hbW;have HC:=hid (h.below hbW);have HXO:=hid hxo;have HBO:=hid hbo;have HRO:=hid hro;have H85:=hid hfg;clear hfg;unfold yh at H85 H87 H88;rw [hk] at H85 H87 H88;unfold yh;clear h hxo hbo hro hbW;have hkr:Hid (1<=c.kind/\c.kind<=9):=by rw [hk];exact ⟨by decide,by decide⟩
  have hkb:Hid (Md.kindBad c.kind c.op=false):=xe hkr.out (fun h=>by rw [hk] at h;exact absurd h.1 (by decide));go_enter Tryz.func90,Tryz.ntmps90;go_wp2_with fail
  refine mcA (H85.out _ HC.out) ?_;rintro e w1 ⟨rfl,hb1⟩;have HB1:Hid (Below W.heap.size W w1):=hb1
  cases hfb:(Md.plainBad c||Md.listBad c)
  rotate_left
  · have hres:Hid (Md.fault c n=48):=by show _=_;exact xf hkb.out hfb
    go_wp2_with fail
    go_ret;exact ⟨yi hres.out.symm,HB.out.trans (Below.mono hb1 HB.out.size)⟩
  have HFB:Hid ((Md.plainBad c||Md.listBad c)=false):=hfb;clear hfb c0 c1 c2 c3 c4 c5 c6 c7 c8 c9;obtain ⟨a0,a1,a2,a3,a4,a5,a6,a7,a8,a9⟩:=HCC.out _ hb1;clear hb1;go_wp2_with (first | (go_at_call 158;refine (yH _ _).mono ?_;rintro e w' ⟨rfl,hww⟩;rw [hww,show Md.fXs 8=true from rfl]));refine (zB c.xs.length _).mono ?_;rintro e w' ⟨rfl,hww⟩;rw [hww];clear hww
  cases hm1:Md.fewB c.xs.length 64
  rotate_left
  · have hres:Hid (Md.fault c n=47):=by show _=_;exact xg hkb.out HFB.out (Ql hk (.inl hm1))
    go_wp2_with fail
    go_ret;exact ⟨yi hres.out.symm,HB.out.trans (Below.mono HB1.out HB.out.size)⟩
  go_wp2_with (first | (go_at_call 158;refine (yH _ _).mono ?_;rintro e w' ⟨rfl,hww⟩;rw [hww,show Md.fXs 8=true from rfl]));refine mcA (H87.out _ (HC.out.below HB1.out)) ?_;rintro e w2 ⟨rfl,hb2⟩;have HB2:Hid (Below W.heap.size W w2):=HB1.out.trans (hb2.mono HB1.out.size);clear hb2
  cases hm2:(decide (8<c.xs.length)||Md.fewB c.rows.length 64||!(c.rows.all fun r=>r.length==c.xs.length))
  rotate_left
  · have hres:Hid (Md.fault c n=47):=by show _=_;exact xg hkb.out HFB.out (Ql hk (.inr hm2))
    go_wp2_with fail
    go_ret;exact ⟨yi hres.out.symm,HB.out.trans (Below.mono HB2.out HB.out.size)⟩
  have hmb:Hid (Md.manyBad c=false):=y2E hk hm1 hm2;clear HB1 a0 a1 a2 a3 a4 a5 a6 a7 a8 a9 hm1 hm2;obtain ⟨a0,a1,a2,a3,a4,a5,a6,a7,a8,a9⟩:=HCC.out _ HB2.out;have HB1:Hid (Below W.heap.size W w2):=HB2.out;go_wp2_with (first | (go_at_call 158;refine (yH _ _).mono ?_;rintro e w' ⟨rfl,hww⟩;rw [hww,show Md.fXs 8=true from rfl]));refine (zU _ c.terms n _ (HC.out.below HB1.out).t).mono ?_;rintro e w' ⟨rfl,hww⟩;rw [hww];clear hww;obtain ⟨r,hr⟩:∃ r,yx c.terms n=r:=⟨_,rfl⟩;rw [hr];have HRE:Hid (yx c.terms n=r):=hr;clear hr;go_wp2_with fail
  refine mcA (H88.out _ (HC.out.below HB1.out)) ?_;rintro e w3 ⟨rfl,hb3⟩;have HB3:Hid (Below W.heap.size W w3):=HB1.out.trans (hb3.mono HB1.out.size);clear hb3 a0 a1 a2 a3 a4 a5 a6 a7 a8 a9;obtain ⟨a0,a1,a2,a3,a4,a5,a6,a7,a8,a9⟩:=HCC.out _ HB3.out
  cases hps:(Md.plB n c.x&&Md.plB n c.y&&c.xs.all (Md.plB n))
  · have hres:Hid (Md.fault c n=44):=by show _=_;exact zg hkb.out HFB.out hmb.out (pl1 hps)
    go_wp2_with fail
    go_ret;exact ⟨yi hres.out.symm,HB.out.trans (Below.mono HB3.out HB.out.size)⟩
  rcases xh c.terms n with ⟨h1,h2⟩ | ⟨h1,h2,h3⟩ | ⟨h1,h2,h3⟩
  · obtain rfl:r=44:=HRE.out.symm.trans h1
    have hres:Hid (Md.fault c n=44):=by show _=_;exact zg hkb.out HFB.out hmb.out (pl2 h2)
    go_wp2_with fail
    go_ret;exact ⟨yi hres.out.symm,HB.out.trans (Below.mono HB3.out HB.out.size)⟩
  · obtain rfl:r=45:=HRE.out.symm.trans h1
    have hres:Hid (Md.fault c n=45):=by show _=_;exact xi hkb.out HFB.out hmb.out (pl3 hps h2) h3
    go_wp2_with fail
    go_ret;exact ⟨yi hres.out.symm,HB.out.trans (Below.mono HB3.out HB.out.size)⟩
  · obtain rfl:r=0:=HRE.out.symm.trans h1
    have Hpc:Hid (Md.placesB c n=true/\Md.coefsB c.terms=true):=⟨pl3 hps h2,h3⟩;clear h1 h2 h3 hps
    cases hnk:Md.numB c.k
    · have hres:Hid (Md.fault c n=46):=by show _=_;exact yy hkb.out HFB.out hmb.out Hpc.out.1 Hpc.out.2 (by simp [Md.numsB,hnk])
      go_wp2_with (go_at_call 161;refine (yn _ _).mono ?_;rintro e w' ⟨rfl,hww⟩;rw [hww]);go_ret;exact ⟨yi hres.out.symm,HB.out.trans (Below.mono HB3.out HB.out.size)⟩
    cases hnv:Md.numB c.v
    · have hres:Hid (Md.fault c n=46):=by show _=_;exact yy hkb.out HFB.out hmb.out Hpc.out.1 Hpc.out.2 (by simp [Md.numsB,hnv])
      go_wp2_with (go_at_call 161;refine (yn _ _).mono ?_;rintro e w' ⟨rfl,hww⟩;rw [hww]);go_ret;exact ⟨yi hres.out.symm,HB.out.trans (Below.mono HB3.out HB.out.size)⟩
    go_wp2_with (go_at_call 161;refine (yn _ _).mono ?_;rintro e w' ⟨rfl,hww⟩;rw [hww]);go_loop [7] (fun iv=>∃ k:Nat,iv=.int .i64 (k:Int)/\k<=c.rows.length/\Hid ((c.rows.take k).all (fun r=>r.all Md.numB)=true)) (fun iv=>c.rows.length-(intOf iv).toNat)
    case atStart=>exact ⟨0,rfl,Nat.zero_le _,(show _=_ by simp)⟩
    case round=>
      obtain ⟨k,rfl,hkk,hA⟩:=hrel
      by_cases hlt:k<c.rows.length
      · obtain ⟨b,off,rfl,hb,hc⟩:=HRO.out (by omega)
        obtain ⟨u,hcell,hu⟩:=hc k hlt;have hcw:=((HB.out.trans (HB3.out.mono HB.out.size)).cell (p:=⟨b,off+k,none⟩) hb).trans hcell;obtain ⟨ua,uc,rfl,hum,huo⟩:=hu;unfold maxLen at hum;have HUO:Hid (0<(c.rows[k]).length->∃ b off,ua=some ⟨b,off,none⟩/\b<w.heap.size/\∀ j (h:j<(c.rows[k]).length),w.cell? ⟨b,off+j,none⟩=some (.int .i64 (c.rows[k])[j])):=huo;have hkI:(k:Int)<(c.rows.length:Int):=by omega
        clear hc hcell huo;go_wp2_with fail
        go_loop [8] (fun jv=>∃ j:Nat,jv=.int .i64 (j:Int)/\j<=(c.rows[k]).length/\Hid (((c.rows[k]).take j).all Md.numB=true)) (fun jv=>(c.rows[k]).length-(intOf jv).toNat)
        case atStart=>exact ⟨0,rfl,Nat.zero_le _,(show _=_ by simp)⟩
        case round=>
          obtain ⟨j,rfl,hj,hJ⟩:=hrel
          by_cases hjl:j<(c.rows[k]).length
          · obtain ⟨bu,ou,rfl,hbu,hcu⟩:=HUO.out (by omega)
            have hcj:=((HB.out.trans (HB3.out.mono HB.out.size)).cell (p:=⟨bu,ou+j,none⟩) hbu).trans (hcu j hjl);have hjI:(j:Int)<((c.rows[k]).length:Int):=by omega
            clear hcu
            cases hp:Md.numB (c.rows[k])[j]
            · have hres:Hid (Md.fault c n=46):=yy hkb.out HFB.out hmb.out Hpc.out.1 Hpc.out.2 (xm (Md.all_stop hlt (Md.all_stop hjl hp)))
              generalize (c.rows[k])[j]=y at *
              go_wp2_with (go_at_call 161;refine (yn _ _).mono ?_;rintro e w' ⟨rfl,hww⟩;rw [hww]);go_ret;exact ⟨yi hres.out.symm,HB.out.trans (Below.mono HB3.out HB.out.size)⟩
            · have hnx:Hid (((c.rows[k]).take (j+1)).all Md.numB=true):=Md.all_next hJ.out hjl hp
              generalize (c.rows[k])[j]=y at *
              go_wp2_with (go_at_call 161;refine (yn _ _).mono ?_;rintro e w' ⟨rfl,hww⟩;rw [hww]);go_round
              case rel=>exact ⟨j+1,by go_num,by omega,hnx⟩
              case measure=>simp [intOf];omega
          · have hjI:¬ (j:Int)<((c.rows[k]).length:Int):=by omega
            have hnx:Hid ((c.rows.take (k+1)).all (fun r=>r.all Md.numB)=true):=Md.all_next hA.out hlt (Md.all_done hJ.out (by omega));go_wp2_with fail
            go_round
            case rel=>exact ⟨k+1,by go_num,by omega,hnx⟩
            case measure=>simp [intOf];omega
      · have hkI:¬ (k:Int)<(c.rows.length:Int):=by omega
        have hrn:Hid (c.rows.all (fun r=>r.all Md.numB)=true):=Md.all_done hA.out (by omega);go_wp2_with fail
        go_loop [9] (fun iv=>∃ k:Nat,iv=.int .i64 (k:Int)/\k<=c.table.length/\Hid ((c.table.take k).all Md.numB=true)) (fun iv=>c.table.length-(intOf iv).toNat)
        case atStart=>exact ⟨0,rfl,Nat.zero_le _,(show _=_ by simp)⟩
        case round=>
          obtain ⟨j,rfl,hj,hJ⟩:=hrel
          by_cases hjl:j<c.table.length
          · obtain ⟨bu,ou,rfl,hbu,hcu⟩:=HBO.out (by omega)
            have hcj:=((HB.out.trans (HB3.out.mono HB.out.size)).cell (p:=⟨bu,ou+j,none⟩) hbu).trans (hcu j hjl);have hjI:(j:Int)<(c.table.length:Int):=by omega
            clear hcu
            cases hp:Md.numB c.table[j]
            · have hres:Hid (Md.fault c n=46):=yy hkb.out HFB.out hmb.out Hpc.out.1 Hpc.out.2 (xn (Md.all_stop hjl hp))
              generalize c.table[j]=y at *
              go_wp2_with (go_at_call 161;refine (yn _ _).mono ?_;rintro e w' ⟨rfl,hww⟩;rw [hww]);go_ret;exact ⟨yi hres.out.symm,HB.out.trans (Below.mono HB3.out HB.out.size)⟩
            · have hnx:Hid ((c.table.take (j+1)).all Md.numB=true):=Md.all_next hJ.out hjl hp
              generalize c.table[j]=y at *
              go_wp2_with (go_at_call 161;refine (yn _ _).mono ?_;rintro e w' ⟨rfl,hww⟩;rw [hww]);go_round
              case rel=>exact ⟨j+1,by go_num,by omega,hnx⟩
              case measure=>simp [intOf];omega
          · have hjI:¬ (j:Int)<(c.table.length:Int):=by omega
            have hres:Hid (Md.fault c n=0):=xo hkb.out HFB.out hmb.out Hpc.out.1 Hpc.out.2 (by simp [Md.numsB,hnk,hnv,hrn.out,Md.all_done hJ.out (show c.table.length<=j by omega)]);go_wp2_with fail
            go_ret;exact ⟨yi hres.out.symm,HB.out.trans (Below.mono HB3.out HB.out.size)⟩
end Go.Proofs.YtjgghimjnbjlbaaGreatDoor.Doc

namespace Go.Proofs.YtjgghimjnbjlbaaGreatDoor.Doc
open Go.RowKit
set_option maxRecDepth 10000
set_option maxHeartbeats 8000000
theorem y2D (c:Md.Cn) (vt vx vb vr:Value) (n:Int) (w:World) (h:CnAt w c vt vx vb vr) (hk:c.kind=9) (hfg:∀ w',CnAt w' c vt vx vb vr->Calls Tryz.prog 157 #[yh c vt vx vb vr] w' fun e w''=>e=.returned (.bool (Md.plainBad c||Md.listBad c))/\Below w'.heap.size w' w''):Calls Tryz.prog 90 #[yh c vt vx vb vr,.int .i64 n] w fun e w'=>e=.returned (.int .i64 (Md.fault c n))/\Below w.heap.size w w':=by
  have H87:=hid (xd c vt vx vb vr);have H88:=hid (xb c vt vx vb vr n);obtain ⟨ta,tc,rfl,_⟩:=id h.t;obtain ⟨xa,xc,rfl,hxm,hxo⟩:=id h.x;obtain ⟨ba,bc,rfl,hbm,hbo⟩:=id h.b;obtain ⟨ra,rc,rfl,hrm,hro⟩:=id h.r;unfold maxLen at hxm hbm hrm;obtain ⟨W,hW,hbW,c0,c1,c2,c3,c4,c5,c6,c7,c8,c9,hsN,HCC⟩:=yE 9 c.op c.k c.v c.x c.y (.slice ta c.terms.length tc) (.slice xa c.xs.length xc) (.slice ba c.table.length bc) (.slice ra c.rows.length rc) w;have HB:=hid hbW;have HC:=hid (h.below hbW);have HXO:=hid hxo;have HBO:=hid hbo;have HRO:=hid hro;have H85:=hid hfg;clear hfg;unfold yh at H85 H87 H88;rw [hk] at H85 H87 H88;unfold yh;clear h hxo hbo hro hbW;have hkr:Hid (1<=c.kind/\c.kind<=9):=by rw [hk];exact ⟨by decide,by decide⟩
  by_cases hop1:c.op<1
  · have hres:Hid (Md.fault c n=43):=YG (by rw [hk];rfl) (.inl hop1)
    go_enter Tryz.func90,Tryz.ntmps90;go_wp2_with fail
    go_ret;exact ⟨yi hres.out.symm,HB.out⟩
  by_cases hop2:3<c.op
  · have hres:Hid (Md.fault c n=43):=YG (by rw [hk];rfl) (.inr hop2)
    go_enter Tryz.func90,Tryz.ntmps90;go_wp2_with fail
    go_ret;exact ⟨yi hres.out.symm,HB.out⟩
  have hkb:Hid (Md.kindBad c.kind c.op=false):=xe hkr.out (fun h=>by omega);go_enter Tryz.func90,Tryz.ntmps90;go_wp2_with fail
  refine mcA (H85.out _ HC.out) ?_;rintro e w1 ⟨rfl,hb1⟩;have HB1:Hid (Below W.heap.size W w1):=hb1
  cases hfb:(Md.plainBad c||Md.listBad c)
  rotate_left
  · have hres:Hid (Md.fault c n=48):=by show _=_;exact xf hkb.out hfb
    go_wp2_with fail
    go_ret;exact ⟨yi hres.out.symm,HB.out.trans (Below.mono hb1 HB.out.size)⟩
  have HFB:Hid ((Md.plainBad c||Md.listBad c)=false):=hfb;clear hfb c0 c1 c2 c3 c4 c5 c6 c7 c8 c9;obtain ⟨a0,a1,a2,a3,a4,a5,a6,a7,a8,a9⟩:=HCC.out _ hb1;clear hb1;have hrows:Hid (c.rows.all (fun r=>r.length==c.xs.length)=true):=xF hk rfl HFB.out;go_wp2_with (first | (go_at_call 158;refine (yH _ _).mono ?_;rintro e w' ⟨rfl,hww⟩;rw [hww,show Md.fXs 9=true from rfl]));refine (zB c.xs.length _).mono ?_;rintro e w' ⟨rfl,hww⟩;rw [hww];clear hww
  cases hm1:Md.fewB c.xs.length 64
  rotate_left
  · have hres:Hid (Md.fault c n=47):=by show _=_;exact xg hkb.out HFB.out (by simp [Md.manyBad,hk,Md.fXs,Md.mostXs,hm1])
    go_wp2_with fail
    go_ret;exact ⟨yi hres.out.symm,HB.out.trans (Below.mono HB1.out HB.out.size)⟩
  have hmb:Hid (Md.manyBad c=false):=by show _=_;simp [Md.manyBad,hk,Md.fTerms,Md.fXs,Md.fTable,Md.fRows,Md.mostXs,hm1,hrows.out]
  go_wp2_with (first | (go_at_call 158;refine (yH _ _).mono ?_;rintro e w' ⟨rfl,hww⟩;rw [hww,show Md.fXs 9=true from rfl]));refine (zU _ c.terms n _ (HC.out.below HB1.out).t).mono ?_;rintro e w' ⟨rfl,hww⟩;rw [hww];clear hww;obtain ⟨r,hr⟩:∃ r,yx c.terms n=r:=⟨_,rfl⟩;rw [hr];have HRE:Hid (yx c.terms n=r):=hr;clear hr;go_wp2_with fail
  refine mcA (H88.out _ (HC.out.below HB1.out)) ?_;rintro e w3 ⟨rfl,hb3⟩;have HB3:Hid (Below W.heap.size W w3):=HB1.out.trans (hb3.mono HB1.out.size);clear hb3 a0 a1 a2 a3 a4 a5 a6 a7 a8 a9;obtain ⟨a0,a1,a2,a3,a4,a5,a6,a7,a8,a9⟩:=HCC.out _ HB3.out
  cases hps:(Md.plB n c.x&&Md.plB n c.y&&c.xs.all (Md.plB n))
  · have hres:Hid (Md.fault c n=44):=by show _=_;exact zg hkb.out HFB.out hmb.out (pl1 hps)
    go_wp2_with fail
    go_ret;exact ⟨yi hres.out.symm,HB.out.trans (Below.mono HB3.out HB.out.size)⟩
  rcases xh c.terms n with ⟨h1,h2⟩ | ⟨h1,h2,h3⟩ | ⟨h1,h2,h3⟩
  · obtain rfl:r=44:=HRE.out.symm.trans h1
    have hres:Hid (Md.fault c n=44):=by show _=_;exact zg hkb.out HFB.out hmb.out (pl2 h2)
    go_wp2_with fail
    go_ret;exact ⟨yi hres.out.symm,HB.out.trans (Below.mono HB3.out HB.out.size)⟩
  · obtain rfl:r=45:=HRE.out.symm.trans h1
    have hres:Hid (Md.fault c n=45):=by show _=_;exact xi hkb.out HFB.out hmb.out (pl3 hps h2) h3
    go_wp2_with fail
    go_ret;exact ⟨yi hres.out.symm,HB.out.trans (Below.mono HB3.out HB.out.size)⟩
  · obtain rfl:r=0:=HRE.out.symm.trans h1
    have Hpc:Hid (Md.placesB c n=true/\Md.coefsB c.terms=true):=⟨pl3 hps h2,h3⟩;clear h1 h2 h3 hps
    cases hnk:Md.numB c.k
    · have hres:Hid (Md.fault c n=46):=by show _=_;exact yy hkb.out HFB.out hmb.out Hpc.out.1 Hpc.out.2 (by simp [Md.numsB,hnk])
      go_wp2_with (go_at_call 161;refine (yn _ _).mono ?_;rintro e w' ⟨rfl,hww⟩;rw [hww]);go_ret;exact ⟨yi hres.out.symm,HB.out.trans (Below.mono HB3.out HB.out.size)⟩
    cases hnv:Md.numB c.v
    · have hres:Hid (Md.fault c n=46):=by show _=_;exact yy hkb.out HFB.out hmb.out Hpc.out.1 Hpc.out.2 (by simp [Md.numsB,hnv])
      go_wp2_with (go_at_call 161;refine (yn _ _).mono ?_;rintro e w' ⟨rfl,hww⟩;rw [hww]);go_ret;exact ⟨yi hres.out.symm,HB.out.trans (Below.mono HB3.out HB.out.size)⟩
    go_wp2_with (go_at_call 161;refine (yn _ _).mono ?_;rintro e w' ⟨rfl,hww⟩;rw [hww]);go_loop [7] (fun iv=>∃ k:Nat,iv=.int .i64 (k:Int)/\k<=c.rows.length/\Hid ((c.rows.take k).all (fun r=>r.all Md.numB)=true)) (fun iv=>c.rows.length-(intOf iv).toNat)
    case atStart=>exact ⟨0,rfl,Nat.zero_le _,(show _=_ by simp)⟩
    case round=>
      obtain ⟨k,rfl,hkk,hA⟩:=hrel
      by_cases hlt:k<c.rows.length
      · obtain ⟨b,off,rfl,hb,hc⟩:=HRO.out (by omega)
        obtain ⟨u,hcell,hu⟩:=hc k hlt;have hcw:=((HB.out.trans (HB3.out.mono HB.out.size)).cell (p:=⟨b,off+k,none⟩) hb).trans hcell;obtain ⟨ua,uc,rfl,hum,huo⟩:=hu;unfold maxLen at hum;have HUO:Hid (0<(c.rows[k]).length->∃ b off,ua=some ⟨b,off,none⟩/\b<w.heap.size/\∀ j (h:j<(c.rows[k]).length),w.cell? ⟨b,off+j,none⟩=some (.int .i64 (c.rows[k])[j])):=huo;have hkI:(k:Int)<(c.rows.length:Int):=by omega
        clear hc hcell huo;go_wp2_with fail
        go_loop [8] (fun jv=>∃ j:Nat,jv=.int .i64 (j:Int)/\j<=(c.rows[k]).length/\Hid (((c.rows[k]).take j).all Md.numB=true)) (fun jv=>(c.rows[k]).length-(intOf jv).toNat)
        case atStart=>exact ⟨0,rfl,Nat.zero_le _,(show _=_ by simp)⟩
        case round=>
          obtain ⟨j,rfl,hj,hJ⟩:=hrel
          by_cases hjl:j<(c.rows[k]).length
          · obtain ⟨bu,ou,rfl,hbu,hcu⟩:=HUO.out (by omega)
            have hcj:=((HB.out.trans (HB3.out.mono HB.out.size)).cell (p:=⟨bu,ou+j,none⟩) hbu).trans (hcu j hjl);have hjI:(j:Int)<((c.rows[k]).length:Int):=by omega
            clear hcu
            cases hp:Md.numB (c.rows[k])[j]
            · have hres:Hid (Md.fault c n=46):=yy hkb.out HFB.out hmb.out Hpc.out.1 Hpc.out.2 (xm (Md.all_stop hlt (Md.all_stop hjl hp)))
              generalize (c.rows[k])[j]=y at *
              go_wp2_with (go_at_call 161;refine (yn _ _).mono ?_;rintro e w' ⟨rfl,hww⟩;rw [hww]);go_ret;exact ⟨yi hres.out.symm,HB.out.trans (Below.mono HB3.out HB.out.size)⟩
            · have hnx:Hid (((c.rows[k]).take (j+1)).all Md.numB=true):=Md.all_next hJ.out hjl hp
              generalize (c.rows[k])[j]=y at *
              go_wp2_with (go_at_call 161;refine (yn _ _).mono ?_;rintro e w' ⟨rfl,hww⟩;rw [hww]);go_round
              case rel=>exact ⟨j+1,by go_num,by omega,hnx⟩
              case measure=>simp [intOf];omega
          · have hjI:¬ (j:Int)<((c.rows[k]).length:Int):=by omega
            have hnx:Hid ((c.rows.take (k+1)).all (fun r=>r.all Md.numB)=true):=Md.all_next hA.out hlt (Md.all_done hJ.out (by omega));go_wp2_with fail
            go_round
            case rel=>exact ⟨k+1,by go_num,by omega,hnx⟩
            case measure=>simp [intOf];omega
      · have hkI:¬ (k:Int)<(c.rows.length:Int):=by omega
        have hrn:Hid (c.rows.all (fun r=>r.all Md.numB)=true):=Md.all_done hA.out (by omega);go_wp2_with fail
        go_loop [9] (fun iv=>∃ k:Nat,iv=.int .i64 (k:Int)/\k<=c.table.length/\Hid ((c.table.take k).all Md.numB=true)) (fun iv=>c.table.length-(intOf iv).toNat)
        case atStart=>exact ⟨0,rfl,Nat.zero_le _,(show _=_ by simp)⟩
        case round=>
          obtain ⟨j,rfl,hj,hJ⟩:=hrel
          by_cases hjl:j<c.table.length
          · obtain ⟨bu,ou,rfl,hbu,hcu⟩:=HBO.out (by omega)
            have hcj:=((HB.out.trans (HB3.out.mono HB.out.size)).cell (p:=⟨bu,ou+j,none⟩) hbu).trans (hcu j hjl);have hjI:(j:Int)<(c.table.length:Int):=by omega
            clear hcu
            cases hp:Md.numB c.table[j]
            · have hres:Hid (Md.fault c n=46):=yy hkb.out HFB.out hmb.out Hpc.out.1 Hpc.out.2 (xn (Md.all_stop hjl hp))
              generalize c.table[j]=y at *
              go_wp2_with (go_at_call 161;refine (yn _ _).mono ?_;rintro e w' ⟨rfl,hww⟩;rw [hww]);go_ret;exact ⟨yi hres.out.symm,HB.out.trans (Below.mono HB3.out HB.out.size)⟩
            · have hnx:Hid ((c.table.take (j+1)).all Md.numB=true):=Md.all_next hJ.out hjl hp
              generalize c.table[j]=y at *
              go_wp2_with (go_at_call 161;refine (yn _ _).mono ?_;rintro e w' ⟨rfl,hww⟩;rw [hww]);go_round
              case rel=>exact ⟨j+1,by go_num,by omega,hnx⟩
              case measure=>simp [intOf];omega
          · have hjI:¬ (j:Int)<(c.table.length:Int):=by omega
            have hres:Hid (Md.fault c n=0):=xo hkb.out HFB.out hmb.out Hpc.out.1 Hpc.out.2 (by simp [Md.numsB,hnk,hnv,hrn.out,Md.all_done hJ.out (show c.table.length<=j by omega)]);go_wp2_with fail
            go_ret;exact ⟨yi hres.out.symm,HB.out.trans (Below.mono HB3.out HB.out.size)⟩
end Go.Proofs.YtjgghimjnbjlbaaGreatDoor.Doc

namespace Go.Proofs.YtjgghimjnbjlbaaGreatDoor.Doc
open Go.RowKit
set_option maxRecDepth 10000
set_option maxHeartbeats 8000000
theorem y2t {c:Md.Cn} {n:Int} (h:c.kind<1∨9<c.kind):Md.fault c n=43:=by
  unfold Md.fault Md.kindBad;rw [decide_eq_true h];rfl
theorem y2u (c:Md.Cn) (vt vx vb vr:Value) (n:Int) (w:World) (h:CnAt w c vt vx vb vr) (hk:c.kind<1∨9<c.kind):Calls Tryz.prog 90 #[yh c vt vx vb vr,.int .i64 n] w fun e w'=>e=.returned (.int .i64 (Md.fault c n))/\Below w.heap.size w w':=by
  have hres:Hid (Md.fault c n=43):=y2t hk;obtain ⟨ta,tc,rfl,_⟩:=h.t.form;obtain ⟨xa,xc,rfl,_⟩:=h.x.form;obtain ⟨ba,bc,rfl,_⟩:=h.b.form;obtain ⟨ra,rc,rfl,_⟩:=h.r.form;clear h;unfold yh;rcases hk with hk | hk
  · go_enter Tryz.func90,Tryz.ntmps90
    go_wp2_with fail
    go_ret;exact ⟨yi hres.out.symm,(Below.refl _ _).alloc (Nat.le_refl _) _⟩
  · have hk1:¬ c.kind<1:=by omega
    go_enter Tryz.func90,Tryz.ntmps90;go_wp2_with fail
    go_ret;exact ⟨yi hres.out.symm,(Below.refl _ _).alloc (Nat.le_refl _) _⟩
def Qh:Prop:=∀ (c:Md.Cn) (vt vx vb vr:Value) (w:World),CnAt w c vt vx vb vr->1<=c.kind/\c.kind<=9->Calls Tryz.prog 157 #[yh c vt vx vb vr] w fun e w'=>e=.returned (.bool (Md.plainBad c||Md.listBad c))/\Below w.heap.size w w'
theorem Qi {k:Int} (h1:1<=k) (h2:k<=9):k=1∨k=2∨k=3∨k=4∨k=5∨k=6∨k=7∨k=8∨k=9:=by omega
theorem y2h (HF:Qh) (c:Md.Cn) (vt vx vb vr:Value) (n:Int) (w:World) (h:CnAt w c vt vx vb vr):Calls Tryz.prog 90 #[yh c vt vx vb vr,.int .i64 n] w fun e w'=>e=.returned (.int .i64 (Md.fault c n))/\Below w.heap.size w w':=by
  by_cases hk:1<=c.kind/\c.kind<=9
  · have hfg:∀ w',CnAt w' c vt vx vb vr->Calls Tryz.prog 157 #[yh c vt vx vb vr] w' fun e w''=>e=.returned (.bool (Md.plainBad c||Md.listBad c))/\Below w'.heap.size w' w'':=fun w' h'=>HF c vt vx vb vr w' h' hk
    rcases Qi hk.1 hk.2 with k | k | k | k | k | k | k | k | k
    · exact y2v c vt vx vb vr n w h k hfg
    · exact y2w c vt vx vb vr n w h k hfg
    · exact y2x c vt vx vb vr n w h k hfg
    · exact y2y c vt vx vb vr n w h k hfg
    · exact y2z c vt vx vb vr n w h k hfg
    · exact y2A c vt vx vb vr n w h k hfg
    · exact y2B c vt vx vb vr n w h k hfg
    · exact y2C c vt vx vb vr n w h k hfg
    · exact y2D c vt vx vb vr n w h k hfg
  · exact y2u c vt vx vb vr n w h (by omega)
end Go.Proofs.YtjgghimjnbjlbaaGreatDoor.Doc
