/-
  Put together: TzCon8, TzConAny, TzTold.
-/
import Derived.Test.YthohnmplbjhjaaaGreatDoorJ43
import Derived.Test.YthohnmplbjhjaaaGreatDoorJ11
namespace Go.Proofs.YthohnmplbjhjaaaGreatDoor
open Go Go.RowKit Go.Shelf Go.Lib
set_option maxRecDepth 10000
set_option maxHeartbeats 2000000
attribute [local go_sem] Oper.semAt_some
theorem y5Z {l:List Int} {k:Nat} (hk:k<l.length):numW (l.take (k+1))=numW (l.take k)++[itoa l[k]]:=by
 unfold numW
 rw [List.take_succ_eq_append_getElem hk,List.flatMap_append]
 rfl
theorem y60 (l:List Int):(numW l).length=l.length:=by
 induction l with
 | nil=>rfl
 | cons a l ih=>unfold numW at *;rw [List.flatMap_cons,List.length_append,ih];simp;omega
theorem y61 {r:List (List Int)} {i:Nat} (hi:i<r.length):(r.take (i+1)).flatMap rowW=(r.take i).flatMap rowW++([[58]]++r[i].map itoa):=by
 rw [List.take_succ_eq_append_getElem hi,List.flatMap_append]
 simp [rowW]
theorem y62 {l:List Int} {k:Nat} (hk:k<l.length):(l.take (k+1)).map itoa=(l.take k).map itoa++[itoa l[k]]:=by
 rw [List.take_succ_eq_append_getElem hk,List.map_append]
 rfl
theorem y63 {w0:World} {B P:Nat} {m:Md.Mo} {vv vc vg:Value} {L:List (List UInt8)} {far:Int} {w:World} (h:WrM w0 B P m vv vc vg L far w) (hL:L.length<=1000) (x y:Int) (tb:List Int) (ta xa ba ra:Option Addr) (tn tc xn xc bc rn rc:Nat) (hx:inV m.vars x) (hy:inV m.vars y) (htb:IntsAt w0 (.slice ba tb.length bc) tb) (hbd:1<=tb.length/\tb.length<=64/\∀ a∈tb,Md.numB a=true):Calls Tryz.prog 40 #[.pointer (some ⟨P,0,none⟩),.agg #[.int .i64 4,.int .i64 0,.slice ta tn tc,.int .i64 0,.int .i64 0,.int .i64 x,.int .i64 y,.slice xa xn xc,.slice ba tb.length bc,.slice ra rn rc]] w (WrMO w0 B P m vv vc vg (L++[[101,108,101,109,101,110,116]]++[Md.nm m.vars x]++[Md.nm m.vars y]++numW tb) (max (max (far) x) y) w):=by
 have HBd:Hid (L.length<=1000/\tb.length<=64/\∀ a∈tb,Md.numB a=true):=⟨hL,hbd.2⟩
 obtain ⟨_,_,htb1,htm,htb2⟩:=htb
 injection htb1 with e1 _ e3
 subst e1 e3
 have HTb:Hid (0<tb.length->∃ b off,ba=some ⟨b,off,none⟩/\b<w0.heap.size/\∀ j (h:j<tb.length),w0.cell? ⟨b,off+j,none⟩=some (.int .i64 tb[j])):=htb2
 unfold maxLen at htm
 clear htb2 hbd
 have HS1:Hid (∀ w',WrM w0 B P m vv vc vg (L) (far) w'->Calls Tryz.prog 37 #[.pointer (some ⟨P,0,none⟩),.string ⟨#[101,108,101,109,101,110,116]⟩] w' (WrMO w0 B P m vv vc vg (L++[[101,108,101,109,101,110,116]]) (far) w')):=fun w' h'=>(show _ from zK h' (by first | omega | (simp only [List.length_append,List.length_cons,List.length_nil];omega)) [101,108,101,109,101,110,116])
 have HS2:Hid (∀ w',WrM w0 B P m vv vc vg (L++[[101,108,101,109,101,110,116]]) (far) w'->Calls Tryz.prog 67 #[.pointer (some ⟨P,0,none⟩),.int .i64 x] w' (WrMO w0 B P m vv vc vg (L++[[101,108,101,109,101,110,116]]++[Md.nm m.vars x]) (max (far) x) w')):=fun w' h'=>xM h' (by first | omega | (simp only [List.length_append,List.length_cons,List.length_nil];omega)) x hx
 have HS3:Hid (∀ w',WrM w0 B P m vv vc vg (L++[[101,108,101,109,101,110,116]]++[Md.nm m.vars x]) (max (far) x) w'->Calls Tryz.prog 67 #[.pointer (some ⟨P,0,none⟩),.int .i64 y] w' (WrMO w0 B P m vv vc vg (L++[[101,108,101,109,101,110,116]]++[Md.nm m.vars x]++[Md.nm m.vars y]) (max (max (far) x) y) w')):=fun w' h'=>xM h' (by first | omega | (simp only [List.length_append,List.length_cons,List.length_nil];omega)) y hy
 obtain ⟨W1,hW1⟩:∃ W1,w.alloc (.cells #[.int .i64 4,.int .i64 0,.slice ta tn tc,.int .i64 0,.int .i64 0,.int .i64 x,.int .i64 y,.slice xa xn xc,.slice ba tb.length bc,.slice ra rn rc] 61)=W1:=⟨_,rfl⟩
 obtain ⟨NB,hNB⟩:∃ NB,w.heap.size=NB:=⟨_,rfl⟩
 have hb1:Below w.heap.size w W1:=by rw [<-hW1];exact zw _ _
 have hbx:W1.heap[NB]?=some (.cells #[.int .i64 4,.int .i64 0,.slice ta tn tc,.int .i64 0,.int .i64 0,.int .i64 x,.int .i64 y,.slice xa xn xc,.slice ba tb.length bc,.slice ra rn rc] 61 (0,0)):=by rw [<-hW1,<-hNB];exact heap_alloc_new w _
 have HBx:Hid (W1.heap[NB]?=some (.cells #[.int .i64 4,.int .i64 0,.slice ta tn tc,.int .i64 0,.int .i64 0,.int .i64 x,.int .i64 y,.slice xa xn xc,.slice ba tb.length bc,.slice ra rn rc] 61 (0,0))):=hbx
 have H1:Hid (WrM w0 B P m vv vc vg L far W1/\Wk B W1 W1):=⟨h.keep hb1,Wk.refl _ _⟩
 have HW1:Hid (Wk B w W1):=Wk.of_below hb1
 obtain ⟨k0,k1,k2,k3,k4,k5,k6,k7,k8,k9⟩:=yG hbx (Wk.refl B W1)
 clear h hL hb1 hbx hx hy
 obtain ⟨LF,hLF⟩:∃ LF,L++[[101,108,101,109,101,110,116]]++[Md.nm m.vars x]++[Md.nm m.vars y]++numW tb=LF:=⟨_,rfl⟩
 obtain ⟨FF,hFF⟩:∃ FF,max (max (far) x) y=FF:=⟨_,rfl⟩
 have HLF:Hid (L++[[101,108,101,109,101,110,116]]++[Md.nm m.vars x]++[Md.nm m.vars y]++numW tb=LF/\max (max (far) x) y=FF):=⟨hLF,hFF⟩
 rw [hLF,hFF]
 clear hLF hFF
 go_enter Tryz.func40,Tryz.ntmps40
 go_wp2_with (first
  | (go_at_call 37;refine cZ (HS1.out W1 H1.out.1) ?_;rintro e w2 ⟨rfl,hj⟩;(have H2:Hid (WrM w0 B P m vv vc vg (L++[[101,108,101,109,101,110,116]]) (far) w2/\Wk B W1 w2):=⟨hj.1,H1.out.2.trans hj.2⟩);clear hj k0 k1 k2 k3 k4 k5 k6 k7 k8 k9;obtain ⟨k0,k1,k2,k3,k4,k5,k6,k7,k8,k9⟩:=yG HBx.out H2.out.2)
  | (go_at_call 67;refine cZ (HS2.out w2 H2.out.1) ?_;rintro e w3 ⟨rfl,hj⟩;(have H3:Hid (WrM w0 B P m vv vc vg (L++[[101,108,101,109,101,110,116]]++[Md.nm m.vars x]) (max (far) x) w3/\Wk B W1 w3):=⟨hj.1,H2.out.2.trans hj.2⟩);clear hj k0 k1 k2 k3 k4 k5 k6 k7 k8 k9;obtain ⟨k0,k1,k2,k3,k4,k5,k6,k7,k8,k9⟩:=yG HBx.out H3.out.2)
  | (go_at_call 67;refine cZ (HS3.out w3 H3.out.1) ?_;rintro e w4 ⟨rfl,hj⟩;(have H4:Hid (WrM w0 B P m vv vc vg (L++[[101,108,101,109,101,110,116]]++[Md.nm m.vars x]++[Md.nm m.vars y]) (max (max (far) x) y) w4/\Wk B W1 w4):=⟨hj.1,H3.out.2.trans hj.2⟩);clear hj k0 k1 k2 k3 k4 k5 k6 k7 k8 k9;obtain ⟨k0,k1,k2,k3,k4,k5,k6,k7,k8,k9⟩:=yG HBx.out H4.out.2))
 go_loopw [4] (fun v4 wr=>∃ k:Nat,v4=.int .i64 (k:Int)/\k<=tb.length/\Hid (WrM w0 B P m vv vc vg (L++[[101,108,101,109,101,110,116]]++[Md.nm m.vars x]++[Md.nm m.vars y]++numW (tb.take k)) (max (max (far) x) y) wr/\Wk B W1 wr)) (fun v4 _=>(tb.length-RowKit.intOf v4).toNat)
 case atStart=>exact ⟨0,rfl,Nat.zero_le _,by simpa [numW] using H4.out.1,H4.out.2⟩
 case round=>
  obtain ⟨k,rfl,hk,HR⟩:=hrel
  clear k0 k1 k2 k3 k4 k5 k6 k7 k8 k9
  obtain ⟨k0,k1,k2,k3,k4,k5,k6,k7,k8,k9⟩:=yG HBx.out HR.out.2
  by_cases hkl:k<tb.length
  ·have hkI:(k:Int)<(tb.length:Int):=by omega
   obtain ⟨b,off,rfl,hb,hcell⟩:=HTb.out (by omega)
   have hcl:wr.cell? ⟨b,off+k,none⟩=some (.int .i64 tb[k]):=(HR.out.1.at.cell (p:=⟨b,off+k,none⟩) hb).trans (hcell k hkl)
   have HN0:Hid (Calls Tryz.prog 38 #[.pointer (some ⟨P,0,none⟩),.int .i64 tb[k]] wr (WrMO w0 B P m vv vc vg (L++[[101,108,101,109,101,110,116]]++[Md.nm m.vars x]++[Md.nm m.vars y]++numW (tb.take (k+1))) (max (max (far) x) y) wr)):=by
    have:=xD HR.out.1 (by rw [List.length_append,y60,List.length_take];have:=HBd.out;simp only [List.length_append,List.length_cons,List.length_nil];omega) tb[k] (num_in.1 (HBd.out.2.2 _ (List.getElem_mem hkl)))
    rw [List.append_assoc _ (numW _),<-y5Z hkl] at this
    exact this
   obtain ⟨x0,hx0⟩:∃ x,tb[k]=x:=⟨_,rfl⟩
   rw [hx0] at hcl HN0
   clear hx0 hcell
   go_wp2_with (go_at_call 38;refine cZ HN0.out ?_;rintro e w9 ⟨rfl,h2⟩;(have HN:Hid (WrM w0 B P m vv vc vg (L++[[101,108,101,109,101,110,116]]++[Md.nm m.vars x]++[Md.nm m.vars y]++numW (tb.take (k+1))) (max (max (far) x) y) w9/\Wk B wr w9):=h2);clear h2 k0 k1 k2 k3 k4 k5 k6 k7 k8 k9)
   go_roundw
   case measure=>simp only [RowKit.intOf];omega
   case rel=>exact ⟨k+1,by go_num,by omega,HN.out.1,HR.out.2.trans HN.out.2⟩
  ·have hkI:¬ (k:Int)<(tb.length:Int):=by omega
   have HE:Hid (WrM w0 B P m vv vc vg LF FF wr/\Wk B w wr):=by
    have:=HR.out.1
    rw [List.take_of_length_le (by omega),HLF.out.1,HLF.out.2] at this
    exact ⟨this,HW1.out.trans HR.out.2⟩
   clear HR
   go_wp2_with fail
   go_end0
   exact ⟨rfl,HE.out.1,HE.out.2⟩
theorem y64 {w0:World} {B P:Nat} {m:Md.Mo} {vv vc vg:Value} {L:List (List UInt8)} {far:Int} {w:World} (h:WrM w0 B P m vv vc vg L far w) (hL:L.length<=1000) (xs:List Int) (r:List (List Int)) (ta xa ba ra:Option Addr) (tn tc xn xc bn bc rc:Nat) (hxa:IntsAt w0 (.slice xa xn xc) xs) (hxs:1<=xs.length/\xs.length<=64/\∀ a∈xs,inV m.vars a) (hra:RowsAt w0 (.slice ra r.length rc) r) (hrd:1<=r.length/\r.length<=64/\∀ l∈r,l.length<=8/\∀ a∈l,Md.numB a=true):Calls Tryz.prog 40 #[.pointer (some ⟨P,0,none⟩),.agg #[.int .i64 8,.int .i64 0,.slice ta tn tc,.int .i64 0,.int .i64 0,.int .i64 0,.int .i64 0,.slice xa xn xc,.slice ba bn bc,.slice ra r.length rc]] w (WrMO w0 B P m vv vc vg (L++[[116,97,98,108,101]]++nmsW m.vars xs++r.flatMap rowW) (xs.foldl max (far)) w):=by
 have HBd:Hid (L.length<=1000/\xs.length<=64/\r.length<=64/\∀ l∈r,l.length<=8/\∀ a∈l,Md.numB a=true):=⟨hL,hxs.2.1,hrd.2⟩
 obtain ⟨_,_,htb1,htm,htb2⟩:=hra
 injection htb1 with e1 _ e3
 subst e1 e3
 have HRw:Hid (0<r.length->∃ b off,ra=some ⟨b,off,none⟩/\b<w0.heap.size/\∀ j (h:j<r.length),∃ u,w0.cell? ⟨b,off+j,none⟩=some u/\IntsAt w0 u r[j]):=htb2
 unfold maxLen at htm
 clear htb2 hrd
 have HS1:Hid (∀ w',WrM w0 B P m vv vc vg (L) (far) w'->Calls Tryz.prog 37 #[.pointer (some ⟨P,0,none⟩),.string ⟨#[116,97,98,108,101]⟩] w' (WrMO w0 B P m vv vc vg (L++[[116,97,98,108,101]]) (far) w')):=fun w' h'=>(show _ from zK h' (by first | omega | (simp only [List.length_append,List.length_cons,List.length_nil];omega)) [116,97,98,108,101])
 have HS2:Hid (∀ w',WrM w0 B P m vv vc vg (L++[[116,97,98,108,101]]) (far) w'->Calls Tryz.prog 69 #[.pointer (some ⟨P,0,none⟩),.slice xa xn xc] w' (WrMO w0 B P m vv vc vg (L++[[116,97,98,108,101]]++nmsW m.vars xs) (xs.foldl max (far)) w')):=fun w' h'=>YZ h' xs (.slice xa xn xc) hxa hxs.2.2 (by have:=hxs.2.1;first | omega | (simp only [List.length_append,List.length_cons,List.length_nil];omega))
 obtain ⟨W1,hW1⟩:∃ W1,w.alloc (.cells #[.int .i64 8,.int .i64 0,.slice ta tn tc,.int .i64 0,.int .i64 0,.int .i64 0,.int .i64 0,.slice xa xn xc,.slice ba bn bc,.slice ra r.length rc] 61)=W1:=⟨_,rfl⟩
 obtain ⟨NB,hNB⟩:∃ NB,w.heap.size=NB:=⟨_,rfl⟩
 have hb1:Below w.heap.size w W1:=by rw [<-hW1];exact zw _ _
 have hbx:W1.heap[NB]?=some (.cells #[.int .i64 8,.int .i64 0,.slice ta tn tc,.int .i64 0,.int .i64 0,.int .i64 0,.int .i64 0,.slice xa xn xc,.slice ba bn bc,.slice ra r.length rc] 61 (0,0)):=by rw [<-hW1,<-hNB];exact heap_alloc_new w _
 have HBx:Hid (W1.heap[NB]?=some (.cells #[.int .i64 8,.int .i64 0,.slice ta tn tc,.int .i64 0,.int .i64 0,.int .i64 0,.int .i64 0,.slice xa xn xc,.slice ba bn bc,.slice ra r.length rc] 61 (0,0))):=hbx
 have H1:Hid (WrM w0 B P m vv vc vg L far W1/\Wk B W1 W1):=⟨h.keep hb1,Wk.refl _ _⟩
 have HW1:Hid (Wk B w W1):=Wk.of_below hb1
 obtain ⟨k0,k1,k2,k3,k4,k5,k6,k7,k8,k9⟩:=yG hbx (Wk.refl B W1)
 clear h hL hb1 hbx hxa hxs
 obtain ⟨LF,hLF⟩:∃ LF,L++[[116,97,98,108,101]]++nmsW m.vars xs++r.flatMap rowW=LF:=⟨_,rfl⟩
 obtain ⟨FF,hFF⟩:∃ FF,xs.foldl max (far)=FF:=⟨_,rfl⟩
 have HLF:Hid (L++[[116,97,98,108,101]]++nmsW m.vars xs++r.flatMap rowW=LF/\xs.foldl max (far)=FF):=⟨hLF,hFF⟩
 rw [hLF,hFF]
 clear hLF hFF
 go_enter Tryz.func40,Tryz.ntmps40
 go_wp2_with (first
  | (go_at_call 37;refine cZ (HS1.out W1 H1.out.1) ?_;rintro e w2 ⟨rfl,hj⟩;(have H2:Hid (WrM w0 B P m vv vc vg (L++[[116,97,98,108,101]]) (far) w2/\Wk B W1 w2):=⟨hj.1,H1.out.2.trans hj.2⟩);clear hj k0 k1 k2 k3 k4 k5 k6 k7 k8 k9;obtain ⟨k0,k1,k2,k3,k4,k5,k6,k7,k8,k9⟩:=yG HBx.out H2.out.2)
  | (go_at_call 69;refine cZ (HS2.out w2 H2.out.1) ?_;rintro e w3 ⟨rfl,hj⟩;(have H3:Hid (WrM w0 B P m vv vc vg (L++[[116,97,98,108,101]]++nmsW m.vars xs) (xs.foldl max (far)) w3/\Wk B W1 w3):=⟨hj.1,H2.out.2.trans hj.2⟩);clear hj k0 k1 k2 k3 k4 k5 k6 k7 k8 k9;obtain ⟨k0,k1,k2,k3,k4,k5,k6,k7,k8,k9⟩:=yG HBx.out H3.out.2))
 go_loopw [5] (fun v5 wr=>∃ i:Nat,v5=.int .i64 (i:Int)/\i<=r.length/\Hid (WrM w0 B P m vv vc vg (L++[[116,97,98,108,101]]++nmsW m.vars xs++(r.take i).flatMap rowW) (xs.foldl max (far)) wr/\Wk B W1 wr)) (fun v5 _=>(r.length-RowKit.intOf v5).toNat)
 case atStart=>exact ⟨0,rfl,Nat.zero_le _,by simpa using H3.out.1,H3.out.2⟩
 case round=>
  obtain ⟨i,rfl,hi,HR⟩:=hrel
  clear k0 k1 k2 k3 k4 k5 k6 k7 k8 k9
  obtain ⟨k0,k1,k2,k3,k4,k5,k6,k7,k8,k9⟩:=yG HBx.out HR.out.2
  by_cases hil:i<r.length
  ·have hiI:(i:Int)<(r.length:Int):=by omega
   obtain ⟨b,off,rfl,hb,hcell⟩:=HRw.out (by omega)
   obtain ⟨u,hu,ua,uc,rfl,hum,huc⟩:=hcell i hil
   have HU:Hid (∀ w',WrM w0 B P m vv vc vg L far w'∨Below w0.heap.size w0 w'->w'.cell? ⟨b,off+i,none⟩=some (.slice ua r[i].length uc)):=fun w' h'=>((h'.elim (fun h=>h.at) (fun h=>h)).cell (p:=⟨b,off+i,none⟩) hb).trans hu
   have HUc:Hid (0<r[i].length->∃ b off,ua=some ⟨b,off,none⟩/\b<w0.heap.size/\∀ j (h:j<r[i].length),w0.cell? ⟨b,off+j,none⟩=some (.int .i64 r[i][j])):=huc
   have HLb:Hid ((L++[[116,97,98,108,101]]++nmsW m.vars xs++(r.take i).flatMap rowW).length+r[i].length<=100000):=by
    have h1:=HBd.out.2.2.2 _ (List.getElem_mem hil)
    have h2:=Md.flatMap_take_len rowW 9 r i (fun q hq=>by have:=HBd.out.2.2.2 q hq;simp [rowW];omega)
    have h3:=HBd.out
    show _<=_
    simp only [List.length_append,List.length_cons,List.length_nil,y09]
    omega
   have HNum:Hid (∀ a∈r[i],Md.numB a=true):=(HBd.out.2.2.2 _ (List.getElem_mem hil)).2
   have HNx:Hid (L++[[116,97,98,108,101]]++nmsW m.vars xs++(r.take i).flatMap rowW++[[58]]++r[i].map itoa=L++[[116,97,98,108,101]]++nmsW m.vars xs++(r.take (i+1)).flatMap rowW):=by
    show _=_
    rw [y61 hil]
    simp
   have HS:Hid (Calls Tryz.prog 37 #[.pointer (some ⟨P,0,none⟩),.string ⟨#[58]⟩] wr (WrMO w0 B P m vv vc vg (L++[[116,97,98,108,101]]++nmsW m.vars xs++(r.take i).flatMap rowW++[[58]]) (xs.foldl max (far)) wr)):=(show _ from zK HR.out.1 (by have:=HLb.out;omega) [58])
   obtain ⟨row,hrow⟩:∃ row,r[i]=row:=⟨_,rfl⟩
   rw [hrow] at HU HUc HLb HNum HNx
   unfold maxLen at hum
   rw [hrow] at hum
   clear hrow hu huc hcell
   have k10:=HU.out wr (.inr HR.out.1.at)
   go_wp2_with (go_at_call 37;refine cZ HS.out ?_;rintro e w8 ⟨rfl,h2⟩;(have H8:Hid (WrM w0 B P m vv vc vg (L++[[116,97,98,108,101]]++nmsW m.vars xs++(r.take i).flatMap rowW++[[58]]) (xs.foldl max (far)) w8/\Wk B W1 w8):=⟨h2.1,HR.out.2.trans h2.2⟩);clear h2 k0 k1 k2 k3 k4 k5 k6 k7 k8 k9 k10)
   go_loopw [6] (fun v6 wr=>∃ k:Nat,v6=.int .i64 (k:Int)/\k<=row.length/\Hid (WrM w0 B P m vv vc vg (L++[[116,97,98,108,101]]++nmsW m.vars xs++(r.take i).flatMap rowW++[[58]]++(row.take k).map itoa) (xs.foldl max (far)) wr/\Wk B W1 wr)) (fun v6 _=>(row.length-RowKit.intOf v6).toNat)
   case atStart=>exact ⟨0,rfl,Nat.zero_le _,by simpa using H8.out.1,H8.out.2⟩
   case round=>
    obtain ⟨k,rfl,hk,HQ⟩:=hrel
    rename World=>wq
    obtain ⟨k0,k1,k2,k3,k4,k5,k6,k7,k8,k9⟩:=yG HBx.out HQ.out.2
    have k10:=HU.out wq (.inr HQ.out.1.at)
    by_cases hkl:k<row.length
    ·have hkI:(k:Int)<(row.length:Int):=by omega
     obtain ⟨b2,off2,rfl,hb2,hcell2⟩:=HUc.out (by omega)
     have hcl:wq.cell? ⟨b2,off2+k,none⟩=some (.int .i64 row[k]):=(HQ.out.1.at.cell (p:=⟨b2,off2+k,none⟩) hb2).trans (hcell2 k hkl)
     have HN0:Hid (Calls Tryz.prog 38 #[.pointer (some ⟨P,0,none⟩),.int .i64 row[k]] wq (WrMO w0 B P m vv vc vg (L++[[116,97,98,108,101]]++nmsW m.vars xs++(r.take i).flatMap rowW++[[58]]++(row.take (k+1)).map itoa) (xs.foldl max (far)) wq)):=by
      have:=xD HQ.out.1 (by rw [List.length_append,List.length_map,List.length_take,List.length_append];have:=HLb.out;simp only [List.length_cons,List.length_nil];omega) row[k] (num_in.1 (HNum.out _ (List.getElem_mem hkl)))
      rw [List.append_assoc _ (List.map _ _),<-y62 hkl] at this
      exact this
     obtain ⟨x0,hx0⟩:∃ x,row[k]=x:=⟨_,rfl⟩
     rw [hx0] at hcl HN0
     clear hx0 hcell2
     go_wp2_with (go_at_call 38;refine cZ HN0.out ?_;rintro e w9 ⟨rfl,h2⟩;(have HN:Hid (WrM w0 B P m vv vc vg (L++[[116,97,98,108,101]]++nmsW m.vars xs++(r.take i).flatMap rowW++[[58]]++(row.take (k+1)).map itoa) (xs.foldl max (far)) w9/\Wk B wq w9):=h2);clear h2 k0 k1 k2 k3 k4 k5 k6 k7 k8 k9 k10)
     go_roundw
     case measure=>simp only [RowKit.intOf];omega
     case rel=>exact ⟨k+1,by go_num,by omega,HN.out.1,HQ.out.2.trans HN.out.2⟩
    ·have hkI:¬ (k:Int)<(row.length:Int):=by omega
     have HE:Hid (WrM w0 B P m vv vc vg (L++[[116,97,98,108,101]]++nmsW m.vars xs++(r.take (i+1)).flatMap rowW) (xs.foldl max (far)) wq/\Wk B W1 wq):=by
      have:=HQ.out.1
      have e0:row.take k=row:=List.take_of_length_le (by omega)
      rw [e0,HNx.out] at this
      exact ⟨this,HQ.out.2⟩
     clear HQ
     go_wp2_with fail
     go_roundw
     case measure=>simp only [RowKit.intOf];omega
     case rel=>exact ⟨i+1,by go_num,by omega,HE.out.1,HE.out.2⟩
  ·have hiI:¬ (i:Int)<(r.length:Int):=by omega
   have HE:Hid (WrM w0 B P m vv vc vg LF FF wr/\Wk B w wr):=by
    have:=HR.out.1
    rw [List.take_of_length_le (by omega),HLF.out.1,HLF.out.2] at this
    exact ⟨this,HW1.out.trans HR.out.2⟩
   clear HR
   go_wp2_with fail
   go_end0
   exact ⟨rfl,HE.out.1,HE.out.2⟩
end Go.Proofs.YthohnmplbjhjaaaGreatDoor

namespace Go.Proofs.YthohnmplbjhjaaaGreatDoor
open Go Go.RowKit Go.Shelf Go.Lib
attribute [local go_sem] Oper.semAt_some
theorem y65 (V:List Md.Vr) (l:List Int):nmsW V l=l.map (Md.nm V):=by
 induction l with
 | nil=>rfl
 | cons a l ih=>unfold nmsW at *;rw [List.flatMap_cons,ih];rfl
theorem WrMO.as {w0:World} {B P:Nat} {m:Md.Mo} {vv vc vg:Value} {L L':List (List UInt8)} {far far':Int} {w w':World} {e:Ending} (h:WrMO w0 B P m vv vc vg L far w e w') (h1:L=L') (h2:far=far'):WrMO w0 B P m vv vc vg L' far' w e w':=by rw [<-h1,<-h2];exact h
theorem y66 {w0:World} {B P:Nat} {m:Md.Mo} {vv vc vg:Value} {L:List (List UInt8)} {far:Int} {w:World} (h:WrM w0 B P m vv vc vg L far w) (hL:L.length<=1000) (c:Md.Cn) (vt vx vb vr:Value) (hc:CnAt w0 c vt vx vb vr) (hf:Md.fault c (m.vars.length:Int)=0) :
  Calls Tryz.prog 40 #[.pointer (some ⟨P,0,none⟩),yu c vt vx vb vr] w (WrMO w0 B P m vv vc vg (L++conW m.vars c) ((yL c).foldl max far) w):=by
 obtain ⟨k1,k2⟩:=Zu hf
 obtain ⟨p1,p2,p3,p4,p5,p6,p7,p8,p9⟩:=xA hf
 obtain ⟨kind,op,t,k,v,x,y,xs,tb,r⟩:=c
 simp only at k1 k2 p1 p2 p3 p4 p5 p6 p7 p8 p9
 obtain ⟨ta,tc,et,_⟩:=hc.t.form
 obtain ⟨xa,xc,ex,_⟩:=hc.x.form
 obtain ⟨ba,bc,eb,_⟩:=hc.b.form
 obtain ⟨ra,rc,er,_⟩:=hc.r.form
 simp only at et ex eb er
 subst et ex eb er
 have ht:=hc.t
 have hx:=hc.x
 have hb:=hc.b
 have hr:=hc.r
 simp only at ht hx hb hr
 clear hc
 rcases (by omega:kind=1∨kind=2∨kind=3∨kind=4∨kind=5∨kind=6∨kind=7∨kind=8∨kind=9) with rfl | rfl | rfl | rfl | rfl | rfl | rfl | rfl | rfl
 ·have e_v:=p3 rfl
  have e_x:=p4 rfl
  have e_y:=p5 rfl
  have e_xs:=p7 rfl
  have e_tb:=p8 rfl
  have e_r:=p9 rfl
  subst e_v e_x e_y e_xs e_tb e_r
  have q:=lin_iff.1 hf
  refine (y5S h hL op k t ta xa ba ra _ tc _ xc _ bc _ rc q.1 q.2.1 ht q.2.2).mono fun e w' hh=>hh.as ?_ ?_
  ·simp [conW,conR,Md.wordT]
  ·simp [yL,Md.fX,Md.fY]
 ·have e_op:=p1 rfl
  have e_v:=p3 rfl
  have e_t:=p6 rfl
  have e_xs:=p7 rfl
  have e_tb:=p8 rfl
  have e_r:=p9 rfl
  subst e_op e_v e_t e_xs e_tb e_r
  have q:=ne_iff.1 hf
  refine (y5T h hL k x y ta xa ba ra _ tc _ xc _ bc _ rc q.1 q.2.1 q.2.2).mono fun e w' hh=>hh.as ?_ ?_
  ·simp [conW,conR,Md.wordT]
  ·simp [yL,Md.fX,Md.fY]
 ·have e_op:=p1 rfl
  have e_k:=p2 rfl
  have e_v:=p3 rfl
  have e_x:=p4 rfl
  have e_y:=p5 rfl
  have e_t:=p6 rfl
  have e_tb:=p8 rfl
  have e_r:=p9 rfl
  subst e_op e_k e_v e_x e_y e_t e_tb e_r
  have q:=all_iff.1 hf
  refine (y5U h hL xs ta xa ba ra _ tc _ xc _ bc _ rc hx q).mono fun e w' hh=>hh.as ?_ ?_
  ·simp [conW,conR,Md.wordT]
  ·simp [yL,Md.fX,Md.fY]
 ·have e_op:=p1 rfl
  have e_k:=p2 rfl
  have e_v:=p3 rfl
  have e_t:=p6 rfl
  have e_xs:=p7 rfl
  have e_r:=p9 rfl
  subst e_op e_k e_v e_t e_xs e_r
  have q:=el_iff.1 hf
  refine (y63 h hL x y tb ta xa ba ra _ tc _ xc bc _ rc q.1 q.2.1 hb q.2.2).mono fun e w' hh=>hh.as ?_ ?_
  ·simp [conW,conR,Md.wordT]
  ·simp [yL,Md.fX,Md.fY]
 ·have e_op:=p1 rfl
  have e_k:=p2 rfl
  have e_v:=p3 rfl
  have e_x:=p4 rfl
  have e_t:=p6 rfl
  have e_tb:=p8 rfl
  have e_r:=p9 rfl
  subst e_op e_k e_v e_x e_t e_tb e_r
  have q:=(Zw (.inl rfl)).1 hf
  refine (y5V h hL y xs ta xa ba ra _ tc _ xc _ bc _ rc q.1 hx q.2).mono fun e w' hh=>hh.as ?_ ?_
  ·simp [conW,conR,Md.wordT]
  ·simp [yL,Md.fX,Md.fY]
 ·have e_op:=p1 rfl
  have e_k:=p2 rfl
  have e_v:=p3 rfl
  have e_x:=p4 rfl
  have e_t:=p6 rfl
  have e_tb:=p8 rfl
  have e_r:=p9 rfl
  subst e_op e_k e_v e_x e_t e_tb e_r
  have q:=(Zw (.inr rfl)).1 hf
  refine (y5W h hL y xs ta xa ba ra _ tc _ xc _ bc _ rc q.1 hx q.2).mono fun e w' hh=>hh.as ?_ ?_
  ·simp [conW,conR,Md.wordT]
  ·simp [yL,Md.fX,Md.fY]
 ·have e_op:=p1 rfl
  have e_v:=p3 rfl
  have e_y:=p5 rfl
  have e_xs:=p7 rfl
  have e_tb:=p8 rfl
  have e_r:=p9 rfl
  subst e_op e_v e_y e_xs e_tb e_r
  have q:=rf_iff.1 hf
  refine (y5X h hL k x t ta xa ba ra _ tc _ xc _ bc _ rc q.1 q.2.1 ht q.2.2).mono fun e w' hh=>hh.as ?_ ?_
  ·simp [conW,conR,Md.wordT]
  ·simp [yL,Md.fX,Md.fY]
 ·have e_op:=p1 rfl
  have e_k:=p2 rfl
  have e_v:=p3 rfl
  have e_x:=p4 rfl
  have e_y:=p5 rfl
  have e_t:=p6 rfl
  have e_tb:=p8 rfl
  subst e_op e_k e_v e_x e_y e_t e_tb
  have q:=tb_iff.1 hf
  refine (y64 h hL xs r ta xa ba ra _ tc _ xc _ bc rc hx ⟨q.1.1,by have:=q.1.2.1;omega,q.1.2.2⟩ hr ⟨q.2.1,q.2.2.1,fun l hl=>⟨by have:=(q.2.2.2 l hl).1;have:=q.1.2.1;omega,(q.2.2.2 l hl).2⟩⟩).mono fun e w' hh=>hh.as ?_ ?_
  ·simp [conW,conR,Md.wordT,y65]
  ·simp [yL,Md.fX,Md.fY]
 ·have e_x:=p4 rfl
  have e_y:=p5 rfl
  have e_t:=p6 rfl
  have e_tb:=p8 rfl
  have e_r:=p9 rfl
  subst e_x e_y e_t e_tb e_r
  have q:=ct_iff.1 hf
  refine (y5Y h hL op k v xs ta xa ba ra _ tc _ xc _ bc _ rc q.1 q.2.1 q.2.2.1 hx q.2.2.2).mono fun e w' hh=>hh.as ?_ ?_
  ·simp [conW,conR,Md.wordT]
  ·simp [yL,Md.fX,Md.fY]
theorem y0a {w:World} {B:Nat} {e:TypeId} {size:Nat} {v:Value} {n:Nat} {xs:List Value} (h:w.ownsRow B e size v n xs):n<=maxLen:=by
 rcases h.2 with ⟨_,h0⟩ | ⟨g,cp0,cur,_,_,_,h1,h2,_⟩
 ·rw [h0];exact Nat.zero_le _
 ·omega
theorem xN {w:World} {B:Nat} {a:Option Addr} {cp:Nat} {l:List (List UInt8)} (h:w.ownsRow B 9 1 (.slice a l.length cp) l.length (strs l)) (j:Nat) (hj:j<l.length):∃ g,a=some ⟨g,0,none⟩/\w.cell? ⟨g,j,none⟩=some (.string (yc l[j])):=by
 rcases h.2 with ⟨hv,h0⟩ | ⟨g,cap,cur,hv,_⟩
 ·omega
 ·injection hv with e1 _ _
  subst e1
  have:=World.ownsRow.cells h rfl j (.string (yc l[j])) (by simp [strs,hj])
  rw [zY,Nat.zero_add] at this
  exact ⟨g,rfl,this⟩
set_option maxRecDepth 10000 in
set_option maxHeartbeats 2000000 in
theorem Xu {B P:Nat} {vv vc vg lv:Value} {has:Bool} {L:List (List UInt8)} {far:Int} {w:World} (h:WrAt B P vv vc has vg L far lv w) (l:List (List UInt8)) (v:Value) (B':Nat) (hv:w.ownsRow B' 9 1 v l.length (strs l)) (n:Nat):Calls Tryz.prog 41 #[.pointer (some ⟨P,0,none⟩),v,.int .i64 (n:Int)] w (SmO (l=L/\far<(n:Int)) w):=by
 obtain ⟨a,cp,rfl⟩:=yq h.row
 obtain ⟨a',cp',rfl⟩:=yq hv
 have HC:Hid (∀ w',Below w.heap.size w w'->w'.cell? ⟨P,4,none⟩=some (.slice a L.length cp)/\w'.cell? ⟨P,5,none⟩=some (.int .i64 far)):=fun w' hb=>by
  have h':=(h.keep hb).box
  exact ⟨yd h' 4,yd h' 5⟩
 have HL:Hid (∀ w',Below w.heap.size w w'->∀ j (hj:j<L.length),∃ g,a=some ⟨g,0,none⟩/\w'.cell? ⟨g,j,none⟩=some (.string (yc L[j]))):=fun w' hb j hj=>xN (h.keep hb).row j hj
 have HV:Hid (∀ w',Below w.heap.size w w'->∀ j (hj:j<l.length),∃ g,a'=some ⟨g,0,none⟩/\w'.cell? ⟨g,j,none⟩=some (.string (yc l[j]))):=fun w' hb j hj=>xN (yB (S:=fun _=>False) hv (fun _ _ f=>f) (Ofw.of_below hb)) j hj
 obtain ⟨c4,c5⟩:=HC.out w (Below.refl _ _)
 have hLl:L.length<=maxLen:=y0a h.row
 have hl:l.length<=maxLen:=y0a hv
 unfold maxLen at hLl hl
 clear h hv
 obtain ⟨p,hp⟩:∃ p:Prop,(l=L/\far<(n:Int))=p:=⟨_,rfl⟩
 have HP1:Hid (p->l=L/\far<(n:Int)):=fun e=>hp▸e
 have HP2:Hid ((l=L/\far<(n:Int))->p):=fun e=>hp▸e
 rw [hp]
 clear hp
 by_cases hf:far<(n:Int)
 ·have hfg:decide ((n:Int)<=far)=false:=decide_eq_false (by omega)
  have HF:Hid (far<(n:Int)):=hf
  have hfI:¬ (n:Int)<=far:=by omega
  by_cases hlen:l.length=L.length
  ·have HLen:Hid (l.length=L.length):=hlen
   have c4':w.cell? ⟨P,4,none⟩=some (.slice a l.length cp):=by rw [hlen];exact c4
   clear hlen c4 hf
   go_enter Tryz.func41,Tryz.ntmps41
   go_wp2_with fail
   go_loopw [7] (fun iv wr=>∃ k:Nat,iv=.int .i64 (k:Int)/\k<=l.length/\Hid (Below w.heap.size w wr/\l.take k=L.take k)) (fun iv _=>l.length-(RowKit.intOf iv).toNat)
   case atStart=>exact ⟨0,rfl,Nat.zero_le _,Below.refl _ _,rfl⟩
   case round=>
    obtain ⟨k,rfl,hk,HBr⟩:=hrel
    by_cases hkn:k<l.length
    ·have hkI:(k:Int)<(l.length:Int):=by omega
     have hkm:k<L.length:=by have:=HLen.out;omega
     obtain ⟨g,rfl,x0⟩:=HV.out wr HBr.out.1 k hkn
     obtain ⟨g',rfl,y0⟩:=HL.out wr HBr.out.1 k hkm
     obtain ⟨d4,d5⟩:=HC.out wr HBr.out.1
     rw [<-HLen.out] at d4
     by_cases hel:l[k]=L[k]
     ·have HNx:Hid (l.take (k+1)=L.take (k+1)):=YI HBr.out.2 hkn hkm hel
      rw [<-hel] at y0
      obtain ⟨T,hT⟩:∃ T,yc l[k]=T:=⟨_,rfl⟩
      rw [hT] at x0 y0
      clear hT hel
      go_wp2_with fail
      go_region
      have HBd:Hid (Below w.heap.size w wr.drew):=HBr.out.1.drew
      go_wp2_with fail
      go_roundw
      case rel=>exact ⟨k+1,by go_num,hkn,HBd.out,HNx.out⟩
      case measure=>simp [RowKit.intOf];omega
     ·have HNo:Hid (l≠L):=YJ hkn hkm hel
      have hb:((yc l[k]).toList==(yc L[k]).toList)=false:=by rw [Zk];exact decide_eq_false hel
      obtain ⟨T,hT⟩:∃ T,yc l[k]=T:=⟨_,rfl⟩
      obtain ⟨T',hT'⟩:∃ T,yc L[k]=T:=⟨_,rfl⟩
      rw [hT] at x0 hb
      rw [hT'] at y0 hb
      clear hT hT' hel
      go_wp2_with fail
      go_region
      have HBd:Hid (Below w.heap.size w wr.drew):=HBr.out.1.drew
      go_wp2_with fail
      go_ret
      exact SmO.no (fun e=>HNo.out (HP1.out e).1) HBd.out
    ·have hkI:¬ (k:Int)<(l.length:Int):=by omega
     have HYes:Hid (l=L/\far<(n:Int)):=⟨YK HBr.out.2 (by omega) (by have:=HLen.out;omega),HF.out⟩
     go_wp2_with fail
     go_ret
     exact SmO.yes (HP2.out HYes.out) HBr.out.1
  ·have hlI:((l.length:Int)==(L.length:Int))=false:=by simp;omega
   have HNo:Hid (l≠L):=fun e=>hlen (by rw [e])
   clear hlen hf
   go_enter Tryz.func41,Tryz.ntmps41
   go_wp2_with fail
   go_ret
   exact SmO.no (fun e=>HNo.out (HP1.out e).1) (Below.refl _ _)
 ·have hfI:(n:Int)<=far:=by omega
  have HNo:Hid (¬ far<(n:Int)):=hf
  clear hf
  go_enter Tryz.func41,Tryz.ntmps41
  go_wp2_with fail
  go_ret
  exact SmO.no (fun e=>absurd (HP1.out e).2 (by have:=HNo.out;omega)) (Below.refl _ _)
end Go.Proofs.YthohnmplbjhjaaaGreatDoor

namespace Go.Proofs.YthohnmplbjhjaaaGreatDoor
open Go Go.RowKit Go.Shelf Go.Lib
attribute [local go_sem] Oper.semAt_some
def lnW (w:List UInt8) (l:List (List UInt8)):List (List UInt8):=if w=[] then l else l++[w]
def addW (l:List (List UInt8)) (all:List (List (List UInt8))):List (List (List UInt8)):=if mute l=true then all else all++[l]
def tl:List UInt8->List UInt8->List (List UInt8)->List (List (List UInt8))->List (List (List UInt8))
 | [],w,l,all=>addW (lnW w l) all
 | c :: t,w,l,all=>if c=10 then tl t [] [] (addW (lnW w l) all) else if blk c=true then tl t [] (lnW w l) all else tl t (w++[c]) l all
theorem y6r (x w:List UInt8) (l:List (List UInt8)) (c:UInt8) (hb:blk c=true):l++wd (c :: x) w=lnW w l++wd x []:=by
 unfold lnW
 by_cases hw:w=[]
 ·simp [wd,hb,hw]
 ·simp [wd,hb,hw]
theorem ZH:∀ (s cur w:List UInt8) (l:List (List UInt8)) (all:List (List (List UInt8))),(∀ x,wd (cur++x) []=l++wd x w)->tl s w l all=all++zn (yw s cur)
  | [], cur, w, l, all, h => by
    have h0:words cur=lnW w l:=by
      have:=h []
      rw [List.append_nil] at this
      show wd cur []=_
      rw [this]
      unfold lnW
      by_cases hw:w=[] <;> simp [wd,hw]
    simp only [tl,yw,zn,List.map_cons,List.map_nil,h0,addW]
    by_cases hm:mute (lnW w l)=true <;> simp [hm]
  | c :: t, cur, w, l, all, h => by
    by_cases hc:c=10
    · have h0:words cur=lnW w l:=by
        have:=h []
        rw [List.append_nil] at this
        show wd cur []=_
        rw [this]
        unfold lnW
        by_cases hw:w=[] <;> simp [wd,hw]
      have ih:=ZH t [] [] [] (addW (lnW w l) all) (fun x=>by simp)
      show (if c=10 then tl t [] [] (addW (lnW w l) all) else _)=all++zn (if c=10 then cur :: yw t [] else _)
      rw [if_pos hc,if_pos hc,ih]
      unfold addW zn
      rw [List.map_cons,h0,List.filter_cons]
      by_cases hm:mute (lnW w l)=true <;> simp [hm]
    · by_cases hb:blk c=true
      · have ih:=ZH t (cur++[c]) [] (lnW w l) all (fun x=>by
          rw [List.append_assoc]
          show wd (cur++c :: x) []=_
          rw [h (c :: x)]
          exact y6r x w l c hb)
        simp only [tl,if_neg hc,if_pos hb,yw,ih]
      · have ih:=ZH t (cur++[c]) (w++[c]) l all (fun x=>by
          rw [List.append_assoc]
          show wd (cur++c :: x) []=_
          rw [h (c :: x)]
          simp [wd,hb])
        simp only [tl,if_neg hc,if_neg hb,yw,ih]
theorem un93:Tryz.prog.underlying 93=some (.slice 78):=by kernel_rfl
theorem ZI:(Tryz.prog.info? 78).map (fun i=>(i.zero,i.size,i.bytes))=some (some (.slice none 0 0),1,24):=by kernel_rfl
structure TdAt (B:Nat) (A:List (List (List UInt8))) (us:List Value) (av:Value) (L:List (List UInt8)) (lv:Value) (w:World):Prop where
 ra:w.ownsRow B 78 1 av A.length us
 rl:w.ownsRow B 9 1 lv L.length (strs L)
 each:∀ i (hi:i<A.length),∃ u,us[i]?=some u/\w.ownsRow B 9 1 u A[i].length (strs A[i])/\∀ g,u.ownBlock=some g->lv.ownBlock≠some g
 low:B<=w.heap.size
theorem y0b {w:World} {B:Nat} {e:TypeId} {size:Nat} {v:Value} {n:Nat} {xs:List Value} (h:w.ownsRow B e size v n xs) {g:Nat} (hg:v.ownBlock=some g):g<w.heap.size:=by
 obtain ⟨_,cur,hc⟩:=yn h hg
 exact (Array.getElem?_eq_some_iff.1 hc).1
theorem TdAt.word {B:Nat} {A:List (List (List UInt8))} {us:List Value} {av:Value} {L:List (List UInt8)} {lv v3:Value} {w w3:World} {x:List UInt8} (h:TdAt B A us av L lv w) (ho:w3.ownsRow B 9 1 v3 (L.length+1) (strs L++[.string (yc x)])) (hg:Ofw (fun k=>lv.ownBlock=some k) w w3) (hn:v3.ownBlock=lv.ownBlock∨v3.ownBlock=some (w.heap.size+1)):TdAt B A us av (L++[x]) v3 w3:=by
 refine ⟨yB h.ra (fun g hg1 hg2=>?_) hg,by rw [List.length_append,y0i];exact ho,fun i hi=>?_,Nat.le_trans h.low hg.size⟩
 ·obtain ⟨_,c1,e1⟩:=yn h.ra hg1
  obtain ⟨_,c2,e2⟩:=yn h.rl hg2
  exact absurd (yZ e1 e2) (by decide)
 ·obtain ⟨u,hu,hr,hf⟩:=h.each i hi
  refine ⟨u,hu,yB hr (fun g hg1 hg2=>hf g hg1 hg2) hg,fun g hg1 e=>?_⟩
  rcases hn with hn | hn
  ·exact hf g hg1 (hn▸e)
  ·rw [hn] at e
   injection e with e
   have:=y0b hr hg1
   omega
theorem TdAt.line {B:Nat} {A:List (List (List UInt8))} {us:List Value} {av:Value} {L:List (List UInt8)} {lv v3:Value} {w w3:World} (h:TdAt B A us av L lv w) (ho:w3.ownsRow B 78 1 v3 (A.length+1) (us++[lv])) (hg:Ofw (fun k=>av.ownBlock=some k) w w3):TdAt B (A++[L]) (us++[lv]) v3 [] (.slice none 0 0) w3:=by
 have key:∀ {v:Value} {n:Nat} {xs:List Value},w.ownsRow B 9 1 v n xs->w3.ownsRow B 9 1 v n xs:=fun hr=>yB hr (fun g hg1 hg2=>by
  obtain ⟨_,c1,e1⟩:=yn h.ra hg2
  obtain ⟨_,c2,e2⟩:=yn hr hg1
  exact absurd (yZ e1 e2) (by decide)) hg
 refine ⟨by rw [List.length_append];exact ho,yF _ _ _ _,fun i hi=>?_,Nat.le_trans h.low hg.size⟩
 have hul:us.length=A.length:=by have:=h.ra.1;simpa using this
 rw [List.length_append] at hi
 simp only [List.length_cons,List.length_nil] at hi
 by_cases hiA:i<A.length
 ·obtain ⟨u,hu,hr,_⟩:=h.each i hiA
  refine ⟨u,by rw [List.getElem?_append_left (by omega)];exact hu,?_,fun g _ e=>by cases e⟩
  rw [List.getElem_append_left hiA]
  exact key hr
 ·have hie:i=A.length:=by omega
  subst hie
  refine ⟨lv,by rw [List.getElem?_append_right (by omega),hul];simp,?_,fun g _ e=>by cases e⟩
  have e0:(A++[L])[A.length]'(by simp)=L:=by simp
  rw [e0]
  exact key h.rl
theorem TdAt.clear {B:Nat} {A:List (List (List UInt8))} {us:List Value} {av:Value} {L:List (List UInt8)} {lv:Value} {w:World} (h:TdAt B A us av L lv w):TdAt B A us av [] (.slice none 0 0) w:=
 ⟨h.ra,yF _ _ _ _,fun i hi=>by obtain ⟨u,hu,hr,_⟩:=h.each i hi;exact ⟨u,hu,hr,fun g _ e=>by cases e⟩,h.low⟩
def TdO (R:List (List (List UInt8))) (w:World) (e:Ending) (w':World):Prop:=∃ us av,e=.returned av/\TdAt w.heap.size R us av [] (.slice none 0 0) w'/\Below w.heap.size w w'
theorem y6s (x:List UInt8):(yc x).toList.isEmpty=decide (x=[]):=by
 rw [ByteArray.toList_eq,zz]
 cases x <;> simp
def TdS (s:List UInt8) (R:List (List (List UInt8))) (i:Nat) (W:List UInt8) (L:List (List UInt8)) (A:List (List (List UInt8))):Prop:=
 ((i<=s.length/\tl (s.drop i) W L A=R)∨(i=s.length+1/\A=R))/\(∀ x∈L,x≠[])/\W.length<=i/\L.length<=i/\A.length<=i
theorem TdS.step {s:List UInt8} {R:List (List (List UInt8))} {i:Nat} {W:List UInt8} {L:List (List UInt8)} {A:List (List (List UInt8))} (h:TdS s R i W L A) (hi:i<s.length) (h1:s[i]≠10) (h2:blk s[i]=false):TdS s R (i+1) (W++[s[i]]) L A:=by
 obtain ⟨h3,h4,h5,h6,h7⟩:=h
 refine ⟨.inl ⟨by omega,?_⟩,h4,by simp;omega,by omega,by omega⟩
 rcases h3 with ⟨_,h3⟩ | ⟨h3,_⟩
 ·rw [List.drop_eq_getElem_cons hi] at h3
  simpa [tl,h1,h2] using h3
 ·omega
theorem Z1 {W:List UInt8} {L:List (List UInt8)} {i:Nat} (h1:∀ x∈L,x≠[]) (h2:L.length<=i):(∀ x∈lnW W L,x≠[])/\(lnW W L).length<=i+1:=by
 unfold lnW
 by_cases hw:W=[]
 ·rw [if_pos hw];exact ⟨h1,by omega⟩
 ·rw [if_neg hw]
  refine ⟨fun x hx=>?_,by simp;omega⟩
  rcases List.mem_append.1 hx with h | h
  ·exact h1 x h
  ·rw [List.mem_singleton.1 h];exact hw
theorem TdS.blank {s:List UInt8} {R:List (List (List UInt8))} {i:Nat} {W:List UInt8} {L:List (List UInt8)} {A:List (List (List UInt8))} (h:TdS s R i W L A) (hi:i<s.length) (h1:s[i]≠10) (h2:blk s[i]=true):TdS s R (i+1) [] (lnW W L) A:=by
 obtain ⟨h3,h4,h5,h6,h7⟩:=h
 obtain ⟨h8,h9⟩:=Z1 (W:=W) h4 h6
 refine ⟨.inl ⟨by omega,?_⟩,h8,by simp,h9,by omega⟩
 rcases h3 with ⟨_,h3⟩ | ⟨h3,_⟩
 ·rw [List.drop_eq_getElem_cons hi] at h3
  simpa [tl,h1,h2] using h3
 ·omega
theorem y6t (l:List (List UInt8)) (A:List (List (List UInt8))) {i:Nat} (h:A.length<=i):(addW l A).length<=i+1:=by
 unfold addW
 split
 ·omega
 ·simp;omega
theorem TdS.eol {s:List UInt8} {R:List (List (List UInt8))} {i:Nat} {W:List UInt8} {L:List (List UInt8)} {A:List (List (List UInt8))} (h:TdS s R i W L A) (hi:i<=s.length) (h1:∀ h:i<s.length,s[i]=10):TdS s R (i+1) [] [] (addW (lnW W L) A):=by
 obtain ⟨h3,h4,h5,h6,h7⟩:=h
 refine ⟨?_,fun x hx=>(by cases hx),by simp,by simp,y6t _ _ h7⟩
 rcases h3 with ⟨_,h3⟩ | ⟨h3,_⟩
 ·by_cases hlt:i<s.length
  ·rw [List.drop_eq_getElem_cons hlt] at h3
   exact .inl ⟨by omega,by simpa [tl,h1 hlt] using h3⟩
  ·have:i=s.length:=by omega
   subst this
   exact .inr ⟨rfl,by simpa [tl] using h3⟩
 ·omega
theorem xE {S:Nat->Prop} {w a b:World} (h:Below w.heap.size w a) (k:Ofw S a b) (hS:∀ i,S i->w.heap.size<=i):Below w.heap.size w b:=h.trans (k.below hS h.size)
theorem Y5 {x:ByteArray} (h:x.toList.isEmpty=true):Value.string x=.string (yc []):=congrArg Value.string (Xx h)
theorem ZJ {L:List (List UInt8)} (hne:∀ x∈L,x≠[]) (h0:0<L.length):∃ T:ByteArray,yc L[0]=T/\∃ h:0<T.size,(mute L=true↔((T[0].toNat:Int)=35)):=by
  cases L with
  | nil=>simp at h0
  | cons x l =>
    have hx:=hne x (by simp)
    cases x with
    | nil=>exact absurd rfl hx
    | cons c t =>
      refine ⟨_,rfl,by rw [zI];simp,?_⟩
      have e:(yc (c :: t))[0]'(by rw [zI];simp)=c:=rfl
      simp only [List.getElem_cons_zero]
      rw [e]
      simp only [mute,List.headD_cons,beq_iff_eq]
      constructor
      · intro h;rw [h];rfl
      · intro h;exact UInt8.toNat_inj.1 (by have h35:(35:UInt8).toNat=35:=rfl;omega)
set_option maxRecDepth 100000 in
set_option maxHeartbeats 8000000 in
theorem y6g (s:List UInt8) (w:World) (hs:s.length<=100000):Calls Tryz.prog 36 #[.string (yc s)] w (TdO (zn (yw s [])) w):=by
 obtain ⟨R,hR⟩:∃ R,zn (yw s [])=R:=⟨_,rfl⟩
 have HR:Hid (TdS s R 0 [] [] []):=by
  refine ⟨.inl ⟨Nat.zero_le _,?_⟩,fun x hx=>(by cases hx),by simp,by simp,by simp⟩
  rw [List.drop_zero,ZH s [] [] [] [] (fun x=>by simp),hR,List.nil_append]
 rw [hR]
 clear hR
 obtain ⟨X,hX⟩:∃ X,yc s=X:=⟨_,rfl⟩
 have HX:Hid (yc s=X):=hX
 have HXs:Hid (X.size=s.length):=by show _=_;rw [<-hX];exact zI s
 have HXd:Hid (X.data.toList=s):=by show _=_;rw [<-hX];exact zz s
 rw [hX]
 clear hX
 have HB:Hid (TdAt w.heap.size [] [] (.slice none 0 0) [] (.slice none 0 0) w):=⟨yF _ _ _ _,yF _ _ _ _,fun i hi=>by simp at hi,Nat.le_refl _⟩
 go_enter Tryz.func36,Tryz.ntmps36
 go_wp2_with fail
 go_loopw [3,4,5,6] (fun v3 v4 v5 v6 wr=>∃ (i:Nat) (W:List UInt8) (L:List (List UInt8)) (A:List (List (List UInt8))) (us:List Value) (aa la:Option Addr) (ac lc:Nat),v3=.slice aa A.length ac/\v4=.slice la L.length lc/\v5=.string (yc W)/\v6=.int .i64 (i:Int)/\i<=s.length+1/\Hid (TdS s R i W L A)/\Hid (TdAt w.heap.size A us (.slice aa A.length ac) L (.slice la L.length lc) wr/\Below w.heap.size w wr)) (fun _ _ _ v6 _=>(s.length+1-RowKit.intOf v6).toNat)
 case atStart=>exact ⟨0,[],[],[],[],none,none,0,0,rfl,rfl,rfl,rfl,by omega,HR.out,HB.out,Below.refl _ _⟩
 case round=>
  obtain ⟨i,W,L,A,us,aa,la,ac,lc,rfl,rfl,rfl,rfl,hi,HS,HT⟩:=hrel
  have hXs:=HXs.out
  have hWl:W.length<=200000:=by have:=HS.out.2.2.1;omega
  have hLl:L.length<=200000:=by have:=HS.out.2.2.2.1;omega
  have hAl:A.length<=200000:=by have:=HS.out.2.2.2.2;omega
  have hWz:(yc W).size=W.length:=zI W
  by_cases hin:i<=s.length
  case neg=>
   have hiI:¬ (i:Int)<=(X.size:Int):=by omega
   have HE:Hid (A=R):=by
    rcases HS.out.1 with h | h
    ·exact absurd h.1 hin
    ·exact h.2
   clear hXs hWz
   go_wp2_with fail
   go_ret
   exact ⟨us,_,rfl,by rw [<-HE.out];exact HT.out.1.clear,HT.out.2⟩
  case pos=>
   have hiI:(i:Int)<=(X.size:Int):=by omega
   have hwe:(yc W).toList.isEmpty=decide (W=[]):=y6s W
   by_cases hlt:i<s.length
   case neg=>
    have hil:¬ (i:Int)<(X.size:Int):=by omega
    have hie:((i:Int)==(X.size:Int))=true:=by simp;omega
    have HSe:=HS.out.eol hin (fun h=>absurd h hlt)
    clear hlt
    by_cases hW:W=[]
    case pos=>
     have hw2:(yc W).toList.isEmpty=true:=by rw [hwe];exact decide_eq_true hW
     have HLn:Hid (lnW W L=L):=if_pos hW
     have HNx:Hid (TdS s R (i+1) [] [] (addW L A)):=by rw [<-HLn.out];exact HSe
     have HOk:=Z1 (W:=W) HS.out.2.1 HS.out.2.2.2.1
     rw [HLn.out] at HOk
     by_cases hL0:L=[]
     case pos=>
      have hl0:¬ (0:Int)<(L.length:Int):=by rw [hL0];simp
      have HNy:Hid (TdS s R (i+1) [] [] A):=by have:=HNx.out;rw [hL0] at this;exact this
      clear HSe hwe hW HLn HNx HOk hL0 hXs hWz
      go_wp2_with fail
      go_roundw
      case measure=>simp only [RowKit.intOf];omega
      case rel=>exact ⟨i+1,[],[],A,us,aa,none,ac,0,rfl,rfl,Y5 hw2,by go_num,by omega,HNy.out,HT.out.1.clear,HT.out.2⟩
     case neg=>
      have hl0n:0<L.length:=List.length_pos_iff.2 hL0
      have hl0:(0:Int)<(L.length:Int):=by omega
      obtain ⟨T,hT,hT0,hTm⟩:=ZJ HOk.1 hl0n
      obtain ⟨g0,e0,x0⟩:=xN HT.out.1.rl 0 hl0n
      rw [hT] at x0
      subst e0
      have hT0I:(0:Int)<(T.size:Int):=by omega
      by_cases hm:mute L=true
      case pos=>
       have hq35:((T[0].toNat:Int)==35)=true:=by simpa using hTm.1 hm
       have hq35n:((T[0].toNat:Int) != 35)=false:=by simp only [bne,hq35,Bool.not_true]
       have HNy:Hid (TdS s R (i+1) [] [] A):=by have:=HNx.out;unfold addW at this;rw [if_pos hm] at this;exact this
       clear HSe hwe hW HLn HNx HOk hm hTm hXs hWz hT hL0
       go_wp2_with fail
       go_roundw
       case measure=>simp only [RowKit.intOf];omega
       case rel=>exact ⟨i+1,[],[],A,us,aa,none,ac,0,rfl,rfl,Y5 hw2,by go_num,by omega,HNy.out,HT.out.1.clear,HT.out.2⟩
      case neg=>
       have hq35:((T[0].toNat:Int)==35)=false:=by simpa using fun e=>hm (hTm.2 e)
       have hq35n:((T[0].toNat:Int) != 35)=true:=by simp only [bne,hq35,Bool.not_false]
       have HNy:Hid (TdS s R (i+1) [] [] (A++[L])):=by have:=HNx.out;unfold addW at this;rw [if_neg hm] at this;exact this
       clear HSe hwe hW HLn HNx HOk hm hTm hXs hWz hT hL0
       go_wp2_with (at_builtin;refine zZ wr (.slice (some ⟨g0,0,none⟩) L.length lc) rfl _ _ 93 78 (.slice none 0 0) 24 rfl un93 ZI rfl w.heap.size _ _ _ (by rfl) HT.out.1.ra rfl _ rfl (by rfl) (by unfold maxLen;omega) (by omega) HT.out.1.low ?_;intro v4 w4 ho4 hg4 hn4;obtain ⟨a4,cp4,hv4⟩:=yq ho4;subst hv4;(have HT4:Hid (TdAt w.heap.size (A++[L]) (us++[(.slice (some ⟨g0,0,none⟩) L.length lc)]) (.slice a4 (A++[L]).length cp4) [] (.slice none 0 0) w4/\Below w.heap.size w w4):=⟨by rw [List.length_append];exact HT.out.1.line ho4 (zl hg4),xE HT.out.2 (zl hg4) (fun k hk=>(yn HT.out.1.ra hk).1)⟩);clear ho4 hg4 hn4)
       go_roundw
       case measure=>simp only [RowKit.intOf];omega
       case rel=>exact ⟨i+1,[],[],A++[L],_,a4,none,cp4,0,by simp,rfl,Y5 hw2,by go_num,by omega,HNy.out,HT4.out⟩
    case neg=>
     have hw2:(yc W).toList.isEmpty=false:=by rw [hwe];exact decide_eq_false hW
     have HLn:Hid (lnW W L=L++[W]):=if_neg hW
     have HNx:Hid (TdS s R (i+1) [] [] (addW (L++[W]) A)):=by rw [<-HLn.out];exact HSe
     have HOk:=Z1 (W:=W) HS.out.2.1 HS.out.2.2.2.1
     rw [HLn.out] at HOk
     have hl0n:0<(L++[W]).length:=by simp
     have hl0:(0:Int)<((L++[W]).length:Int):=by omega
     obtain ⟨T,hT,hT0,hTm⟩:=ZJ HOk.1 hl0n
     have hT0I:(0:Int)<(T.size:Int):=by omega
     by_cases hm:mute (L++[W])=true
     case pos=>
      have hq35:((T[0].toNat:Int)==35)=true:=by simpa using hTm.1 hm
      have hq35n:((T[0].toNat:Int) != 35)=false:=by simp only [bne,hq35,Bool.not_true]
      have HNy:Hid (TdS s R (i+1) [] [] A):=by have:=HNx.out;unfold addW at this;rw [if_pos hm] at this;exact this
      have HT0:Hid (yc ((L++[W])[0]'(by simp))=T):=hT
      clear HSe hwe hW HLn HNx HOk hm hTm hXs hWz hT
      go_wp2_with (at_builtin;refine zZ wr (.string (yc W)) rfl _ _ 78 9 (.string ⟨#[]⟩) 16 rfl Yl inf9 rfl w.heap.size _ _ _ (by rfl) HT.out.1.rl rfl _ rfl (by rfl) (by unfold maxLen;omega) (by omega) HT.out.1.low ?_;intro v3 w3 ho3 hg3 hn3;obtain ⟨a3,cp3,hv3⟩:=yq ho3;subst hv3;(have HT3:Hid (TdAt w.heap.size A us (.slice aa A.length ac) (L++[W]) (.slice a3 (L++[W]).length cp3) w3/\Below w.heap.size w w3):=⟨by rw [List.length_append];exact HT.out.1.word ho3 (zl hg3) hn3,xE HT.out.2 (zl hg3) (fun k hk=>(yn HT.out.1.rl hk).1)⟩);(have HT3':Hid (TdAt w.heap.size A us (.slice aa A.length ac) (L++[W]) (.slice a3 (L.length+1) cp3) w3/\Below w.heap.size w w3):=by have:=HT3.out;rw [List.length_append] at this;exact this);clear ho3 hg3 hn3;obtain ⟨g0,e0,x0⟩:=xN HT3.out.1.rl 0 (by simp);rw [HT0.out] at x0;subst e0)
      go_roundw
      case measure=>simp only [RowKit.intOf];omega
      case rel=>exact ⟨i+1,[],[],A,us,aa,none,ac,0,rfl,rfl,rfl,by go_num,by omega,HNy.out,HT3.out.1.clear,HT3.out.2⟩
     case neg=>
      have hq35:((T[0].toNat:Int)==35)=false:=by simpa using fun e=>hm (hTm.2 e)
      have hq35n:((T[0].toNat:Int) != 35)=true:=by simp only [bne,hq35,Bool.not_false]
      have HNy:Hid (TdS s R (i+1) [] [] (A++[(L++[W])])):=by have:=HNx.out;unfold addW at this;rw [if_neg hm] at this;exact this
      have HT0:Hid (yc ((L++[W])[0]'(by simp))=T):=hT
      clear HSe hwe hW HLn HNx HOk hm hTm hXs hWz hT
      go_wp2_with (first
       | (at_builtin;refine zZ wr (.string (yc W)) rfl _ _ 78 9 (.string ⟨#[]⟩) 16 rfl Yl inf9 rfl w.heap.size _ _ _ (by rfl) HT.out.1.rl rfl _ rfl (by rfl) (by unfold maxLen;omega) (by omega) HT.out.1.low ?_;intro v3 w3 ho3 hg3 hn3;obtain ⟨a3,cp3,hv3⟩:=yq ho3;subst hv3;(have HT3:Hid (TdAt w.heap.size A us (.slice aa A.length ac) (L++[W]) (.slice a3 (L++[W]).length cp3) w3/\Below w.heap.size w w3):=⟨by rw [List.length_append];exact HT.out.1.word ho3 (zl hg3) hn3,xE HT.out.2 (zl hg3) (fun k hk=>(yn HT.out.1.rl hk).1)⟩);(have HT3':Hid (TdAt w.heap.size A us (.slice aa A.length ac) (L++[W]) (.slice a3 (L.length+1) cp3) w3/\Below w.heap.size w w3):=by have:=HT3.out;rw [List.length_append] at this;exact this);clear ho3 hg3 hn3;obtain ⟨g0,e0,x0⟩:=xN HT3.out.1.rl 0 (by simp);rw [HT0.out] at x0;subst e0)
       | (at_builtin;refine zZ w3 (.slice (some ⟨g0,0,none⟩) (L.length+1) cp3) rfl _ _ 93 78 (.slice none 0 0) 24 rfl un93 ZI rfl w.heap.size _ _ _ (by rfl) HT3'.out.1.ra rfl _ rfl (by rfl) (by unfold maxLen;omega) (by omega) HT3'.out.1.low ?_;intro v4 w4 ho4 hg4 hn4;obtain ⟨a4,cp4,hv4⟩:=yq ho4;subst hv4;(have HT4:Hid (TdAt w.heap.size (A++[L++[W]]) (us++[(.slice (some ⟨g0,0,none⟩) (L.length+1) cp3)]) (.slice a4 (A++[L++[W]]).length cp4) [] (.slice none 0 0) w4/\Below w.heap.size w w4):=⟨by rw [List.length_append];exact HT3'.out.1.line ho4 (zl hg4),xE HT3'.out.2 (zl hg4) (fun k hk=>(yn HT3'.out.1.ra hk).1)⟩);clear ho4 hg4 hn4))
      go_roundw
      case measure=>simp only [RowKit.intOf];omega
      case rel=>exact ⟨i+1,[],[],A++[(L++[W])],_,a4,none,cp4,0,by simp,rfl,rfl,by go_num,by omega,HNy.out,HT4.out⟩
   case pos=>
    have hXb:i<X.size:=by omega
    have hXi:X[i]'hXb=s[i]:=by
     have h2:X.data.toList[i]?=some s[i]:=by rw [HXd.out];exact List.getElem?_eq_getElem hlt
     have h3:i<X.data.size:=by have:X.size=X.data.size:=rfl;omega
     have h4:X.data[i]?=some s[i]:=by simpa using h2
     exact (Array.getElem?_eq_some_iff.1 h4).2
    have hcv:∀ v:UInt8,((s[i].toNat:Int)==(v.toNat:Int))=decide (s[i]=v):=fun v=>by
     by_cases h:s[i]=v
     ·rw [h];simp
     ·have:s[i].toNat≠v.toNat:=fun e=>h (UInt8.toNat_inj.1 e)
      rw [decide_eq_false h]
      simp
      omega
    by_cases h10:s[i]=10
    case pos=>
     have h32:¬ s[i]=32:=fun e=>by rw [h10] at e;exact absurd e (by decide)
     have h9:¬ s[i]=9:=fun e=>by rw [h10] at e;exact absurd e (by decide)
     have c10:((s[i].toNat:Int)==10)=true:=(hcv 10).trans (decide_eq_true h10)
     have c32:((s[i].toNat:Int)==32)=false:=(hcv 32).trans (decide_eq_false h32)
     have c9:((s[i].toNat:Int)==9)=false:=(hcv 9).trans (decide_eq_false h9)
     have hilI:(i:Int)<(X.size:Int):=by omega
     have hie:((i:Int)==(X.size:Int))=false:=by simp;omega
     have q10:(((X[i]'hXb).toNat:Int)==10)=true:=by rw [hXi];exact c10
     have qn10:(((X[i]'hXb).toNat:Int) != 10)=false:=by simp only [bne,q10,Bool.not_true]
     have q32:(((X[i]'hXb).toNat:Int)==32)=false:=by rw [hXi];exact c32
     have qn32:(((X[i]'hXb).toNat:Int) != 32)=true:=by simp only [bne,q32,Bool.not_false]
     have q9:(((X[i]'hXb).toNat:Int)==9)=false:=by rw [hXi];exact c9
     have qn9:(((X[i]'hXb).toNat:Int) != 9)=true:=by simp only [bne,q9,Bool.not_false]
     have HSe:=HS.out.eol hin (fun _=>h10)
     clear h10 h32 h9 c10 c32 c9 hcv hXi
     by_cases hW:W=[]
     case pos=>
      have hw2:(yc W).toList.isEmpty=true:=by rw [hwe];exact decide_eq_true hW
      have HLn:Hid (lnW W L=L):=if_pos hW
      have HNx:Hid (TdS s R (i+1) [] [] (addW L A)):=by rw [<-HLn.out];exact HSe
      have HOk:=Z1 (W:=W) HS.out.2.1 HS.out.2.2.2.1
      rw [HLn.out] at HOk
      by_cases hL0:L=[]
      case pos=>
       have hl0:¬ (0:Int)<(L.length:Int):=by rw [hL0];simp
       have HNy:Hid (TdS s R (i+1) [] [] A):=by have:=HNx.out;rw [hL0] at this;exact this
       clear HSe hwe hW HLn HNx HOk hL0 hXs hWz
       go_wp2_with fail
       go_roundw
       case measure=>simp only [RowKit.intOf];omega
       case rel=>exact ⟨i+1,[],[],A,us,aa,none,ac,0,rfl,rfl,Y5 hw2,by go_num,by omega,HNy.out,HT.out.1.clear,HT.out.2⟩
      case neg=>
       have hl0n:0<L.length:=List.length_pos_iff.2 hL0
       have hl0:(0:Int)<(L.length:Int):=by omega
       obtain ⟨T,hT,hT0,hTm⟩:=ZJ HOk.1 hl0n
       obtain ⟨g0,e0,x0⟩:=xN HT.out.1.rl 0 hl0n
       rw [hT] at x0
       subst e0
       have hT0I:(0:Int)<(T.size:Int):=by omega
       by_cases hm:mute L=true
       case pos=>
        have hq35:((T[0].toNat:Int)==35)=true:=by simpa using hTm.1 hm
        have hq35n:((T[0].toNat:Int) != 35)=false:=by simp only [bne,hq35,Bool.not_true]
        have HNy:Hid (TdS s R (i+1) [] [] A):=by have:=HNx.out;unfold addW at this;rw [if_pos hm] at this;exact this
        clear HSe hwe hW HLn HNx HOk hm hTm hXs hWz hT hL0
        go_wp2_with fail
        go_roundw
        case measure=>simp only [RowKit.intOf];omega
        case rel=>exact ⟨i+1,[],[],A,us,aa,none,ac,0,rfl,rfl,Y5 hw2,by go_num,by omega,HNy.out,HT.out.1.clear,HT.out.2⟩
       case neg=>
        have hq35:((T[0].toNat:Int)==35)=false:=by simpa using fun e=>hm (hTm.2 e)
        have hq35n:((T[0].toNat:Int) != 35)=true:=by simp only [bne,hq35,Bool.not_false]
        have HNy:Hid (TdS s R (i+1) [] [] (A++[L])):=by have:=HNx.out;unfold addW at this;rw [if_neg hm] at this;exact this
        clear HSe hwe hW HLn HNx HOk hm hTm hXs hWz hT hL0
        go_wp2_with (at_builtin;refine zZ wr (.slice (some ⟨g0,0,none⟩) L.length lc) rfl _ _ 93 78 (.slice none 0 0) 24 rfl un93 ZI rfl w.heap.size _ _ _ (by rfl) HT.out.1.ra rfl _ rfl (by rfl) (by unfold maxLen;omega) (by omega) HT.out.1.low ?_;intro v4 w4 ho4 hg4 hn4;obtain ⟨a4,cp4,hv4⟩:=yq ho4;subst hv4;(have HT4:Hid (TdAt w.heap.size (A++[L]) (us++[(.slice (some ⟨g0,0,none⟩) L.length lc)]) (.slice a4 (A++[L]).length cp4) [] (.slice none 0 0) w4/\Below w.heap.size w w4):=⟨by rw [List.length_append];exact HT.out.1.line ho4 (zl hg4),xE HT.out.2 (zl hg4) (fun k hk=>(yn HT.out.1.ra hk).1)⟩);clear ho4 hg4 hn4)
        go_roundw
        case measure=>simp only [RowKit.intOf];omega
        case rel=>exact ⟨i+1,[],[],A++[L],_,a4,none,cp4,0,by simp,rfl,Y5 hw2,by go_num,by omega,HNy.out,HT4.out⟩
     case neg=>
      have hw2:(yc W).toList.isEmpty=false:=by rw [hwe];exact decide_eq_false hW
      have HLn:Hid (lnW W L=L++[W]):=if_neg hW
      have HNx:Hid (TdS s R (i+1) [] [] (addW (L++[W]) A)):=by rw [<-HLn.out];exact HSe
      have HOk:=Z1 (W:=W) HS.out.2.1 HS.out.2.2.2.1
      rw [HLn.out] at HOk
      have hl0n:0<(L++[W]).length:=by simp
      have hl0:(0:Int)<((L++[W]).length:Int):=by omega
      obtain ⟨T,hT,hT0,hTm⟩:=ZJ HOk.1 hl0n
      have hT0I:(0:Int)<(T.size:Int):=by omega
      by_cases hm:mute (L++[W])=true
      case pos=>
       have hq35:((T[0].toNat:Int)==35)=true:=by simpa using hTm.1 hm
       have hq35n:((T[0].toNat:Int) != 35)=false:=by simp only [bne,hq35,Bool.not_true]
       have HNy:Hid (TdS s R (i+1) [] [] A):=by have:=HNx.out;unfold addW at this;rw [if_pos hm] at this;exact this
       have HT0:Hid (yc ((L++[W])[0]'(by simp))=T):=hT
       clear HSe hwe hW HLn HNx HOk hm hTm hXs hWz hT
       go_wp2_with (at_builtin;refine zZ wr (.string (yc W)) rfl _ _ 78 9 (.string ⟨#[]⟩) 16 rfl Yl inf9 rfl w.heap.size _ _ _ (by rfl) HT.out.1.rl rfl _ rfl (by rfl) (by unfold maxLen;omega) (by omega) HT.out.1.low ?_;intro v3 w3 ho3 hg3 hn3;obtain ⟨a3,cp3,hv3⟩:=yq ho3;subst hv3;(have HT3:Hid (TdAt w.heap.size A us (.slice aa A.length ac) (L++[W]) (.slice a3 (L++[W]).length cp3) w3/\Below w.heap.size w w3):=⟨by rw [List.length_append];exact HT.out.1.word ho3 (zl hg3) hn3,xE HT.out.2 (zl hg3) (fun k hk=>(yn HT.out.1.rl hk).1)⟩);(have HT3':Hid (TdAt w.heap.size A us (.slice aa A.length ac) (L++[W]) (.slice a3 (L.length+1) cp3) w3/\Below w.heap.size w w3):=by have:=HT3.out;rw [List.length_append] at this;exact this);clear ho3 hg3 hn3;obtain ⟨g0,e0,x0⟩:=xN HT3.out.1.rl 0 (by simp);rw [HT0.out] at x0;subst e0)
       go_roundw
       case measure=>simp only [RowKit.intOf];omega
       case rel=>exact ⟨i+1,[],[],A,us,aa,none,ac,0,rfl,rfl,rfl,by go_num,by omega,HNy.out,HT3.out.1.clear,HT3.out.2⟩
      case neg=>
       have hq35:((T[0].toNat:Int)==35)=false:=by simpa using fun e=>hm (hTm.2 e)
       have hq35n:((T[0].toNat:Int) != 35)=true:=by simp only [bne,hq35,Bool.not_false]
       have HNy:Hid (TdS s R (i+1) [] [] (A++[(L++[W])])):=by have:=HNx.out;unfold addW at this;rw [if_neg hm] at this;exact this
       have HT0:Hid (yc ((L++[W])[0]'(by simp))=T):=hT
       clear HSe hwe hW HLn HNx HOk hm hTm hXs hWz hT
       go_wp2_with (first
        | (at_builtin;refine zZ wr (.string (yc W)) rfl _ _ 78 9 (.string ⟨#[]⟩) 16 rfl Yl inf9 rfl w.heap.size _ _ _ (by rfl) HT.out.1.rl rfl _ rfl (by rfl) (by unfold maxLen;omega) (by omega) HT.out.1.low ?_;intro v3 w3 ho3 hg3 hn3;obtain ⟨a3,cp3,hv3⟩:=yq ho3;subst hv3;(have HT3:Hid (TdAt w.heap.size A us (.slice aa A.length ac) (L++[W]) (.slice a3 (L++[W]).length cp3) w3/\Below w.heap.size w w3):=⟨by rw [List.length_append];exact HT.out.1.word ho3 (zl hg3) hn3,xE HT.out.2 (zl hg3) (fun k hk=>(yn HT.out.1.rl hk).1)⟩);(have HT3':Hid (TdAt w.heap.size A us (.slice aa A.length ac) (L++[W]) (.slice a3 (L.length+1) cp3) w3/\Below w.heap.size w w3):=by have:=HT3.out;rw [List.length_append] at this;exact this);clear ho3 hg3 hn3;obtain ⟨g0,e0,x0⟩:=xN HT3.out.1.rl 0 (by simp);rw [HT0.out] at x0;subst e0)
        | (at_builtin;refine zZ w3 (.slice (some ⟨g0,0,none⟩) (L.length+1) cp3) rfl _ _ 93 78 (.slice none 0 0) 24 rfl un93 ZI rfl w.heap.size _ _ _ (by rfl) HT3'.out.1.ra rfl _ rfl (by rfl) (by unfold maxLen;omega) (by omega) HT3'.out.1.low ?_;intro v4 w4 ho4 hg4 hn4;obtain ⟨a4,cp4,hv4⟩:=yq ho4;subst hv4;(have HT4:Hid (TdAt w.heap.size (A++[L++[W]]) (us++[(.slice (some ⟨g0,0,none⟩) (L.length+1) cp3)]) (.slice a4 (A++[L++[W]]).length cp4) [] (.slice none 0 0) w4/\Below w.heap.size w w4):=⟨by rw [List.length_append];exact HT3'.out.1.line ho4 (zl hg4),xE HT3'.out.2 (zl hg4) (fun k hk=>(yn HT3'.out.1.ra hk).1)⟩);clear ho4 hg4 hn4))
       go_roundw
       case measure=>simp only [RowKit.intOf];omega
       case rel=>exact ⟨i+1,[],[],A++[(L++[W])],_,a4,none,cp4,0,by simp,rfl,rfl,by go_num,by omega,HNy.out,HT4.out⟩
    case neg=>
     by_cases h32:s[i]=32
     case pos=>
      have h9:¬ s[i]=9:=fun e=>by rw [h32] at e;exact absurd e (by decide)
      have c10:((s[i].toNat:Int)==10)=false:=(hcv 10).trans (decide_eq_false h10)
      have c32:((s[i].toNat:Int)==32)=true:=(hcv 32).trans (decide_eq_true h32)
      have c9:((s[i].toNat:Int)==9)=false:=(hcv 9).trans (decide_eq_false h9)
      have hilI:(i:Int)<(X.size:Int):=by omega
      have hie:((i:Int)==(X.size:Int))=false:=by simp;omega
      have q10:(((X[i]'hXb).toNat:Int)==10)=false:=by rw [hXi];exact c10
      have qn10:(((X[i]'hXb).toNat:Int) != 10)=true:=by simp only [bne,q10,Bool.not_false]
      have q32:(((X[i]'hXb).toNat:Int)==32)=true:=by rw [hXi];exact c32
      have qn32:(((X[i]'hXb).toNat:Int) != 32)=false:=by simp only [bne,q32,Bool.not_true]
      have q9:(((X[i]'hXb).toNat:Int)==9)=false:=by rw [hXi];exact c9
      have qn9:(((X[i]'hXb).toNat:Int) != 9)=true:=by simp only [bne,q9,Bool.not_false]
      have HSb:=HS.out.blank hlt h10 (by rw [h32];rfl)
      clear h10 h32 h9 c10 c32 c9 hcv hXi
      by_cases hW:W=[]
      case pos=>
       have hw2:(yc W).toList.isEmpty=true:=by rw [hwe];exact decide_eq_true hW
       have HLn:Hid (lnW W L=L):=if_pos hW
       have HNx:Hid (TdS s R (i+1) [] (L) A):=by rw [<-HLn.out];exact HSb
       clear HSb hwe hW HLn hXs hWz
       go_wp2_with fail
       go_roundw
       case measure=>simp only [RowKit.intOf];omega
       case rel=>exact ⟨i+1,[],L,A,us,aa,la,ac,lc,rfl,rfl,Y5 hw2,by go_num,by omega,HNx.out,HT.out⟩
      case neg=>
       have hw2:(yc W).toList.isEmpty=false:=by rw [hwe];exact decide_eq_false hW
       have HLn:Hid (lnW W L=L++[W]):=if_neg hW
       have HNx:Hid (TdS s R (i+1) [] (L++[W]) A):=by rw [<-HLn.out];exact HSb
       clear HSb hwe hW HLn hXs hWz
       go_wp2_with (at_builtin;refine zZ wr (.string (yc W)) rfl _ _ 78 9 (.string ⟨#[]⟩) 16 rfl Yl inf9 rfl w.heap.size _ _ _ (by rfl) HT.out.1.rl rfl _ rfl (by rfl) (by unfold maxLen;omega) (by omega) HT.out.1.low ?_;intro v3 w3 ho3 hg3 hn3;obtain ⟨a3,cp3,hv3⟩:=yq ho3;subst hv3;(have HT3:Hid (TdAt w.heap.size A us (.slice aa A.length ac) (L++[W]) (.slice a3 (L++[W]).length cp3) w3/\Below w.heap.size w w3):=⟨by rw [List.length_append];exact HT.out.1.word ho3 (zl hg3) hn3,xE HT.out.2 (zl hg3) (fun k hk=>(yn HT.out.1.rl hk).1)⟩);(have HT3':Hid (TdAt w.heap.size A us (.slice aa A.length ac) (L++[W]) (.slice a3 (L.length+1) cp3) w3/\Below w.heap.size w w3):=by have:=HT3.out;rw [List.length_append] at this;exact this);clear ho3 hg3 hn3)
       go_roundw
       case measure=>simp only [RowKit.intOf];omega
       case rel=>exact ⟨i+1,[],L++[W],A,us,aa,a3,ac,cp3,rfl,by simp,rfl,by go_num,by omega,HNx.out,HT3.out⟩
     case neg=>
      by_cases h9:s[i]=9
      case pos=>
       have c10:((s[i].toNat:Int)==10)=false:=(hcv 10).trans (decide_eq_false h10)
       have c32:((s[i].toNat:Int)==32)=false:=(hcv 32).trans (decide_eq_false h32)
       have c9:((s[i].toNat:Int)==9)=true:=(hcv 9).trans (decide_eq_true h9)
       have hilI:(i:Int)<(X.size:Int):=by omega
       have hie:((i:Int)==(X.size:Int))=false:=by simp;omega
       have q10:(((X[i]'hXb).toNat:Int)==10)=false:=by rw [hXi];exact c10
       have qn10:(((X[i]'hXb).toNat:Int) != 10)=true:=by simp only [bne,q10,Bool.not_false]
       have q32:(((X[i]'hXb).toNat:Int)==32)=false:=by rw [hXi];exact c32
       have qn32:(((X[i]'hXb).toNat:Int) != 32)=true:=by simp only [bne,q32,Bool.not_false]
       have q9:(((X[i]'hXb).toNat:Int)==9)=true:=by rw [hXi];exact c9
       have qn9:(((X[i]'hXb).toNat:Int) != 9)=false:=by simp only [bne,q9,Bool.not_true]
       have HSb:=HS.out.blank hlt h10 (by rw [h9];rfl)
       clear h10 h32 h9 c10 c32 c9 hcv hXi
       by_cases hW:W=[]
       case pos=>
        have hw2:(yc W).toList.isEmpty=true:=by rw [hwe];exact decide_eq_true hW
        have HLn:Hid (lnW W L=L):=if_pos hW
        have HNx:Hid (TdS s R (i+1) [] (L) A):=by rw [<-HLn.out];exact HSb
        clear HSb hwe hW HLn hXs hWz
        go_wp2_with fail
        go_roundw
        case measure=>simp only [RowKit.intOf];omega
        case rel=>exact ⟨i+1,[],L,A,us,aa,la,ac,lc,rfl,rfl,Y5 hw2,by go_num,by omega,HNx.out,HT.out⟩
       case neg=>
        have hw2:(yc W).toList.isEmpty=false:=by rw [hwe];exact decide_eq_false hW
        have HLn:Hid (lnW W L=L++[W]):=if_neg hW
        have HNx:Hid (TdS s R (i+1) [] (L++[W]) A):=by rw [<-HLn.out];exact HSb
        clear HSb hwe hW HLn hXs hWz
        go_wp2_with (at_builtin;refine zZ wr (.string (yc W)) rfl _ _ 78 9 (.string ⟨#[]⟩) 16 rfl Yl inf9 rfl w.heap.size _ _ _ (by rfl) HT.out.1.rl rfl _ rfl (by rfl) (by unfold maxLen;omega) (by omega) HT.out.1.low ?_;intro v3 w3 ho3 hg3 hn3;obtain ⟨a3,cp3,hv3⟩:=yq ho3;subst hv3;(have HT3:Hid (TdAt w.heap.size A us (.slice aa A.length ac) (L++[W]) (.slice a3 (L++[W]).length cp3) w3/\Below w.heap.size w w3):=⟨by rw [List.length_append];exact HT.out.1.word ho3 (zl hg3) hn3,xE HT.out.2 (zl hg3) (fun k hk=>(yn HT.out.1.rl hk).1)⟩);(have HT3':Hid (TdAt w.heap.size A us (.slice aa A.length ac) (L++[W]) (.slice a3 (L.length+1) cp3) w3/\Below w.heap.size w w3):=by have:=HT3.out;rw [List.length_append] at this;exact this);clear ho3 hg3 hn3)
        go_roundw
        case measure=>simp only [RowKit.intOf];omega
        case rel=>exact ⟨i+1,[],L++[W],A,us,aa,a3,ac,cp3,rfl,by simp,rfl,by go_num,by omega,HNx.out,HT3.out⟩
      case neg=>
       have c10:((s[i].toNat:Int)==10)=false:=(hcv 10).trans (decide_eq_false h10)
       have c32:((s[i].toNat:Int)==32)=false:=(hcv 32).trans (decide_eq_false h32)
       have c9:((s[i].toNat:Int)==9)=false:=(hcv 9).trans (decide_eq_false h9)
       have hilI:(i:Int)<(X.size:Int):=by omega
       have hie:((i:Int)==(X.size:Int))=false:=by simp;omega
       have q10:(((X[i]'hXb).toNat:Int)==10)=false:=by rw [hXi];exact c10
       have qn10:(((X[i]'hXb).toNat:Int) != 10)=true:=by simp only [bne,q10,Bool.not_false]
       have q32:(((X[i]'hXb).toNat:Int)==32)=false:=by rw [hXi];exact c32
       have qn32:(((X[i]'hXb).toNat:Int) != 32)=true:=by simp only [bne,q32,Bool.not_false]
       have q9:(((X[i]'hXb).toNat:Int)==9)=false:=by rw [hXi];exact c9
       have qn9:(((X[i]'hXb).toNat:Int) != 9)=true:=by simp only [bne,q9,Bool.not_false]
       have HNx:=HS.out.step hlt h10 (by simp [blk,h32,h9])
       have HNy:Hid (TdS s R (i+1) (W++[s[i]]) L A):=HNx
       have HE:Hid (yc W++X.extract i (i+1)=yc (W++[s[i]])):=by
        show _=_
        rw [<-HX.out,y6i hlt]
        exact Xw _ _
       have hz:¬ 9223372036854775807<(yc W).size+1:=by omega
       clear h10 h32 h9 c10 c32 c9 hcv hXi HNx hwe hXs hWz
       go_wp2_with fail
       go_roundw
       case measure=>simp only [RowKit.intOf];omega
       case rel=>exact ⟨i+1,W++[s[i]],L,A,us,aa,la,ac,lc,rfl,rfl,congrArg Value.string HE.out,by go_num,by omega,HNy.out,HT.out⟩
end Go.Proofs.YthohnmplbjhjaaaGreatDoor
