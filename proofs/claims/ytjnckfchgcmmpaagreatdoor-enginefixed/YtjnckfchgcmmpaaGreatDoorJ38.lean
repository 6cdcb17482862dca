import Derived.Test.YtjnckfchgcmmpaaGreatDoorJ05
import Derived.Test.YtjnckfchgcmmpaaGreatDoorJ37
namespace Go.Proofs.YtjnckfchgcmmpaaGreatDoor
open Go.RowKit
set_option maxRecDepth 10000
set_option maxHeartbeats 8000000
theorem CtC.of {N lp p B:Nat} {nv mv:Value} {s:St} {g:Nat} {Q:List Sq} {a0 a1 a2 a3 a4 a5 a6 a7 a8 a9:Value} {X w':World} (hN:X.heap[N]?=some (.cells #[a0,a1,a2,a3,a4,a5,a6,a7,a8,a9] 56 (0,0))) (hL:LfQ B lp g p nv mv s Q X) (hk:Kq B X w'):w'.cell? ⟨N,1,none⟩=some a1/\w'.cell? ⟨N,3,none⟩=some a3/\w'.cell? ⟨N,4,none⟩=some a4/\w'.cell? ⟨N,7,none⟩=some a7/\w'.cell? ⟨lp,0,none⟩=some (.pointer (some ⟨p,0,none⟩)):=by
  have h:=hk.block hN (by decide) (by decide);exact ⟨cell_of h 1,cell_of h 3,cell_of h 4,cell_of h 7,hL.box hk⟩
theorem count_any (B lp g p:Nat) (nv mv:Value) (s:St) (Q:List Sq) (w:World) (h:LfQ B lp g p nv mv s Q w) (hts:∀ q∈Q,q.ts.length<=1000) (c:Md.Cn) (vt vx vb vr:Value) (hC:CnK B w c vt vx vb vr) (hx:∀ x∈c.xs,0<=x/\x<(s.now.length:Int)) (hl:c.xs.length<=64) (hk:-1000000000<=c.k/\c.k<=1000000000):Calls Tryz.prog 139 #[.pointer (some ⟨lp,0,none⟩),cnVal c vt vx vb vr] w (RlOut B lp g p nv mv s (countQ s.now c Q) w):=by
  have hBs:=h.size;have hn:=h.n32;obtain ⟨xa,xc,rfl,_⟩:=hC.at.x.form;obtain ⟨W,hW⟩:∃ W,w.alloc (.cells #[.int .i64 c.kind,.int .i64 c.op,vt,.int .i64 c.k,.int .i64 c.v,.int .i64 c.x,.int .i64 c.y,.slice xa c.xs.length xc,vb,vr] 56)=W:=⟨_,rfl⟩;have hb0:Below w.heap.size w W:=bAe hW;have g0:W.heap[w.heap.size]?=some (.cells #[.int .i64 c.kind,.int .i64 c.op,vt,.int .i64 c.k,.int .i64 c.v,.int .i64 c.x,.int .i64 c.y,.slice xa c.xs.length xc,vb,vr] 56 (0,0)):=hAe hW;have HLW:Hid (LfQ B lp g p nv mv s Q W):=h.below hb0;have HKW:Hid (Kq B w W):=Kq.of_below hb0 hBs
  have HG:Hid (∀ w',Kq B W w'->w'.cell? ⟨w.heap.size,1,none⟩=some (.int .i64 c.op)/\w'.cell? ⟨w.heap.size,3,none⟩=some (.int .i64 c.k)/\w'.cell? ⟨w.heap.size,4,none⟩=some (.int .i64 c.v)/\w'.cell? ⟨w.heap.size,7,none⟩=some (.slice xa c.xs.length xc)/\w'.cell? ⟨lp,0,none⟩=some (.pointer (some ⟨p,0,none⟩))):=fun w' hk=>CtC.of g0 HLW.out hk
  have HGb:Hid (∀ w',Kq B W w'->w'.heap[w.heap.size]?=some (.cells #[.int .i64 c.kind,.int .i64 c.op,vt,.int .i64 c.k,.int .i64 c.v,.int .i64 c.x,.int .i64 c.y,.slice xa c.xs.length xc,vb,vr] 56 (0,0))):=fun w' hk=>hk.block g0 (by decide) (by decide)
  have HXs:Hid (∀ k (hk:k<c.xs.length) w',Kq B W w'->∃ b off,xa=some ⟨b,off,none⟩/\w'.cell? ⟨b,off+k,none⟩=some (.int .i64 c.xs[k])):=fun k hkl w' hk=>by
    obtain ⟨a',c',e1,_,hcell⟩:=(hC w' ((hb0.mono hBs).trans hk.below)).x;injection e1 with e1 _ _;obtain ⟨b,off,ha,_,hcl⟩:=hcell (by omega);exact ⟨b,off,by rw [e1,ha],hcl k hkl⟩
  have HXb:Hid (∀ k (hk:k<c.xs.length),∃ m:Nat,c.xs[k]=(m:Int)/\m<s.now.length):=fun k hk=>⟨c.xs[k].toNat,by have:=hx c.xs[k] (List.getElem_mem hk);omega,by have:=hx c.xs[k] (List.getElem_mem hk);omega⟩
  have HVr:Hid (Calls Tryz.prog 28 #[.pointer (some ⟨p,0,none⟩)] W fun e w2=>e=.returned (.int .i64 (s.now.length:Int))/\w2=W):=HLW.out.vars (Below.refl _ _);have HHs:Hid (∀ (x:Nat) (hx:x<s.now.length) (v:Int) w',Kq B W w'->Calls Tryz.prog 29 #[.pointer (some ⟨p,0,none⟩),.int .i64 (x:Int),.int .i64 v] w' fun e w2=>e=.returned (.bool (s.now[x].has v))/\Below w'.heap.size w' w2):=fun x hx v w' hk=>HLW.out.hass x hx v hk.below
  have HSz:Hid (∀ (x:Nat) (hx:x<s.now.length) w',Kq B W w'->Calls Tryz.prog 166 #[.pointer (some ⟨p,0,none⟩),.int .i64 (x:Int)] w' fun e w2=>e=.returned (.int .i64 s.now[x].size)/\Below w'.heap.size w' w2):=fun x hx w' hk=>HLW.out.sizes x hx hk.below
  have HKp:Hid (∀ (x:Nat) (_:x<s.now.length) w' Q' (a b:Int),LfQ B lp g p nv mv s Q' w'->Calls Tryz.prog 160 #[.pointer (some ⟨lp,0,none⟩),.int .i64 (x:Int),.agg #[.int .i64 a,.int .i64 b]] w' (KqOut B lp g p nv mv s (keepQ Q' x a b) w')):=fun x hx w' Q' a b hL=>hL.keep x hx a b
  have HSm:Hid (∀ (x:Nat) (_:x<s.now.length) w' Q',LfQ B lp g p nv mv s Q' w'->Kq B W w'->(∀ q∈Q',q.ts.length<=100000)->Calls Tryz.prog 154 #[.pointer (some ⟨lp,0,none⟩),.int .i64 (x:Int),.func (.func 167) #[] #[.pointer (some ⟨w.heap.size,0,none⟩)]] w' (KqOut B lp g p nv mv s (someQ Q' x (fun u=>u != c.v)) w')):=fun x hx w' Q' hL hk hl=>hL.some x hx 167 #[.pointer (some ⟨w.heap.size,0,none⟩)] (fun u=>u != c.v) ⟨167,_,rfl,enters98,fun w2 hk2 u _ _=>ct1_any w.heap.size c.v u _ _ _ _ _ _ _ _ _ w2 (HGb.out w2 (hk.trans hk2))⟩ hl
  have HJu:Hid (∀ (v:Int) w',Calls Tryz.prog 162 #[.int .i64 v] w' fun e w2=>e=.returned (.agg #[.int .i64 v,.int .i64 v])/\Below w'.heap.size w' w2):=fun v w'=>just_any v w'
  have HTs:Hid (∀ q∈Q,q.ts.length<=1000):=hts;obtain ⟨n,hnn⟩:∃ n,s.now.length=n:=⟨_,rfl⟩;rw [hnn] at hn HVr HXb;have hmk:=makeN n (by omega);obtain ⟨W1,hW1⟩:∃ W1,W.alloc (.cells (madeCells #[.int .i64 0] n) 3)=W1:=⟨_,rfl⟩;have hb1:Below W.heap.size W W1:=bAe hW1;have HR0:Hid (RowI W1 W.heap.size (plcL (c.xs.take 0) n)):=by
    show RowI _ _ _;rw [List.take_zero];show RowI _ _ (coefL [] n);rw [coefL_nil];exact rowI_made W n hW1
  have HBs:Hid (B<=W.heap.size):=Nat.le_trans hBs hb0.size;have HB1:Hid (Below W.heap.size W W1):=hb1;obtain ⟨c1,c3,c4,c7,cl⟩:=HG.out W (Kq.refl _ _);have HNn:Hid (s.now.length=n):=hnn;obtain ⟨hk1,hk2⟩:=hk;clear h hts hC hx hBs hb0 g0 hnn hb1;unfold cnVal;go_enter Tryz.func139,Tryz.ntmps139;go_wp2_with fail
  refine cA HVr.out ?_;rintro e wv ⟨rfl,hwv⟩;rw [hwv];clear hwv;have d7:W1.cell? ⟨w.heap.size,7,none⟩=some (.slice xa c.xs.length xc):=(HG.out W1 (Kq.of_below HB1.out HBs.out)).2.2.2.1;go_wp2_with fail
  try rw [hW1]
  clear c1 c3 c4 c7 cl hW hmk d7;go_loopw [25] (fun iv wr=>∃ (k:Nat),iv=.int .i64 (k:Int)/\k<=c.xs.length/\Hid (RowI wr W.heap.size (plcL (c.xs.take k) n))/\Hid (Below W.heap.size W wr)) (fun iv _=>c.xs.length-(intOf iv).toNat)
  case atStart=>exact ⟨0,rfl,Nat.zero_le _,HR0,HB1⟩
  case round=>
  obtain ⟨k,rfl,hk,HR,HBr⟩:=hrel;clear hW1
  by_cases hkn:k<c.xs.length
  · have hkI:(k:Int)<(c.xs.length:Int):=by omega
    obtain ⟨b,off,rfl,f0⟩:=HXs.out k hkn wr (Kq.of_below HBr.out HBs.out);obtain ⟨m,hm,hmn⟩:=HXb.out k hkn;have hmL:m<(plcL (c.xs.take k) n).length:=by rw [plcL_len];exact hmn
    have hnx:=plcL_next hkn hm hmL;obtain ⟨hd0,hd1⟩:=plcL_bdk c.xs k n m hl hmL;obtain ⟨d2,dz⟩:=HR.out.cell m hmL;obtain ⟨z,hz⟩:∃ z,(plcL (c.xs.take k) n)[m]=z:=⟨_,rfl⟩;rw [hm] at f0;rw [hz] at hnx hd0 hd1 d2;have HN:Hid (plcL (c.xs.take (k+1)) n=(plcL (c.xs.take k) n).set m (z+1)):=hnx;have hmI:(m:Int)<(n:Int):=by omega
    clear hnx hz hm;go_wp2_with fail
    have HR2:Hid (RowI (wr.setCell ⟨W.heap.size,m,none⟩ (.int .i64 (z+1))) W.heap.size (plcL (c.xs.take (k+1)) n)):=by
      show RowI _ _ _;rw [HN.out];exact HR.out.set m _
    have HB2:Hid (Below W.heap.size W (wr.setCell ⟨W.heap.size,m,none⟩ (.int .i64 (z+1)))):=HBr.out.setCell (Nat.le_refl _) _;go_roundw
    case rel=>exact ⟨k+1,by go_num,hkn,HR2,HB2⟩
    case measure=>simp [intOf];omega
  have hke:k=c.xs.length:=by omega
  subst hke;have hkI:¬ (c.xs.length:Int)<(c.xs.length:Int):=by omega
  rw [List.take_length] at HR;rename World=>wP;have HKP:Hid (Kq B W wP):=Kq.of_below HBr.out HBs.out;have HSP:Hid (B<=wP.heap.size):=Nat.le_trans HBs.out HBr.out.size;have hD:s.now.length=n:=HNn.out;obtain ⟨zs,hzs⟩:∃ zs,(plcL c.xs n).zip s.now=zs:=⟨_,rfl⟩;have hzl:zs.length=n:=by rw [<-hzs,List.length_zip,plcL_len,hD,Nat.min_self]
  have hz1:∀ k (hk:k<zs.length),∃ (h1:k<(plcL c.xs n).length) (h2:k<s.now.length),zs[k]=((plcL c.xs n)[k],s.now[k]):=fun k hk=>by
    subst hzs;rw [List.length_zip] at hk;exact ⟨by omega,by omega,by rw [List.getElem_zip]⟩
  have HZ:Hid (∀ z∈zs,-64000000<=z.1/\z.1<=64000000):=fun z hz=>by
    obtain ⟨k,hk,rfl⟩:=List.getElem_of_mem hz;obtain ⟨h1,h2,e⟩:=hz1 k hk;rw [e];have:=plcL_bdk c.xs c.xs.length n k hl (by rw [List.take_length];exact h1);simp only [List.take_length] at this;exact this
  have HPc:Hid (∀ k (hk:k<zs.length) w',Kq B wP w'->w'.cell? ⟨W.heap.size,k,none⟩=some (.int .i64 zs[k].1)):=fun k hk w' hkq=>by
    obtain ⟨h1,h2,e⟩:=hz1 k hk;rw [e];exact ((HR.out.kq hkq).cell k h1).1
  have HHz:Hid (∀ k (hk:k<zs.length) w',Kq B W w'->Calls Tryz.prog 29 #[.pointer (some ⟨p,0,none⟩),.int .i64 (k:Int),.int .i64 c.v] w' fun e w2=>e=.returned (.bool (zs[k].2.has c.v))/\Below w'.heap.size w' w2):=fun k hk w' hkq=>by
    obtain ⟨h1,h2,e⟩:=hz1 k hk;rw [e];exact HHs.out k h2 c.v w' hkq
  have HSzz:Hid (∀ k (hk:k<zs.length) w',Kq B W w'->Calls Tryz.prog 166 #[.pointer (some ⟨p,0,none⟩),.int .i64 (k:Int)] w' fun e w2=>e=.returned (.int .i64 zs[k].2.size)/\Below w'.heap.size w' w2):=fun k hk w' hkq=>by
    obtain ⟨h1,h2,e⟩:=hz1 k hk;rw [e];exact HSz.out k h2 w' hkq
  have HLt:Hid (∀ k,k<zs.length->k<s.now.length):=fun k hk=>by rw [hD,<-hzl];exact hk
  have hz32:zs.length<=32:=by omega
  have HQ:Hid (countQ s.now c Q=if ((c.op != 3)&&decide (c.k<sumZ (sure1 c.v) zs)||(c.op != 1)&&decide (sumZ (may1 c.v) zs<c.k))=true then none else some (ctQ (c.op != 3) (c.op != 1) c.v c.k (sumZ (sure1 c.v) zs) (sumZ (may1 c.v) zs) zs Q zs.length)):=by show _=_;unfold countQ;rw [hD,hzs]
  obtain ⟨R,hR⟩:∃ R,countQ s.now c Q=R:=⟨_,rfl⟩;rw [hR] at HQ;have HRR:Hid (countQ s.now c Q=R):=hR;have hnz:n=zs.length:=hzl.symm
  have HB1:Hid (∀ k,-3000000000<=sumZ (sure1 c.v) (zs.take k)/\sumZ (sure1 c.v) (zs.take k)<=3000000000):=fun k=>sumZ_bd _ zs (fun z hz=>by have:=HZ.out z hz;unfold sure1;split <;> omega) hz32 k
  have HB2:Hid (∀ k,-3000000000<=sumZ (may1 c.v) (zs.take k)/\sumZ (may1 c.v) (zs.take k)<=3000000000):=fun k=>sumZ_bd _ zs (fun z hz=>by have:=HZ.out z hz;unfold may1;split <;> omega) hz32 k
  subst hnz;clear hzs hzl hz1 hD hR HXs HXb hkn hk HVr HR0 HNn;go_wp2_with fail
  go_loopw [8,9,38] (fun sv mv iv wr=>∃ (k:Nat),iv=.int .i64 (k:Int)/\sv=.int .i64 (sumZ (sure1 c.v) (zs.take k))/\mv=.int .i64 (sumZ (may1 c.v) (zs.take k))/\k<=zs.length/\Hid (Below wP.heap.size wP wr)) (fun _ _ iv _=>zs.length-(intOf iv).toNat)
  case atStart=>exact ⟨0,rfl,rfl,rfl,Nat.zero_le _,Below.refl _ _⟩
  case round=>
  obtain ⟨k,rfl,rfl,rfl,hk,HBq⟩:=hrel;rename World=>wq;have HKq:Hid (Kq B W wq):=HKP.out.next HBq.out HSP.out;have HSQ:Hid (B<=wq.heap.size):=Nat.le_trans HSP.out HBq.out.size
  by_cases hkn:k<zs.length
  · have hkI:(k:Int)<(zs.length:Int):=by omega
    have f0:=HPc.out k hkn wq (Kq.of_below HBq.out HSP.out);have n1:=sumZ_next (sure1 c.v) zs k hkn;have n2:=sumZ_next (may1 c.v) zs k hkn;have hbz:=HZ.out zs[k] (List.getElem_mem hkn);have hs1:=HB1.out k;have hs2:=HB2.out k;unfold sure1 at n1;unfold may1 at n2;have HHk:=HHz.out k hkn;have HSk:=HSzz.out k hkn;obtain ⟨z,hz⟩:∃ z,zs[k]=z:=⟨_,rfl⟩;rw [hz] at f0 n1 n2 hbz HHk HSk;obtain ⟨a1,ha1⟩:∃ x,sumZ (sure1 c.v) (zs.take k)=x:=⟨_,rfl⟩;obtain ⟨a2,ha2⟩:∃ x,sumZ (may1 c.v) (zs.take k)=x:=⟨_,rfl⟩;have n1':sumZ (sure1 c.v) (zs.take (k+1))=a1+(if (z.2.has c.v&&z.2.size==1)=true then z.1 else 0):=by rw [<-ha1];exact n1
    have n2':sumZ (may1 c.v) (zs.take (k+1))=a2+(if z.2.has c.v=true then z.1 else 0):=by rw [<-ha2];exact n2
    rw [ha1] at hs1;rw [ha2] at hs2;rw [ha1,ha2];have HN1:Hid (sumZ (sure1 c.v) (zs.take (k+1))=a1+(if (z.2.has c.v&&z.2.size==1)=true then z.1 else 0)):=n1';have HN2:Hid (sumZ (may1 c.v) (zs.take (k+1))=a2+(if z.2.has c.v=true then z.1 else 0)):=n2';obtain ⟨r,hr⟩:∃ r,z.2.has c.v=r:=⟨_,rfl⟩;obtain ⟨m,hm⟩:∃ m,z.1=m:=⟨_,rfl⟩;obtain ⟨sz,hsz⟩:∃ m,z.2.size=m:=⟨_,rfl⟩;rw [hr] at HN1 HN2 HHk;rw [hm] at HN1 HN2 f0 hbz;rw [hsz] at HN1 HSk;have HHk':Hid (Calls Tryz.prog 29 #[.pointer (some ⟨p,0,none⟩),.int .i64 (k:Int),.int .i64 c.v] wq.drew fun e w2=>e=.returned (.bool r)/\Below wq.drew.heap.size wq.drew w2):=HHk wq.drew (HKq.out.next (Below.refl _ _).drew HSQ.out)
    have HSk':Hid (∀ w',Kq B W w'->Calls Tryz.prog 166 #[.pointer (some ⟨p,0,none⟩),.int .i64 (k:Int)] w' fun e w2=>e=.returned (.int .i64 sz)/\Below w'.heap.size w' w2):=HSk;have HGq:Hid (∀ w',Below wq.heap.size wq w'->w'.cell? ⟨w.heap.size,4,none⟩=some (.int .i64 c.v)/\w'.cell? ⟨lp,0,none⟩=some (.pointer (some ⟨p,0,none⟩))):=fun w' hb=>⟨(HG.out w' (HKq.out.next hb HSQ.out)).2.2.1,(HG.out w' (HKq.out.next hb HSQ.out)).2.2.2.2⟩
    clear n1 n2 n1' n2' hz ha1 ha2 hr hm hsz HHk HSk;go_wp2_with fail
    go_region_held3 (fun w'=>w'.cell? ⟨w.heap.size,4,none⟩=some (.int .i64 c.v)/\w'.cell? ⟨lp,0,none⟩=some (.pointer (some ⟨p,0,none⟩)))
      (first | exact HGq.out _ (Below.refl _ _).drew | exact HGq.out _ HB4.out)
      (first | (go_at_call 29;refine cA HHk'.out ?_;rintro e w4 ⟨rfl,hb4⟩;(have HB4:Hid (Below wq.heap.size wq w4):=(Below.refl _ _).drew.trans hb4);clear hb4))
    cases r with
    | false =>
      go_wp2_with fail
      go_roundw
      case rel=>exact ⟨k+1,by go_num,by rw [HN1.out];simp,by rw [HN2.out];simp,hkn,bl_next HBq.out HB4.out⟩
      case measure=>simp [intOf];omega
    | true =>
      have d0:w4.cell? ⟨lp,0,none⟩=some (.pointer (some ⟨p,0,none⟩)):=(HGq.out w4 HB4.out).2;go_wp2_with fail
      refine cA (HSk'.out w4 (HKq.out.next HB4.out HSQ.out)) ?_;rintro e w5 ⟨rfl,hb5⟩;have HB5:Hid (Below wq.heap.size wq w5):=HB4.out.trans (hb5.mono HB4.out.size);clear hb5 d0
      by_cases h1:sz=1
      · have e1:(sz==1)=true:=by simpa using h1
        go_wp2_with fail
        go_roundw
        case rel=>exact ⟨k+1,by go_num,by rw [HN1.out,e1];go_num,by rw [HN2.out];go_num,hkn,bl_next HBq.out HB5.out⟩
        case measure=>simp [intOf];omega
      · have e1:(sz==1)=false:=by simpa using h1
        go_wp2_with fail
        go_roundw
        case rel=>exact ⟨k+1,by go_num,by rw [HN1.out,e1];simp,by rw [HN2.out];go_num,hkn,bl_next HBq.out HB5.out⟩
        case measure=>simp [intOf];omega
  have hke:k=zs.length:=by omega
  subst hke;have hkI2:¬ (zs.length:Int)<(zs.length:Int):=by omega
  rw [List.take_length];have hs1:=HB1.out zs.length;have hs2:=HB2.out zs.length;rw [List.take_length] at hs1 hs2;obtain ⟨su,hsu⟩:∃ x,sumZ (sure1 c.v) zs=x:=⟨_,rfl⟩;obtain ⟨ma,hma⟩:∃ x,sumZ (may1 c.v) zs=x:=⟨_,rfl⟩;rw [hsu] at hs1 HQ;rw [hma] at hs2 HQ;rw [hsu,hma];obtain ⟨am,ham⟩:∃ x,(c.op != 3)=x:=⟨_,rfl⟩;obtain ⟨al,hal⟩:∃ x,(c.op != 1)=x:=⟨_,rfl⟩;rw [ham,hal] at HQ;obtain ⟨q1,q3,q4,q7,ql⟩:=HG.out wq HKq.out;clear hsu hma HB1 HB2;go_wp2_with fail
  go_quiet ((fail))
  rename_i nq _
  obtain ⟨wy,hwy⟩:∃ w2,wq.drewN nq=w2:=⟨_,rfl⟩;have hby:Below wq.heap.size wq wy:=by rw [<-hwy];exact bl_drewN wq nq
  rw [hwy];have HKy:Hid (Kq B W wy):=HKq.out.next hby HSQ.out;have HLy:Hid (LfQ B lp g p nv mv s Q wy):=(HLW.out.below (HBr.out.trans ((HBq.out.trans (hby.mono HBq.out.size)).mono HBr.out.size)));have HKPy:Hid (Kq B wP wy):=Kq.of_below (HBq.out.trans (hby.mono HBq.out.size)) HSP.out;obtain ⟨y1,y3,y4,y7,yl⟩:=HG.out wy HKy.out;clear hwy hby q1 q3 q4 q7 ql;obtain ⟨fb,hfb⟩:∃ x,(am&&decide (c.k<su)||al&&decide (ma<c.k))=x:=⟨_,rfl⟩;rw [hfb] at HQ;have HFb:Hid ((am&&decide (c.k<su)||al&&decide (ma<c.k))=fb):=hfb;clear hfb;go_upto_region 17 with fail
  go_cut [86] from 71 to 144 (fun s86 wx=>s86=.bool fb/\wy=wx)
  case first=>
    have hF:=HFb.out
    by_cases h1:c.k<su
    · have e1:decide (c.k<su)=true:=by simpa using h1
      rw [e1] at hF
      by_cases h2:ma<c.k
      · have e2:decide (ma<c.k)=true:=by simpa using h2
        rw [e2] at hF
        cases am <;> cases al <;> (simp at hF;subst hF;go_wp2_with fail;go_meet;exact ⟨rfl,rfl⟩)
      · have e2:decide (ma<c.k)=false:=by simpa using h2
        rw [e2] at hF
        cases am <;> cases al <;> (simp at hF;subst hF;go_wp2_with fail;go_meet;exact ⟨rfl,rfl⟩)
    · have e1:decide (c.k<su)=false:=by simpa using h1
      rw [e1] at hF
      by_cases h2:ma<c.k
      · have e2:decide (ma<c.k)=true:=by simpa using h2
        rw [e2] at hF
        cases am <;> cases al <;> (simp at hF;subst hF;go_wp2_with fail;go_meet;exact ⟨rfl,rfl⟩)
      · have e2:decide (ma<c.k)=false:=by simpa using h2
        rw [e2] at hF
        cases am <;> cases al <;> (simp at hF;subst hF;go_wp2_with fail;go_meet;exact ⟨rfl,rfl⟩)
  case rest=>
  obtain ⟨rfl,hwy2⟩:=hcut;rw [<-hwy2];clear hwy2
  cases fb with
  | true =>
    have HRn:Hid (R=none):=by show _=_;rw [HQ.out];rfl
    go_wp2_with fail
    go_ret;rw [HRR.out,HRn.out];exact ⟨rfl,(fun Q' h=>by cases h),HKW.out.trans HKy.out⟩
  | false=>
  have HRs:Hid (R=some (ctQ am al c.v c.k su ma zs Q zs.length)):=by show _=_;rw [HQ.out];rfl
  clear HQ HFb y1 y3 y4 y7 yl ham hal;go_wp2_with fail
  go_loopw [89] (fun iv wr=>∃ (k:Nat),iv=.int .i64 (k:Int)/\k<=zs.length/\Hid (LfQ B lp g p nv mv s (ctQ am al c.v c.k su ma zs Q k) wr)/\Hid (Kq B wP wr)) (fun iv _=>zs.length-(intOf iv).toNat)
  case atStart=>exact ⟨0,rfl,Nat.zero_le _,HLy,HKPy⟩
  case round=>
  obtain ⟨k,rfl,hk,HLr,HKr⟩:=hrel;rename World=>wr;have HKr2:Hid (Kq B W wr):=HKP.out.trans HKr.out
  by_cases hkn:k<zs.length
  · have hkI:(k:Int)<(zs.length:Int):=by omega
    have f0:=HPc.out k hkn wr HKr.out;have hnx:=ctQ_next am al c.v c.k su ma zs Q k hkn;have hbz:=HZ.out zs[k] (List.getElem_mem hkn);have HHk:=HHz.out k hkn;have HSk:=HSzz.out k hkn;have hts:=ctQ_ts HTs.out am al c.v c.k su ma zs k;have hlt:=HLt.out k hkn;unfold ctStep at hnx;obtain ⟨z,hz⟩:∃ z,zs[k]=z:=⟨_,rfl⟩;rw [hz] at f0 hnx hbz HHk HSk;obtain ⟨Qk,hQk⟩:∃ x,ctQ am al c.v c.k su ma zs Q k=x:=⟨_,rfl⟩;rw [hQk] at hnx HLr hts;obtain ⟨r,hr⟩:∃ r,z.2.has c.v=r:=⟨_,rfl⟩;obtain ⟨m,hm⟩:∃ m,z.1=m:=⟨_,rfl⟩;obtain ⟨sz,hsz⟩:∃ m,z.2.size=m:=⟨_,rfl⟩;rw [hr,hm,hsz] at hnx;rw [hm] at f0 hbz;rw [hr] at HHk;rw [hsz] at HSk
    have HN:Hid (ctQ am al c.v c.k su ma zs Q (k+1)=if m=0∨r=false then Qk else if (al&&decide (ma-m<c.k))=true then keepQ (if (am&&decide (1<sz)&&decide (c.k<su+m))=true then someQ Qk k (fun u=>u != c.v) else Qk) k c.v c.v else (if (am&&decide (1<sz)&&decide (c.k<su+m))=true then someQ Qk k (fun u=>u != c.v) else Qk)):=hnx;have HHk':Hid (Calls Tryz.prog 29 #[.pointer (some ⟨p,0,none⟩),.int .i64 (k:Int),.int .i64 c.v] wr.drew fun e w2=>e=.returned (.bool r)/\Below wr.drew.heap.size wr.drew w2):=HHk wr.drew (HKr2.out.next (Below.refl _ _).drew HLr.out.size);have HSk':Hid (∀ w',Kq B W w'->Calls Tryz.prog 166 #[.pointer (some ⟨p,0,none⟩),.int .i64 (k:Int)] w' fun e w2=>e=.returned (.int .i64 sz)/\Below w'.heap.size w' w2):=HSk;have HTk:Hid (∀ q∈Qk,q.ts.length<=1000+k):=hts
    have HGr:Hid (∀ w',Below wr.heap.size wr w'->w'.cell? ⟨w.heap.size,4,none⟩=some (.int .i64 c.v)/\w'.cell? ⟨lp,0,none⟩=some (.pointer (some ⟨p,0,none⟩))):=fun w' hb=>⟨(HG.out w' (HKr2.out.next hb HLr.out.size)).2.2.1,(HG.out w' (HKr2.out.next hb HLr.out.size)).2.2.2.2⟩
    have HSmk:=HSm.out k hlt;have HKpk:=HKp.out k hlt;have HSmk':Hid (∀ (w':World) (Q':List Sq),LfQ B lp g p nv mv s Q' w'->Kq B W w'->(∀ q∈Q',q.ts.length<=100000)->Calls Tryz.prog 154 #[.pointer (some ⟨lp,0,none⟩),.int .i64 (k:Int),.func (.func 167) #[] #[.pointer (some ⟨w.heap.size,0,none⟩)]] w' (KqOut B lp g p nv mv s (someQ Q' k (fun u=>u != c.v)) w')):=HSmk;have HKpk':Hid (∀ (w':World) (Q':List Sq) (a b:Int),LfQ B lp g p nv mv s Q' w'->Calls Tryz.prog 160 #[.pointer (some ⟨lp,0,none⟩),.int .i64 (k:Int),.agg #[.int .i64 a,.int .i64 b]] w' (KqOut B lp g p nv mv s (keepQ Q' k a b) w')):=HKpk;clear hnx hz hQk hr hm hsz HHk HSk hts HSmk HKpk
    by_cases hm0:m=0
    · have e0:(m==0)=true:=by simpa using hm0
      have HN2:Hid (ctQ am al c.v c.k su ma zs Q (k+1)=Qk):=by show _=_;rw [HN.out,if_pos (.inl hm0)]
      clear hm0;go_wp2_with fail
      go_quiet ((fail))
      have HB9:Hid (∀ n,Below wr.heap.size wr (wr.drewN n)):=fun n=>bl_drewN wr n
      go_wp2_with fail
      go_roundw
      case rel=>exact ⟨k+1,by go_num,hkn,(by show LfQ _ _ _ _ _ _ _ _ _;rw [HN2.out];exact HLr.out.below (HB9.out _)),HKr.out.next (HB9.out _) HLr.out.size⟩
      case measure=>simp [intOf];omega
    have e0:(m==0)=false:=by simpa using hm0
    go_wp2_with fail
    go_region_held3 (fun w'=>w'.cell? ⟨w.heap.size,4,none⟩=some (.int .i64 c.v)/\w'.cell? ⟨lp,0,none⟩=some (.pointer (some ⟨p,0,none⟩)))
      (first | exact HGr.out _ (Below.refl _ _).drew | exact HGr.out _ HB4.out)
      (first | (go_at_call 29;refine cA HHk'.out ?_;rintro e w4 ⟨rfl,hb4⟩;(have HB4:Hid (Below wr.heap.size wr w4):=(Below.refl _ _).drew.trans hb4);clear hb4))
    cases r with
    | false =>
      have HN2:Hid (ctQ am al c.v c.k su ma zs Q (k+1)=Qk):=by show _=_;rw [HN.out,if_pos (.inr rfl)]
      go_wp2_with fail
      go_roundw
      case rel=>exact ⟨k+1,by go_num,hkn,(by show LfQ _ _ _ _ _ _ _ _ _;rw [HN2.out];exact HLr.out.below HB4.out),HKr.out.next HB4.out HLr.out.size⟩
      case measure=>simp [intOf];omega
    | true=>
    have HL4:Hid (LfQ B lp g p nv mv s Qk w4):=HLr.out.below HB4.out;have HK4:Hid (Kq B W w4):=HKr2.out.next HB4.out HLr.out.size;have HK4p:Hid (Kq B wr w4):=Kq.of_below HB4.out HLr.out.size;obtain ⟨Q1,hQ1⟩:∃ x,(if (am&&decide (1<sz)&&decide (c.k<su+m))=true then someQ Qk k (fun u=>u != c.v) else Qk)=x:=⟨_,rfl⟩;have HN3:Hid (ctQ am al c.v c.k su ma zs Q (k+1)=if (al&&decide (ma-m<c.k))=true then keepQ Q1 k c.v c.v else Q1):=by show _=_;rw [HN.out,if_neg (by simp [hm0]),hQ1]
    have HQ1:Hid ((if (am&&decide (1<sz)&&decide (c.k<su+m))=true then someQ Qk k (fun u=>u != c.v) else Qk)=Q1):=hQ1;clear HN hQ1 f0;obtain ⟨b1,hb1⟩:∃ x,(am&&decide (1<sz)&&decide (c.k<su+m))=x:=⟨_,rfl⟩;rw [hb1] at HQ1;have HB1:Hid ((am&&decide (1<sz)&&decide (c.k<su+m))=b1):=hb1;clear hb1;go_upto_region 23 with fail
    go_cut [124] from 107 to 144 (fun s124 wx=>s124=.bool b1/\Hid (Below w4.heap.size w4 wx))
    case first=>
      have hF:=HB1.out
      cases am with
      | false =>
        have hF2:false=b1:=hF;subst hF2;go_wp2_with fail
        go_meet;exact ⟨rfl,Below.refl _ _⟩
      | true =>
        have d0:w4.cell? ⟨lp,0,none⟩=some (.pointer (some ⟨p,0,none⟩)):=(HG.out w4 HK4.out).2.2.2.2;go_wp2_with fail
        refine cA (HSk'.out w4 HK4.out) ?_;rintro e w5 ⟨rfl,hb5⟩;have HB5:Hid (Below w4.heap.size w4 w5):=hb5;have d3:w5.cell? ⟨w.heap.size,3,none⟩=some (.int .i64 c.k):=(HG.out w5 (HK4.out.next hb5 HL4.out.size)).2.1;clear hb5 d0
        by_cases h1:1<sz
        · have e1:decide (1<sz)=true:=by simpa using h1
          rw [e1] at hF
          by_cases h2:c.k<su+m
          · have e2:decide (c.k<su+m)=true:=by simpa using h2
            rw [e2] at hF;have hF2:true=b1:=hF;subst hF2;go_wp2_with fail
            go_meet;exact ⟨rfl,HB5⟩
          · have e2:decide (c.k<su+m)=false:=by simpa using h2
            rw [e2] at hF;have hF2:false=b1:=hF;subst hF2;go_wp2_with fail
            go_meet;exact ⟨rfl,HB5⟩
        · have e1:decide (1<sz)=false:=by simpa using h1
          rw [e1] at hF
          have hF2:false=b1:=by rw [<-hF];cases decide (c.k<su+m) <;> rfl
          subst hF2;go_wp2_with fail
          go_meet;exact ⟨rfl,HB5⟩
    case rest=>
    obtain ⟨rfl,HBx⟩:=hcut;rename World=>w6;have HL6:Hid (LfQ B lp g p nv mv s Qk w6):=HL4.out.below HBx.out;have HK6:Hid (Kq B W w6):=HK4.out.next HBx.out HL4.out.size;have HK6p:Hid (Kq B wr w6):=HK4p.out.next HBx.out HL4.out.size
    cases b1 with
    | false =>
      have hq:Qk=Q1:=HQ1.out;subst hq;obtain ⟨t1,t3,t4,_,_⟩:=HG.out w6 HK6.out
      cases al with
      | false =>
        have HN4:Hid (ctQ am false c.v c.k su ma zs Q (k+1)=Qk):=HN3.out;go_wp2_with fail
        go_roundw
        case rel=>exact ⟨k+1,by go_num,hkn,(by show LfQ _ _ _ _ _ _ _ _ _;rw [HN4.out];exact HL6.out),HKr.out.trans HK6p.out⟩
        case measure=>simp [intOf];omega
      | true =>
        by_cases hmk:ma-m<c.k
        · have HN4:Hid (ctQ am true c.v c.k su ma zs Q (k+1)=keepQ Qk k c.v c.v):=by show _=_;rw [HN3.out,if_pos (by simpa using hmk)]
          go_wp2_with fail
          refine cA (HJu.out c.v w6) ?_;rintro e w8 ⟨rfl,hb8⟩;have HL8:Hid (LfQ B lp g p nv mv s Qk w8):=HL6.out.below hb8;have HK8:Hid (Kq B wr w8):=HK6p.out.next hb8 HL6.out.size;clear hb8;go_wp2_with fail
          refine cA (HKpk'.out w8 Qk c.v c.v HL8.out) ?_;rintro e w9 ⟨rfl,hL9,hk9⟩;have HL9:Hid (LfQ B lp g p nv mv s (keepQ Qk k c.v c.v) w9):=hL9;have HK9:Hid (Kq B wr w9):=HK8.out.trans hk9;clear hL9 hk9;go_wp2_with fail
          go_roundw
          case rel=>exact ⟨k+1,by go_num,hkn,(by show LfQ _ _ _ _ _ _ _ _ _;rw [HN4.out];exact HL9.out),HKr.out.trans HK9.out⟩
          case measure=>simp [intOf];omega
        · have HN4:Hid (ctQ am true c.v c.k su ma zs Q (k+1)=Qk):=by show _=_;rw [HN3.out,if_neg (by simpa using hmk)]
          go_wp2_with fail
          go_roundw
          case rel=>exact ⟨k+1,by go_num,hkn,(by show LfQ _ _ _ _ _ _ _ _ _;rw [HN4.out];exact HL6.out),HKr.out.trans HK6p.out⟩
          case measure=>simp [intOf];omega
    | true =>
      have HQe:Hid (someQ Qk k (fun u=>u != c.v)=Q1):=HQ1.out;go_wp2_with fail
      refine cA (HSmk'.out w6 Qk HL6.out HK6.out (fun q hq=>Nat.le_trans (HTk.out q hq) (by omega))) ?_;rintro e w7 ⟨rfl,hL7,hk7⟩;have HL7:Hid (LfQ B lp g p nv mv s Q1 w7):=by show LfQ _ _ _ _ _ _ _ _ _;rw [<-HQe.out];exact hL7
      have HK7:Hid (Kq B W w7):=HK6.out.trans hk7;have HK7p:Hid (Kq B wr w7):=HK6p.out.trans hk7;clear hL7 hk7;obtain ⟨t1,t3,t4,_,_⟩:=HG.out w7 HK7.out
      cases al with
      | false =>
        have HN4:Hid (ctQ am false c.v c.k su ma zs Q (k+1)=Q1):=HN3.out;go_wp2_with fail
        go_roundw
        case rel=>exact ⟨k+1,by go_num,hkn,(by show LfQ _ _ _ _ _ _ _ _ _;rw [HN4.out];exact HL7.out),HKr.out.trans HK7p.out⟩
        case measure=>simp [intOf];omega
      | true =>
        by_cases hmk:ma-m<c.k
        · have HN4:Hid (ctQ am true c.v c.k su ma zs Q (k+1)=keepQ Q1 k c.v c.v):=by show _=_;rw [HN3.out,if_pos (by simpa using hmk)]
          go_wp2_with fail
          refine cA (HJu.out c.v w7) ?_;rintro e w8 ⟨rfl,hb8⟩;have HL8:Hid (LfQ B lp g p nv mv s Q1 w8):=HL7.out.below hb8;have HK8:Hid (Kq B wr w8):=HK7p.out.next hb8 HL7.out.size;clear hb8;go_wp2_with fail
          refine cA (HKpk'.out w8 Q1 c.v c.v HL8.out) ?_;rintro e w9 ⟨rfl,hL9,hk9⟩;have HL9:Hid (LfQ B lp g p nv mv s (keepQ Q1 k c.v c.v) w9):=hL9;have HK9:Hid (Kq B wr w9):=HK8.out.trans hk9;clear hL9 hk9;go_wp2_with fail
          go_roundw
          case rel=>exact ⟨k+1,by go_num,hkn,(by show LfQ _ _ _ _ _ _ _ _ _;rw [HN4.out];exact HL9.out),HKr.out.trans HK9.out⟩
          case measure=>simp [intOf];omega
        · have HN4:Hid (ctQ am true c.v c.k su ma zs Q (k+1)=Q1):=by show _=_;rw [HN3.out,if_neg (by simpa using hmk)]
          go_wp2_with fail
          go_roundw
          case rel=>exact ⟨k+1,by go_num,hkn,(by show LfQ _ _ _ _ _ _ _ _ _;rw [HN4.out];exact HL7.out),HKr.out.trans HK7p.out⟩
          case measure=>simp [intOf];omega
  · have hke:k=zs.length:=by omega
    subst hke;have hkI:¬ (zs.length:Int)<(zs.length:Int):=by omega
    go_wp2_with fail
    go_ret;rw [HRR.out,HRs.out];refine ⟨rfl,(fun Q' h=>?_),HKW.out.trans HKr2.out⟩;injection h with h;rw [<-h];exact HLr.out
def rf3Q (D:List Dm) (cs:List Int) (k:Int) (x:Nat) (Q:List Sq):List Sq:=
  if k<leastZ false (cs.zip D) then keepQ (if -(leastZ true (cs.zip D))<=k then keepQ (keepQ Q x 0 1) x 1 1 else keepQ Q x 0 1) x 0 0 else (if -(leastZ true (cs.zip D))<=k then keepQ (keepQ Q x 0 1) x 1 1 else keepQ Q x 0 1)
def reifQ (D:List Dm) (c:Md.Cn) (Q:List Sq):Option (List Sq):=
  if (dAt D c.x).has 0=false/\(dAt D c.x).has 1=false then none
  else if (dAt D c.x).one=false then some (rf3Q D (coefL c.terms D.length) c.k c.x.toNat Q)
  else if (dAt D c.x).lo=1 then atMostQ false D (coefL c.terms D.length) c.k (rf3Q D (coefL c.terms D.length) c.k c.x.toNat Q)
  else atMostQ true D (coefL c.terms D.length) (c.k+1) (rf3Q D (coefL c.terms D.length) c.k c.x.toNat Q)
theorem RfC.of {N lp p B:Nat} {nv mv:Value} {s:St} {g:Nat} {Q:List Sq} {a0 a1 a2 a3 a4 a5 a6 a7 a8 a9:Value} {X w':World} (hN:X.heap[N]?=some (.cells #[a0,a1,a2,a3,a4,a5,a6,a7,a8,a9] 56 (0,0))) (hL:LfQ B lp g p nv mv s Q X) (hk:Kq B X w'):w'.cell? ⟨N,2,none⟩=some a2/\w'.cell? ⟨N,3,none⟩=some a3/\w'.cell? ⟨N,5,none⟩=some a5/\w'.cell? ⟨lp,0,none⟩=some (.pointer (some ⟨p,0,none⟩)):=by
  have h:=hk.block hN (by decide) (by decide);exact ⟨cell_of h 2,cell_of h 3,cell_of h 5,hL.box hk⟩
theorem reif_any (B lp g p:Nat) (nv mv:Value) (s:St) (Q:List Sq) (w:World) (h:LfQ B lp g p nv mv s Q w) (c:Md.Cn) (vt vx vb vr:Value) (hC:CnK B w c vt vx vb vr) (hx:0<=c.x/\c.x<(s.now.length:Int)) (hl:c.terms.length<=64) (hc:∀ q∈c.terms,-1000000<=q.1/\q.1<=1000000) (htx:∀ q∈c.terms,0<=q.2/\q.2<(s.now.length:Int)) (hk:-1000000000<=c.k/\c.k<=1000000000):Calls Tryz.prog 137 #[.pointer (some ⟨lp,0,none⟩),cnVal c vt vx vb vr] w (RlOut B lp g p nv mv s (reifQ s.now c Q) w):=by
  have hBs:=h.size;obtain ⟨x,hxe,hxn⟩:∃ x:Nat,c.x=(x:Int)/\x<s.now.length:=⟨c.x.toNat,by omega,by omega⟩;obtain ⟨ta,tc,rfl,_⟩:=hC.at.t.form;obtain ⟨W,hW⟩:∃ W,w.alloc (.cells #[.int .i64 c.kind,.int .i64 c.op,.slice ta c.terms.length tc,.int .i64 c.k,.int .i64 c.v,.int .i64 (x:Int),.int .i64 c.y,vx,vb,vr] 56)=W:=⟨_,rfl⟩;have hb0:Below w.heap.size w W:=bAe hW;have g0:W.heap[w.heap.size]?=some (.cells #[.int .i64 c.kind,.int .i64 c.op,.slice ta c.terms.length tc,.int .i64 c.k,.int .i64 c.v,.int .i64 (x:Int),.int .i64 c.y,vx,vb,vr] 56 (0,0)):=hAe hW;have HLW:Hid (LfQ B lp g p nv mv s Q W):=h.below hb0;have HKW:Hid (Kq B w W):=Kq.of_below hb0 hBs
  have HG:Hid (∀ w',Kq B W w'->w'.cell? ⟨w.heap.size,2,none⟩=some (.slice ta c.terms.length tc)/\w'.cell? ⟨w.heap.size,3,none⟩=some (.int .i64 c.k)/\w'.cell? ⟨w.heap.size,5,none⟩=some (.int .i64 (x:Int))/\w'.cell? ⟨lp,0,none⟩=some (.pointer (some ⟨p,0,none⟩))):=fun w' hk=>RfC.of g0 HLW.out hk
  have HTm:Hid (∀ w',Kq B W w'->TermsAt w' (.slice ta c.terms.length tc) c.terms):=fun w' hk=>(hC w' ((hb0.mono hBs).trans hk.below)).t
  have HCf:Hid (∀ w' Q',LfQ B lp g p nv mv s Q' w'->Kq B W w'->Calls Tryz.prog 149 #[.pointer (some ⟨lp,0,none⟩),.slice ta c.terms.length tc] w' (CfOut B c.terms s.now.length w')):=fun w' Q' hL hk=>coefs_any B lp g p nv mv s Q' w' hL _ c.terms (HTm.out w' hk) hl hc htx
  have HAm:Hid (∀ (t:Bool) (kk:Int) (w':World) (Q':List Sq) (v:Value),LfQ B lp g p nv mv s Q' w'->IntsK B w' v (coefL c.terms s.now.length)->Calls Tryz.prog 151 #[.agg #[.pointer (some ⟨lp,0,none⟩),.bool t],v,.int .i64 kk] w' (RlOut B lp g p nv mv s (atMostQ t s.now (coefL c.terms s.now.length) kk Q') w')):=fun t kk w' Q' v hL hI=>atMost_any B lp g p nv mv s Q' t w' hL v _ hI (coefL_len _ _) (coef_mem hc hl) kk
  have HLs:Hid (∀ (t:Bool) (w':World) (Q':List Sq) (v:Value),LfQ B lp g p nv mv s Q' w'->IntsK B w' v (coefL c.terms s.now.length)->Calls Tryz.prog 161 #[.agg #[.pointer (some ⟨lp,0,none⟩),.bool t],v] w' fun e w2=>e=.returned (.int .i64 (leastZ t ((coefL c.terms s.now.length).zip s.now)))/\Below w'.heap.size w' w2):=fun t w' Q' v hL hI=>least_any B lp g p nv mv s Q' t w' hL v _ hI.at (coefL_len _ _) (coef_mem hc hl)
  have HU:Hid (∀ w',Calls Tryz.prog 150 #[.pointer (some ⟨lp,0,none⟩)] w' fun e w2=>e=.returned (.agg #[.pointer (some ⟨lp,0,none⟩),.bool false])/\Below w'.heap.size w' w2):=fun w'=>upright_any lp w'
  have HTn:Hid (∀ w',Calls Tryz.prog 152 #[.pointer (some ⟨lp,0,none⟩)] w' fun e w2=>e=.returned (.agg #[.pointer (some ⟨lp,0,none⟩),.bool true])/\Below w'.heap.size w' w2):=fun w'=>turnedL_any lp w'
  have HHs:Hid (∀ (v:Int) w',Kq B W w'->Calls Tryz.prog 29 #[.pointer (some ⟨p,0,none⟩),.int .i64 (x:Int),.int .i64 v] w' fun e w2=>e=.returned (.bool (s.now[x].has v))/\Below w'.heap.size w' w2):=fun v w' hk=>HLW.out.hass x hxn v hk.below
  have HOn:Hid (∀ w' Q',LfQ B lp g p nv mv s Q' w'->Calls Tryz.prog 153 #[.pointer (some ⟨lp,0,none⟩),.int .i64 (x:Int)] w' fun e w2=>e=.returned (.tuple #[.int .i64 (oneV s.now[x]),.bool s.now[x].one])/\Below w'.heap.size w' w2):=fun w' Q' hL=>hL.one x hxn
  have HKp:Hid (∀ w' Q' (a b:Int),LfQ B lp g p nv mv s Q' w'->Calls Tryz.prog 160 #[.pointer (some ⟨lp,0,none⟩),.int .i64 (x:Int),.agg #[.int .i64 a,.int .i64 b]] w' (KqOut B lp g p nv mv s (keepQ Q' x a b) w')):=fun w' Q' a b hL=>hL.keep x hxn a b
  have HJu:Hid (∀ (v:Int) w',Calls Tryz.prog 162 #[.int .i64 v] w' fun e w2=>e=.returned (.agg #[.int .i64 v,.int .i64 v])/\Below w'.heap.size w' w2):=fun v w'=>just_any v w'
  have hzb:∀ t,-4096000000000000000<=leastZ t ((coefL c.terms s.now.length).zip s.now)/\leastZ t ((coefL c.terms s.now.length).zip s.now)<=4096000000000000000:=fun t=>by
    have hg:=h.good;have hn:=h.n32
    have:=leastZ_bdk t ((coefL c.terms s.now.length).zip s.now) ((coefL c.terms s.now.length).zip s.now).length (fun z hz=>by
      have h1:=coef_mem (n:=s.now.length) hc hl z.1 (List.of_mem_zip hz).1
      exact ⟨h1.1,h1.2,hg z.2 (List.of_mem_zip hz).2⟩) (by rw [List.length_zip,coefL_len];omega)
    rwa [List.take_length] at this
  have HQ:Hid (reifQ s.now c Q=if s.now[x].has 0=false/\s.now[x].has 1=false then none else if s.now[x].one=false then some (rf3Q s.now (coefL c.terms s.now.length) c.k x Q) else if s.now[x].lo=1 then atMostQ false s.now (coefL c.terms s.now.length) c.k (rf3Q s.now (coefL c.terms s.now.length) c.k x Q) else atMostQ true s.now (coefL c.terms s.now.length) (c.k+1) (rf3Q s.now (coefL c.terms s.now.length) c.k x Q)):=by
    show _=_;unfold reifQ;rw [hxe,dAt_get hxn,Int.toNat_natCast]
  have hb1:=hzb false;have hb2:=hzb true;have HR3:Hid (rf3Q s.now (coefL c.terms s.now.length) c.k x Q=if c.k<leastZ false ((coefL c.terms s.now.length).zip s.now) then keepQ (if -(leastZ true ((coefL c.terms s.now.length).zip s.now))<=c.k then keepQ (keepQ Q x 0 1) x 1 1 else keepQ Q x 0 1) x 0 0 else (if -(leastZ true ((coefL c.terms s.now.length).zip s.now))<=c.k then keepQ (keepQ Q x 0 1) x 1 1 else keepQ Q x 0 1)):=rfl;obtain ⟨Q3,hQ3⟩:∃ Q3,rf3Q s.now (coefL c.terms s.now.length) c.k x Q=Q3:=⟨_,rfl⟩;rw [hQ3] at HQ HR3;have HL1:=HLs.out true;have HL0:=HLs.out false;obtain ⟨l1,hl1⟩:∃ l,leastZ true ((coefL c.terms s.now.length).zip s.now)=l:=⟨_,rfl⟩;obtain ⟨l0,hl0⟩:∃ l,leastZ false ((coefL c.terms s.now.length).zip s.now)=l:=⟨_,rfl⟩;rw [hl1] at HL1 HR3 hb2;rw [hl0] at HL0 HR3 hb1
  have HLt:Hid (∀ (w':World) (Q':List Sq) (v:Value),LfQ B lp g p nv mv s Q' w'->IntsK B w' v (coefL c.terms s.now.length)->Calls Tryz.prog 161 #[.agg #[.pointer (some ⟨lp,0,none⟩),.bool true],v] w' fun e w2=>e=.returned (.int .i64 l1)/\Below w'.heap.size w' w2):=HL1;have HLf:Hid (∀ (w':World) (Q':List Sq) (v:Value),LfQ B lp g p nv mv s Q' w'->IntsK B w' v (coefL c.terms s.now.length)->Calls Tryz.prog 161 #[.agg #[.pointer (some ⟨lp,0,none⟩),.bool false],v] w' fun e w2=>e=.returned (.int .i64 l0)/\Below w'.heap.size w' w2):=HL0;obtain ⟨d,hd⟩:∃ d,s.now[x]=d:=⟨_,rfl⟩;rw [hd] at HHs HOn HQ;obtain ⟨r0,hr0⟩:∃ r,d.has 0=r:=⟨_,rfl⟩;obtain ⟨r1,hr1⟩:∃ r,d.has 1=r:=⟨_,rfl⟩;have HH0:=HHs.out 0;have HH1:=HHs.out 1;rw [hr0] at HH0 HQ;rw [hr1] at HH1 HQ
  have HH0':Hid (∀ w',Kq B W w'->Calls Tryz.prog 29 #[.pointer (some ⟨p,0,none⟩),.int .i64 (x:Int),.int .i64 0] w' fun e w2=>e=.returned (.bool r0)/\Below w'.heap.size w' w2):=HH0;have HH1':Hid (∀ w',Kq B W w'->Calls Tryz.prog 29 #[.pointer (some ⟨p,0,none⟩),.int .i64 (x:Int),.int .i64 1] w' fun e w2=>e=.returned (.bool r1)/\Below w'.heap.size w' w2):=HH1;obtain ⟨R,hR⟩:∃ R,reifQ s.now c Q=R:=⟨_,rfl⟩;rw [hR] at HQ ⊢;obtain ⟨cs,hcs⟩:∃ cs,coefL c.terms s.now.length=cs:=⟨_,rfl⟩;rw [hcs] at HAm HLt HLf HQ;have HCf':Hid (∀ w' Q',LfQ B lp g p nv mv s Q' w'->Kq B W w'->Calls Tryz.prog 149 #[.pointer (some ⟨lp,0,none⟩),.slice ta c.terms.length tc] w' fun e w2=>∃ v,e=.returned v/\IntsK B w2 v cs/\Below w'.heap.size w' w2):=fun w' Q' hL hk=>by
    have:=HCf.out w' Q' hL hk;unfold CfOut at this;rw [hcs] at this;exact this
  have HBs:Hid (B<=W.heap.size):=Nat.le_trans hBs hb0.size;obtain ⟨hb1a,hb1b⟩:=hb1;obtain ⟨hb2a,hb2b⟩:=hb2;obtain ⟨hk1,hk2⟩:=hk;have hcv:cnVal c (.slice ta c.terms.length tc) vx vb vr=.agg #[.int .i64 c.kind,.int .i64 c.op,.slice ta c.terms.length tc,.int .i64 c.k,.int .i64 c.v,.int .i64 (x:Int),.int .i64 c.y,vx,vb,vr]:=by unfold cnVal;rw [hxe]
  rw [hcv];clear h hC hx hc htx hBs hb0 g0 hxe hR hd hr0 hr1 hcs hl0 hl1 hQ3 HL0 HL1 HH0 HH1 hcv HCf HLs HHs hzb hxn hl;go_enter Tryz.func137,Tryz.ntmps137;go_wp2_with fail
  go_cut [26] from 9 to 87 (fun s26 wx=>s26=.bool (!r0&&!r1)/\Hid (Below W.heap.size W wx))
  case first=>
    have HGd:Hid (∀ w',Below W.heap.size W w'->w'.cell? ⟨w.heap.size,5,none⟩=some (.int .i64 (x:Int))/\w'.cell? ⟨lp,0,none⟩=some (.pointer (some ⟨p,0,none⟩))):=fun w' hb=>⟨(HG.out w' (Kq.of_below hb HBs.out)).2.2.1,(HG.out w' (Kq.of_below hb HBs.out)).2.2.2⟩
    cases r0 with
    | true =>
      refine wp_region_T (fun w'=>w'.cell? ⟨w.heap.size,5,none⟩=some (.int .i64 (x:Int))/\w'.cell? ⟨lp,0,none⟩=some (.pointer (some ⟨p,0,none⟩))) (fun _=>True) [] (by kernel_rfl) ⟨HGd.out _ (Below.refl _ _).drew,trivial⟩ (fun hHeld=>?_);refine tB (i:=0) (oi:=⟨some 9,.move (.tmp 0),_,_,_,_⟩) (v:=?v_aa) ?hy_aa (by assumption) ?rest_aa
      case hy_aa=>(intro w hSw;(try dsimp only at hSw);go_simp;try (with_reducible rfl))
      try simp only [Act.put,q1,q2,q3]
      refine tB (i:=1) (oi:=⟨some 10,.nilCheck (.tmp 9),_,_,_,_⟩) (v:=?v_af) ?hy_af (by assumption) ?rest_af
      case hy_af=>(intro w hSw;(try dsimp only at hSw);go_simp;try (with_reducible rfl))
      try simp only [Act.put,q1,q2,q3]
      refine tB (i:=2) (oi:=⟨some 11,.fieldAddr 184 (.tmp 10) 0,_,_,_,_⟩) (v:=?v_ae) ?hy_ae (by assumption) ?rest_ae
      case hy_ae=>(intro w hSw;(try dsimp only at hSw);go_simp;try (with_reducible rfl))
      try simp only [Act.put,q1,q2,q3]
      refine tB (i:=3) (oi:=⟨some 12,.load 32 (.tmp 11),_,_,_,_⟩) (v:=?v_ag) ?hy_ag (by assumption) ?rest_ag
      case hy_ag=>(intro w hSw;(try dsimp only at hSw);go_simp;try (with_reducible rfl))
      try simp only [Act.put,q1,q2,q3]
      refine tB (i:=4) (oi:=⟨some 13,.fieldAddr 56 (.tmp 3) 5,_,_,_,_⟩) (v:=?v_ab) ?hy_ab (by assumption) ?rest_ab
      case hy_ab=>(intro w hSw;(try dsimp only at hSw);go_simp;try (with_reducible rfl))
      try simp only [Act.put,q1,q2,q3]
      refine tB (i:=5) (oi:=⟨some 14,.load 3 (.tmp 13),_,_,_,_⟩) (v:=?v_ah) ?hy_ah (by assumption) ?rest_ah
      case hy_ah=>(intro w hSw;(try dsimp only at hSw);go_simp;try (with_reducible rfl))
      try simp only [Act.put,q1,q2,q3]
      refine wpAnyT_one (i:=6) (o:=⟨some 15,.call { callee:=.value (.func 29),args:=#[(.tmp 12),(.tmp 14),(.const (.int .i64 0))],argTypes:=#[32,3,3] },_,_,_,_⟩) (by kernel_rfl) rfl (fun K hK=>?_);go_simp;refine cA (HH0'.out _ (Kq.of_below (Below.refl _ _).drew HBs.out)) ?_;rintro e w2 ⟨rfl,hb2⟩;go_wp2_with fail
      have HB2:Hid (Below W.heap.size W w2):=(Below.refl _ _).drew.trans hb2;clear hb2 hHeld;have hHeld:=(⟨HGd.out _ HB2.out,trivial⟩:_/\True);refine hK.out _ _ ⟨hHeld.1,fun _=>trivial⟩ ?_;clear hK K;refine tB (i:=7) (oi:=⟨some 16,.unOp .not 4 (.tmp 15),_,_,_,_⟩) (v:=?v_ad) ?hy_ad (by assumption) ?rest_ad
      case hy_ad=>(intro w hSw;(try dsimp only at hSw);go_simp;try (with_reducible rfl))
      try simp only [Act.put,q1,q2,q3]
      refine tB (i:=8) (oi:=⟨some 17,.move (.tmp 16),_,_,_,_⟩) (v:=?v_ac) ?hy_ac (by assumption) ?rest_ac
      case hy_ac=>(intro w hSw;(try dsimp only at hSw);go_simp;try (with_reducible rfl))
      try simp only [Act.put,q1,q2,q3]
      refine tO (i:=9) (oi:=⟨some 18,.move (.tmp 0),_,_,_,_⟩) (by assumption) ?rest_ai;try simp only [Act.put,q1,q2,q3]
      refine tO (i:=10) (oi:=⟨some 19,.nilCheck (.tmp 18),_,_,_,_⟩) (by assumption) ?rest_aj;try simp only [Act.put,q1,q2,q3]
      refine tO (i:=11) (oi:=⟨some 20,.fieldAddr 184 (.tmp 19) 0,_,_,_,_⟩) (by assumption) ?rest_al;try simp only [Act.put,q1,q2,q3]
      refine tO (i:=12) (oi:=⟨some 21,.load 32 (.tmp 20),_,_,_,_⟩) (by assumption) ?rest_am;try simp only [Act.put,q1,q2,q3]
      refine tO (i:=13) (oi:=⟨some 22,.fieldAddr 56 (.tmp 3) 5,_,_,_,_⟩) (by assumption) ?rest_aq;try simp only [Act.put,q1,q2,q3]
      refine tO (i:=14) (oi:=⟨some 23,.load 3 (.tmp 22),_,_,_,_⟩) (by assumption) ?rest_an;try simp only [Act.put,q1,q2,q3]
      refine tO (i:=15) (oi:=⟨some 24,.call { callee:=.value (.func 29),args:=#[(.tmp 21),(.tmp 23),(.const (.int .i64 1))],argTypes:=#[32,3,3] },_,_,_,_⟩) (by assumption) ?rest_ak;try simp only [Act.put,q1,q2,q3]
      refine tO (i:=16) (oi:=⟨some 25,.unOp .not 4 (.tmp 24),_,_,_,_⟩) (by assumption) ?rest_ap;try simp only [Act.put,q1,q2,q3]
      refine tB (i:=17) (oi:=⟨some 26,.pick (.tmp 17) (.tmp 25) ((.const (.bool false))),_,_,_,_⟩) (v:=?v_ao) ?hy_ao (by assumption) ?rest_ao
      case hy_ao=>(intro w hSw;(try dsimp only at hSw);go_simp;try (with_reducible rfl))
      try simp only [Act.put,q1,q2,q3]
      refine wpAnyT_done (by kernel_rfl) ?_ _;go_wp2_with fail
      go_meet;exact ⟨rfl,HB2⟩
    | false =>
      have HKd:Hid (Kq B W W.drew):=Kq.of_below (Below.refl _ _).drew HBs.out;go_region_held3 (fun w'=>w'.cell? ⟨w.heap.size,5,none⟩=some (.int .i64 (x:Int))/\w'.cell? ⟨lp,0,none⟩=some (.pointer (some ⟨p,0,none⟩)))
        (first | exact HGd.out _ HB5.out | exact HGd.out _ HB4.out | exact HGd.out _ (Below.refl _ _).drew)
        (first | (go_at_call 29;refine cA (HH0'.out _ HKd.out) ?_;rintro e w4 ⟨rfl,hb4⟩;(have HB4:Hid (Below W.heap.size W w4):=(Below.refl _ _).drew.trans hb4);clear hb4) | (go_at_call 29;refine cA (HH1'.out _ (Kq.of_below HB4.out HBs.out)) ?_;rintro e w5 ⟨rfl,hb5⟩;(have HB5:Hid (Below W.heap.size W w5):=bl_next HB4.out hb5);clear hb5))
      go_wp2_with fail
      go_meet;exact ⟨rfl,HB5⟩
  case rest=>
  obtain ⟨rfl,HBx⟩:=hcut;rename World=>wx;have HLx:Hid (LfQ B lp g p nv mv s Q wx):=HLW.out.below HBx.out;have HKx:Hid (Kq B W wx):=Kq.of_below HBx.out HBs.out
  by_cases hrr:r0=false/\r1=false
  · obtain ⟨rfl,rfl⟩:=hrr
    have HRn:Hid (R=none):=by show _=_;rw [HQ.out,if_pos ⟨rfl,rfl⟩]
    go_wp2_with fail
    go_ret;rw [HRn.out];exact ⟨rfl,(fun Q' h=>by cases h),HKW.out.trans HKx.out⟩
  have hbf:(!r0&&!r1)=false:=by cases r0 <;> cases r1 <;> simp_all
  rw [hbf];have HQ2:Hid (R=if d.one=false then some Q3 else if d.lo=1 then atMostQ false s.now cs c.k Q3 else atMostQ true s.now cs (c.k+1) Q3):=by show _=_;rw [HQ.out,if_neg hrr]
  clear HQ hbf hrr HH0' HH1';obtain ⟨x2,x3,x5,xl⟩:=HG.out wx HKx.out;go_wp2_with fail
  refine cA (HCf'.out wx Q HLx.out HKx.out) ?_;rintro e w1 ⟨v,rfl,hI1,hb1⟩;have HI1:Hid (IntsK B w1 v cs):=hI1;have HL1:Hid (LfQ B lp g p nv mv s Q w1):=HLx.out.below hb1;have HK1:Hid (Kq B W w1):=HKx.out.next hb1 HLx.out.size;clear hI1 hb1 x2 x3 x5 xl hW;obtain ⟨_,_,y5,_⟩:=HG.out w1 HK1.out;go_wp2_with fail
  refine cA (HKp.out w1 Q 0 1 HL1.out) ?_;rintro e w2 ⟨rfl,hL2,hk2⟩;have HL2:Hid (LfQ B lp g p nv mv s (keepQ Q x 0 1) w2):=hL2;have HK2:Hid (Kq B W w2):=HK1.out.trans hk2;have HI2:Hid (IntsK B w2 v cs):=HI1.out.kq hk2;clear hL2 hk2 y5;go_wp2_with fail
  refine cA (HTn.out w2) ?_;rintro e w3 ⟨rfl,hb3⟩;have HL3:Hid (LfQ B lp g p nv mv s (keepQ Q x 0 1) w3):=HL2.out.below hb3;have HK3:Hid (Kq B W w3):=HK2.out.next hb3 HL2.out.size;have HI3:Hid (IntsK B w3 v cs):=HI2.out.kq (Kq.of_below hb3 HL2.out.size);clear hb3;go_wp2_with fail
  refine cA (HLt.out w3 _ v HL3.out HI3.out) ?_;rintro e w4 ⟨rfl,hb4⟩;have HL4:Hid (LfQ B lp g p nv mv s (keepQ Q x 0 1) w4):=HL3.out.below hb4;have HK4:Hid (Kq B W w4):=HK3.out.next hb4 HL3.out.size;have HI4:Hid (IntsK B w4 v cs):=HI3.out.kq (Kq.of_below hb4 HL3.out.size);clear hb4;obtain ⟨_,y3,_,_⟩:=HG.out w4 HK4.out;obtain ⟨Q2,hQ2⟩:∃ Q2,(if -l1<=c.k then keepQ (keepQ Q x 0 1) x 1 1 else keepQ Q x 0 1)=Q2:=⟨_,rfl⟩;rw [hQ2] at HR3;have HQ2e:Hid ((if -l1<=c.k then keepQ (keepQ Q x 0 1) x 1 1 else keepQ Q x 0 1)=Q2):=hQ2;clear hQ2;go_upto_if 44 with fail
  go_cut [] from 44 to 87 (fun wy=>Hid (LfQ B lp g p nv mv s Q2 wy)/\Hid (Kq B W wy)/\Hid (IntsK B wy v cs))
  case first=>
    by_cases hc1:-l1<=c.k
    · have HQf:Hid (keepQ (keepQ Q x 0 1) x 1 1=Q2):=(if_pos hc1).symm.trans HQ2e.out
      have HLd:Hid (LfQ B lp g p nv mv s (keepQ Q x 0 1) w4.drew):=HL4.out.below (Below.refl _ _).drew;have HKd:Hid (Kq B W w4.drew):=HK4.out.next (Below.refl _ _).drew HL4.out.size;have HId:Hid (IntsK B w4.drew v cs):=HI4.out.kq (Kq.of_below (Below.refl _ _).drew HL4.out.size);go_wp2_with fail
      go_region_held3 (fun w'=>w'.cell? ⟨w.heap.size,2,none⟩=some (.slice ta c.terms.length tc)/\w'.cell? ⟨w.heap.size,3,none⟩=some (.int .i64 c.k)/\w'.cell? ⟨w.heap.size,5,none⟩=some (.int .i64 (x:Int))/\w'.cell? ⟨lp,0,none⟩=some (.pointer (some ⟨p,0,none⟩)))
        (first | exact HG.out _ HK6.out | exact HG.out _ HK5.out | exact HG.out _ HKd.out)
        (first | (go_at_call 162;refine cA (HJu.out 1 _) ?_;rintro e w5 ⟨rfl,hb5⟩;(have HL5:Hid (LfQ B lp g p nv mv s (keepQ Q x 0 1) w5):=HLd.out.below hb5);(have HK5:Hid (Kq B W w5):=HKd.out.next hb5 HLd.out.size);(have HI5:Hid (IntsK B w5 v cs):=HId.out.kq (Kq.of_below hb5 HLd.out.size));clear hb5) | (go_at_call 160;refine cA (HKp.out w5 _ 1 1 HL5.out) ?_;rintro e w6 ⟨rfl,hL6,hk6⟩;(have HL6:Hid (LfQ B lp g p nv mv s Q2 w6):=(by show LfQ _ _ _ _ _ _ _ _ _;rw [<-HQf.out];exact hL6));(have HK6:Hid (Kq B W w6):=HK5.out.trans hk6);(have HI6:Hid (IntsK B w6 v cs):=HI5.out.kq hk6);clear hL6 hk6))
      go_wp2_with fail
      go_meet;exact ⟨HL6,HK6,HI6⟩
    · have HQf:Hid (keepQ Q x 0 1=Q2):=(if_neg hc1).symm.trans HQ2e.out
      go_wp2_with fail
      go_meet;exact ⟨(by show LfQ _ _ _ _ _ _ _ _ _;rw [<-HQf.out];exact HL4.out),HK4,HI4⟩
  case rest=>
  obtain ⟨HLy,HKy,HIy⟩:=hcut;rename World=>wy;have HLyd:Hid (LfQ B lp g p nv mv s Q2 wy.drew):=HLy.out.below (Below.refl _ _).drew;have HKyd:Hid (Kq B W wy.drew):=HKy.out.next (Below.refl _ _).drew HLy.out.size;have HIyd:Hid (IntsK B wy.drew v cs):=HIy.out.kq (Kq.of_below (Below.refl _ _).drew HLy.out.size);go_wp2_with fail
  go_region_held3 (fun w'=>w'.cell? ⟨w.heap.size,2,none⟩=some (.slice ta c.terms.length tc)/\w'.cell? ⟨w.heap.size,3,none⟩=some (.int .i64 c.k)/\w'.cell? ⟨w.heap.size,5,none⟩=some (.int .i64 (x:Int))/\w'.cell? ⟨lp,0,none⟩=some (.pointer (some ⟨p,0,none⟩)))
    (first | exact HG.out _ HK8.out | exact HG.out _ HK7.out | exact HG.out _ HKyd.out)
    (first | (go_at_call 150;refine cA (HU.out _) ?_;rintro e w7 ⟨rfl,hb7⟩;(have HL7:Hid (LfQ B lp g p nv mv s Q2 w7):=HLyd.out.below hb7);(have HK7:Hid (Kq B W w7):=HKyd.out.next hb7 HLyd.out.size);(have HI7:Hid (IntsK B w7 v cs):=HIyd.out.kq (Kq.of_below hb7 HLyd.out.size));clear hb7) | (go_at_call 161;refine cA (HLf.out w7 _ v HL7.out HI7.out) ?_;rintro e w8 ⟨rfl,hb8⟩;(have HL8:Hid (LfQ B lp g p nv mv s Q2 w8):=HL7.out.below hb8);(have HK8:Hid (Kq B W w8):=HK7.out.next hb8 HL7.out.size);(have HI8:Hid (IntsK B w8 v cs):=HI7.out.kq (Kq.of_below hb8 HL7.out.size));clear hb8))
  go_upto_if 56 with fail
  go_cut [] from 56 to 87 (fun wz=>Hid (LfQ B lp g p nv mv s Q3 wz)/\Hid (Kq B W wz)/\Hid (IntsK B wz v cs))
  case first=>
    by_cases hc1:c.k<l0
    · have HQf:Hid (keepQ Q2 x 0 0=Q3):=by show _=_;rw [HR3.out,if_pos hc1]
      have HLd:Hid (LfQ B lp g p nv mv s Q2 w8.drew):=HL8.out.below (Below.refl _ _).drew;have HKd:Hid (Kq B W w8.drew):=HK8.out.next (Below.refl _ _).drew HL8.out.size;have HId:Hid (IntsK B w8.drew v cs):=HI8.out.kq (Kq.of_below (Below.refl _ _).drew HL8.out.size);go_wp2_with fail
      go_region_held3 (fun w'=>w'.cell? ⟨w.heap.size,2,none⟩=some (.slice ta c.terms.length tc)/\w'.cell? ⟨w.heap.size,3,none⟩=some (.int .i64 c.k)/\w'.cell? ⟨w.heap.size,5,none⟩=some (.int .i64 (x:Int))/\w'.cell? ⟨lp,0,none⟩=some (.pointer (some ⟨p,0,none⟩)))
        (first | exact HG.out _ HK6.out | exact HG.out _ HK5.out | exact HG.out _ HKd.out)
        (first | (go_at_call 162;refine cA (HJu.out 0 _) ?_;rintro e w5 ⟨rfl,hb5⟩;(have HL5:Hid (LfQ B lp g p nv mv s Q2 w5):=HLd.out.below hb5);(have HK5:Hid (Kq B W w5):=HKd.out.next hb5 HLd.out.size);(have HI5:Hid (IntsK B w5 v cs):=HId.out.kq (Kq.of_below hb5 HLd.out.size));clear hb5) | (go_at_call 160;refine cA (HKp.out w5 _ 0 0 HL5.out) ?_;rintro e w6 ⟨rfl,hL6,hk6⟩;(have HL6:Hid (LfQ B lp g p nv mv s Q3 w6):=(by show LfQ _ _ _ _ _ _ _ _ _;rw [<-HQf.out];exact hL6));(have HK6:Hid (Kq B W w6):=HK5.out.trans hk6);(have HI6:Hid (IntsK B w6 v cs):=HI5.out.kq hk6);clear hL6 hk6))
      go_wp2_with fail
      go_meet;exact ⟨HL6,HK6,HI6⟩
    · have HQf:Hid (Q2=Q3):=by show _=_;rw [HR3.out,if_neg hc1]
      go_wp2_with fail
      go_meet;exact ⟨(by show LfQ _ _ _ _ _ _ _ _ _;rw [<-HQf.out];exact HL8.out),HK8,HI8⟩
  case rest=>
  obtain ⟨HLz,HKz,HIz⟩:=hcut;rename World=>wz;obtain ⟨_,_,z5,_⟩:=HG.out wz HKz.out;have HOw:=HOn.out wz Q3 HLz.out;obtain ⟨ov,hov⟩:∃ o,oneV d=o:=⟨_,rfl⟩;obtain ⟨ob,hob⟩:∃ o,d.one=o:=⟨_,rfl⟩;rw [hov,hob] at HOw;have HOw':Hid (Calls Tryz.prog 153 #[.pointer (some ⟨lp,0,none⟩),.int .i64 (x:Int)] wz fun e w2=>e=.returned (.tuple #[.int .i64 ov,.bool ob])/\Below wz.heap.size wz w2):=HOw;have HOv:Hid (ob=true->ov=d.lo):=fun ht=>by rw [<-hov];unfold oneV;rw [hob,ht];rfl
  rw [hob] at HQ2;clear HOw hov hob;go_wp2_with fail
  refine cA HOw'.out ?_;rintro e wo ⟨rfl,hbo⟩;have HLo:Hid (LfQ B lp g p nv mv s Q3 wo):=HLz.out.below hbo;have HKo:Hid (Kq B W wo):=HKz.out.next hbo HLz.out.size;have HIo:Hid (IntsK B wo v cs):=HIz.out.kq (Kq.of_below hbo HLz.out.size);clear hbo z5
  cases ob with
  | false =>
    have HRf:Hid (R=some Q3):=HQ2.out;go_wp2_with fail
    go_ret;rw [HRf.out];exact ⟨rfl,(fun Q' h=>by injection h with h;rw [<-h];exact HLo.out),HKW.out.trans HKo.out⟩
  | true=>
  have hov:ov=d.lo:=HOv.out rfl;have HQ3:Hid (R=if ov=1 then atMostQ false s.now cs c.k Q3 else atMostQ true s.now cs (c.k+1) Q3):=by show _=_;rw [HQ2.out,hov];rfl
  clear hov HQ2 HOv;have HLod:Hid (LfQ B lp g p nv mv s Q3 wo.drew):=HLo.out.below (Below.refl _ _).drew;have HKod:Hid (Kq B W wo.drew):=HKo.out.next (Below.refl _ _).drew HLo.out.size;have HIod:Hid (IntsK B wo.drew v cs):=HIo.out.kq (Kq.of_below (Below.refl _ _).drew HLo.out.size)
  by_cases ho1:ov=1
  · have e1:(ov==1)=true:=by simpa using ho1
    obtain ⟨Ra,hRa⟩:∃ r,atMostQ false s.now cs c.k Q3=r:=⟨_,rfl⟩;have HRf:Hid (R=Ra):=by show _=_;rw [HQ3.out,if_pos ho1,hRa]
    clear ho1;go_wp2_with fail
    go_region_held3 (fun w'=>w'.cell? ⟨w.heap.size,2,none⟩=some (.slice ta c.terms.length tc)/\w'.cell? ⟨w.heap.size,3,none⟩=some (.int .i64 c.k)/\w'.cell? ⟨w.heap.size,5,none⟩=some (.int .i64 (x:Int))/\w'.cell? ⟨lp,0,none⟩=some (.pointer (some ⟨p,0,none⟩)))
      (first | exact HG.out _ HK6.out | exact HG.out _ HK5.out | exact HG.out _ HKod.out)
      (first | (go_at_call 150;refine cA (HU.out _) ?_;rintro e w5 ⟨rfl,hb5⟩;(have HL5:Hid (LfQ B lp g p nv mv s Q3 w5):=HLod.out.below hb5);(have HK5:Hid (Kq B W w5):=HKod.out.next hb5 HLod.out.size);(have HI5:Hid (IntsK B w5 v cs):=HIod.out.kq (Kq.of_below hb5 HLod.out.size));clear hb5) | (go_at_call 151;refine cA (HAm.out false c.k w5 Q3 v HL5.out HI5.out) ?_;rintro e w6 ⟨he,hL6,hk6⟩;rw [hRa] at he hL6;subst he;(have HL6:Hid (∀ Q',Ra=some Q'->LfQ B lp g p nv mv s Q' w6):=hL6);(have HK6:Hid (Kq B W w6):=HK5.out.trans hk6);clear hL6 hk6))
    cases Ra with
    | none =>
      go_wp2_with fail
      go_ret;rw [HRf.out];exact ⟨rfl,(fun Q' h=>by cases h),HKW.out.trans HK6.out⟩
    | some Qb =>
      go_wp2_with fail
      go_ret;rw [HRf.out];exact ⟨rfl,(fun Q' h=>HL6.out Q' h),HKW.out.trans HK6.out⟩
  · have e1:(ov==1)=false:=by simpa using ho1
    obtain ⟨Ra,hRa⟩:∃ r,atMostQ true s.now cs (c.k+1) Q3=r:=⟨_,rfl⟩;have HRf:Hid (R=Ra):=by show _=_;rw [HQ3.out,if_neg ho1,hRa]
    have ek:IntKind.i64.wrap (c.k+1)=c.k+1:=wrap_ok (by omega) (by omega);clear ho1;go_wp2_with fail
    go_region_held3 (fun w'=>w'.cell? ⟨w.heap.size,2,none⟩=some (.slice ta c.terms.length tc)/\w'.cell? ⟨w.heap.size,3,none⟩=some (.int .i64 c.k)/\w'.cell? ⟨w.heap.size,5,none⟩=some (.int .i64 (x:Int))/\w'.cell? ⟨lp,0,none⟩=some (.pointer (some ⟨p,0,none⟩)))
      (first | exact HG.out _ HK6.out | exact HG.out _ HK5.out | exact HG.out _ HKod.out)
      (first | (go_at_call 152;refine cA (HTn.out _) ?_;rintro e w5 ⟨rfl,hb5⟩;(have HL5:Hid (LfQ B lp g p nv mv s Q3 w5):=HLod.out.below hb5);(have HK5:Hid (Kq B W w5):=HKod.out.next hb5 HLod.out.size);(have HI5:Hid (IntsK B w5 v cs):=HIod.out.kq (Kq.of_below hb5 HLod.out.size));clear hb5) | (go_at_call 151;refine cA (HAm.out true (c.k+1) w5 Q3 v HL5.out HI5.out) ?_;rintro e w6 ⟨he,hL6,hk6⟩;rw [hRa] at he hL6;subst he;(have HL6:Hid (∀ Q',Ra=some Q'->LfQ B lp g p nv mv s Q' w6):=hL6);(have HK6:Hid (Kq B W w6):=HK5.out.trans hk6);clear hL6 hk6))
    cases Ra with
    | none =>
      go_wp2_with fail
      go_ret;rw [HRf.out];exact ⟨rfl,(fun Q' h=>by cases h),HKW.out.trans HK6.out⟩
    | some Qb =>
      go_wp2_with fail
      go_ret;rw [HRf.out];exact ⟨rfl,(fun Q' h=>HL6.out Q' h),HKW.out.trans HK6.out⟩
end Go.Proofs.YtjnckfchgcmmpaaGreatDoor
