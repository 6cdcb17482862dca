import Derived.Test.YtjgghimjnbjlbaaGreatDoorJ04
import Derived.WalkSmall
namespace Go.Proofs.YtjgghimjnbjlbaaGreatDoor
open Go.RowKit
set_option maxRecDepth 10000
set_option maxHeartbeats 8000000
theorem MInts.open {w:World} {v:Value} {l:List Int} (h:MInts w v l) (h0:0<l.length) :
    ∃ b off cap,v=.slice (some ⟨b,off,none⟩) l.length cap/\b<w.heap.size/\l.length<=maxLen/\∀ m:Nat,m<l.length->w.cell? ⟨b,off+m,none⟩=some (.int .i64 (Md.val l (m:Int))):=by
  obtain ⟨a,cap,rfl,hm,hc⟩:=h;obtain ⟨b,off,rfl,hb,hcell⟩:=hc h0;exact ⟨b,off,cap,rfl,hb,hm,fun m hm'=>by rw [Md.val_get hm'];exact hcell m hm'⟩
theorem Yc {a:Int} (h1:-9000000000000000000<=a) (h2:a<=9000000000000000000):IntKind.i64.wrap a=a:=by rw [IntKind.wrap_i64];omega
theorem YI (vt vv:Value) (t:List (Int × Int)) (vs:List Int) (w:World) (ht:TermsAt w vt t) (hv:MInts w vv vs) (hn:vs.all Md.numB=true) (hx:∀ x∈t,0<=x.2/\x.2<vs.length) (hc:∀ x∈t,-1000000<=x.1/\x.1<=1000000) (hl:t.length<=64) :
    Calls Tryz.prog 42 #[vt,vv] w fun e w'=>e=.returned (.int .i64 (Md.sum t vs))/\Below w.heap.size w w':=by
  have HT:Hid (TermsAt w vt t):=ht;have HV:Hid (MInts w vv vs):=hv;have HN:Hid (vs.all Md.numB=true):=hn;have HX:Hid (∀ x∈t,0<=x.2/\x.2<vs.length):=hx;have HC:Hid (∀ x∈t,-1000000<=x.1/\x.1<=1000000):=hc;obtain ⟨ta,tc,rfl,hm,_⟩:=ht;obtain ⟨va,vc,rfl,_⟩:=hv;clear hn hx hc hm;go_enter Tryz.func42,Tryz.ntmps42;go_wp2;go_loopw [5,10] (fun sv iv wr=>∃ k:Nat,iv=.int .i64 (k:Int)/\k<=t.length/\sv=.int .i64 (Md.sum (t.take k) vs)/\Hid (Below w.heap.size w wr)) (fun _ iv _=>t.length-(intOf iv).toNat)
  case atStart=>exact ⟨0,rfl,Nat.zero_le _,by simp [Md.sum],Below.refl _ _⟩
  case round=>
    obtain ⟨k,rfl,hk,rfl,hB⟩:=hrel
    by_cases hlt:k<t.length
    · have hkI:(k:Int)<(t.length:Int):=by omega
      have hxk:=HX.out _ (List.getElem_mem hlt);have hck:=HC.out _ (List.getElem_mem hlt);obtain ⟨ta',tc',hte,_,hto⟩:=HT.out;obtain ⟨b,off,hta,hb,hcell⟩:=hto (by omega);injection hte with e4 e5 e6;rw [<-e4] at hta;subst hta;obtain ⟨bv,offv,cv,hve,hbv,hmv,hvc⟩:=HV.out.open (by omega);injection hve with e1 e2 e3;subst e1 e3;obtain ⟨c1,c2⟩:=hcell k hlt;obtain ⟨m,hm⟩:∃ m:Nat,t[k].2=(m:Int):=⟨t[k].2.toNat,by omega⟩;have hmn:m<vs.length:=by omega
      have hmI:(m:Int)<(vs.length:Int):=by omega
      have hcv:=(hB.out.cell (p:=⟨bv,offv+m,none⟩) hbv).trans (hvc m hmn);have d1:=(hB.out.cell (p:=⟨b,off+k * 2,none⟩) hb).trans c1;have d2:=(hB.out.cell (p:=⟨b,off+k * 2+1,none⟩) hb).trans c2;have hval:=Md.val_mem HN.out (m:Int);have hmul:=Md.mul_bd hck.1 hck.2 hval.1 hval.2;have hsb:=Md.sum_bd HN.out HC.out k (by omega);have hw1:IntKind.i64.wrap (t[k].1 * Md.val vs (m:Int))=t[k].1 * Md.val vs (m:Int):=Yc (by omega) (by omega);have hw2:IntKind.i64.wrap (Md.sum (t.take k) vs+t[k].1 * Md.val vs (m:Int))=Md.sum (t.take k) vs+t[k].1 * Md.val vs (m:Int):=Yc (by omega) (by omega);have hnx:Hid (Md.sum (t.take (k+1)) vs=Md.sum (t.take k) vs+t[k].1 * Md.val vs (m:Int)):=by show _=_;rw [Md.sum_next hlt,hm]
      rw [hm] at d2;have hBV:Hid (Below w.heap.size w (wr.alloc (.cells #[.int .i64 t[k].1,.int .i64 (m:Int)] 67))):=hB.out.alloc hB.out.size _;have hbw:bv<wr.heap.size:=Nat.lt_of_lt_of_le hbv hB.out.size;have hcV:(wr.alloc (.cells #[.int .i64 t[k].1,.int .i64 (m:Int)] 67)).cell? ⟨bv,offv+m,none⟩=some (.int .i64 (Md.val vs (m:Int))):=(World.cell?_alloc_past _ _ _ hbw).trans hcv;clear hvc hcell c1 c2 hsb hmul hval hxk hck hm e2 hcv hto e4 e5 e6;generalize t[k].1=tc1 at *
      generalize Md.val vs (m:Int)=y at *
      generalize Md.sum (t.take k) vs=s at *
      go_wp2;go_quiet (fail)
      go_wp2;go_roundw
      case rel=>exact ⟨k+1,by go_num,by omega,by rw [hnx.out],below_drewN hBV.out _⟩
      case measure=>simp [intOf];omega
    · have hkI:¬ (k:Int)<(t.length:Int):=by omega
      have hte:t.take k=t:=List.take_of_length_le (by omega);rw [hte];clear hte;go_wp2;go_ret;exact ⟨rfl,hB.out⟩
end Go.Proofs.YtjgghimjnbjlbaaGreatDoor
