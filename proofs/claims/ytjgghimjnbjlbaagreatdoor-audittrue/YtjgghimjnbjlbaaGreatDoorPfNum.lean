import Derived.Test.YtjgghimjnbjlbaaGreatDoorJ04
import Derived.Test.YtjgghimjnbjlbaaGreatDoorJ14
import Derived.Test.YtjgghimjnbjlbaaGreatDoorBgSs
namespace Go.Proofs.YtjgghimjnbjlbaaGreatDoor
open Go.RowKit
set_option maxRecDepth 10000
set_option maxHeartbeats 8000000
def badN (x:List UInt8) (g:Int):Bool:=(yR x).isNone||decide (((yR x).getD 0).sign<g)
def yr (x:List UInt8) (g:Int) (s:Ls):Ls:=if badN x g=true then yu 81 s else s
theorem KT (s:ByteArray) (w:World) (hs:s.size<=9000000):Calls Tryz.prog 52 #[.string s] w fun e w'=>e=.returned (.string s)/\Below w.heap.size w w':=by
  have HC:Hid (Calls Tryz.prog 71 #[.string s] w fun e w'=>e=.returned (.string s)/\Below w.heap.size w w'):=Tryz.stringslite_Clone s w (by omega);go_enter Tryz.func52,Tryz.ntmps52;go_wp2_with fail
  refine cA HC.out ?_;rintro e w1 ⟨rfl,h1⟩;go_wp2_with fail
  go_ret;exact ⟨rfl,h1⟩
theorem ZQ {B b:Nat} {s:Ls} (x:List UInt8) (g:Int) (w:World) (h:LnAt w b s) (hB:B<=b) (hx:x.length<=9000000):Calls Tryz.prog 209 #[.pointer (some ⟨b,0,none⟩),.string (yd x),.int .i64 g] w (LO B b (.string (yd x)) (yr x g s) w):=by
  have hBw:B<=w.heap.size:=Nat.le_of_lt (Nat.lt_of_le_of_lt hB h.lt);obtain ⟨o,ho⟩:∃ o,yR x=o:=⟨_,rfl⟩;have HP:Hid (Calls Tryz.prog 233 #[.string (yd x)] w fun e w'=>∃ v,e=.returned (.tuple #[v,.int .i64 (xu o)])/\BigAt w' v (o.getD 0)/\Below w.heap.size w w'):=by
    have:=ZF (yd x) w (by rw [zA];exact hx);rw [yS,ho] at this;exact this
  have HF:Hid (∀ w',LnAt w' b s->Calls Tryz.prog 131 #[.pointer (some ⟨b,0,none⟩),.int .i64 81] w' (LO B b (.tuple #[]) (yu 81 s) w')):=fun w' h'=>xz 81 w' h' hB
  have HC:Hid (∀ w',Calls Tryz.prog 52 #[.string (yd x)] w' fun e w2=>e=.returned (.string (yd x))/\Below w'.heap.size w' w2):=fun w'=>KT _ w' (by rw [zA];exact hx)
  have HL:Hid (LnAt w b s):=h;have HW:Hid (yr x g s=if (o.isNone||decide ((o.getD 0).sign<g))=true then yu 81 s else s):=by show _=_;unfold yr badN;rw [ho]
  clear h ho;go_enter Tryz.func209,Tryz.ntmps209;go_wp2_with fail
  refine cA HP.out ?_;rintro e w1 ⟨v,rfl,hv1,hb1⟩;obtain ⟨y,q,hvq⟩:=hv1.shape;subst hvq;obtain ⟨X,hX⟩:∃ X,w1.alloc (.cells #[.int .i64 y,.pointer q] 275)=X:=⟨_,rfl⟩;have hbX:Below w1.heap.size w1 X:=bAe hX;have gX:X.heap[w1.heap.size]?=some (.cells #[.int .i64 y,.pointer q] 275 (0,0)):=hAe hX;have k0:X.cell? ⟨w1.heap.size,0,none⟩=some (.int .i64 y):=yb gX 0;have k1:X.cell? ⟨w1.heap.size,1,none⟩=some (.pointer q):=yb gX 1;have HS:Hid (Calls Tryz.prog 234 #[.agg #[.int .i64 y,.pointer q]] X fun e w'=>e=.returned (.int .i64 (o.getD 0).sign)/\Below X.heap.size X w'):=y27 _ _ X (hv1.below hbX);have HB1:Hid (Below w.heap.size w X):=ym hb1 hbX;clear hv1 hb1 hbX gX
  cases o with
  | none =>
    have e0:xu none=10:=rfl;rw [e0];go_wp2_with fail
    refine cA (HF.out X (HL.out.below HB1.out)) ?_;rintro e w2 ⟨rfl,h3,h4⟩;have H2:Hid (LnAt w2 b (yu 81 s)/\SStp B (fun k=>k=b) w w2):=⟨h3,(SStp.of_below HB1.out hBw).trans h4⟩;clear h3 h4;go_wp2_with fail
    refine cA (HC.out w2) ?_;rintro e w3 ⟨rfl,hb3⟩;have H3:Hid (LnAt w3 b (yu 81 s)/\SStp B (fun k=>k=b) w w3):=⟨H2.out.1.below hb3,H2.out.2.next hb3 (Nat.le_trans hBw H2.out.2.off.size)⟩;clear hb3;go_wp2_with fail
    go_ret;exact ⟨rfl,by rw [HW.out];exact H3.out.1,H3.out.2⟩
  | some z =>
    have e0:xu (some z)=0:=rfl;rw [e0];have e1:(some z).getD 0=z:=rfl;rw [e1] at HS
    by_cases hg:z.sign<g
    · go_wp2_with fail
      refine cA HS.out ?_;rintro e w2 ⟨rfl,hb2⟩;have HB2:Hid (Below w.heap.size w w2):=ym HB1.out hb2;clear hb2;go_wp2_with fail
      refine cA (HF.out w2 (HL.out.below HB2.out)) ?_;rintro e w3 ⟨rfl,h3,h4⟩;have H2:Hid (LnAt w3 b (yu 81 s)/\SStp B (fun k=>k=b) w w3):=⟨h3,(SStp.of_below HB2.out hBw).trans h4⟩;clear h3 h4;go_wp2_with fail
      refine cA (HC.out w3) ?_;rintro e w4 ⟨rfl,hb3⟩;have H3:Hid (LnAt w4 b (yu 81 s)/\SStp B (fun k=>k=b) w w4):=⟨H2.out.1.below hb3,H2.out.2.next hb3 (Nat.le_trans hBw H2.out.2.off.size)⟩;clear hb3;go_wp2_with fail
      go_ret;exact ⟨rfl,by rw [HW.out,if_pos (by simp [hg])];exact H3.out.1,H3.out.2⟩
    · go_wp2_with fail
      refine cA HS.out ?_;rintro e w2 ⟨rfl,hb2⟩;have HB2:Hid (Below w.heap.size w w2):=ym HB1.out hb2;clear hb2;go_wp2_with fail
      refine cA (HC.out w2) ?_;rintro e w4 ⟨rfl,hb3⟩;have H3:Hid (Below w.heap.size w w4):=ym HB2.out hb3;clear hb3;go_wp2_with fail
      go_ret;exact ⟨rfl,by rw [HW.out,if_neg (by simp [hg])];exact HL.out.below H3.out,SStp.of_below H3.out hBw⟩
theorem yn {B b:Nat} {s:Ls} (x:List UInt8) (w:World) (h:LnAt w b s) (hB:B<=b) (hx:x.length<=9000000):Calls Tryz.prog 215 #[.pointer (some ⟨b,0,none⟩),.string (yd x)] w (LO B b (.string (yd x)) (yr x (-1) s) w):=by
  have HW:Hid (Calls Tryz.prog 209 #[.pointer (some ⟨b,0,none⟩),.string (yd x),.int .i64 (-1)] w (LO B b (.string (yd x)) (yr x (-1) s) w)):=ZQ x (-1) w h hB hx;clear h;go_enter Tryz.func215,Tryz.ntmps215;go_wp2_with fail
  refine cA HW.out ?_;rintro e w1 ⟨rfl,h1,h2⟩;have H1:Hid (LnAt w1 b (yr x (-1) s)/\SStp B (fun k=>k=b) w w1):=⟨h1,h2⟩;clear h1 h2;go_wp2_with fail
  go_ret;exact ⟨rfl,H1.out.1,H1.out.2⟩
theorem KU {B b:Nat} {s:Ls} (x:List UInt8) (w:World) (h:LnAt w b s) (hB:B<=b) (hx:x.length<=9000000):Calls Tryz.prog 183 #[.pointer (some ⟨b,0,none⟩),.string (yd x)] w (LO B b (.string (yd x)) (yr x 0 s) w):=by
  have HW:Hid (Calls Tryz.prog 209 #[.pointer (some ⟨b,0,none⟩),.string (yd x),.int .i64 0] w (LO B b (.string (yd x)) (yr x 0 s) w)):=ZQ x 0 w h hB hx;clear h;go_enter Tryz.func183,Tryz.ntmps183;go_wp2_with fail
  refine cA HW.out ?_;rintro e w1 ⟨rfl,h1,h2⟩;have H1:Hid (LnAt w1 b (yr x 0 s)/\SStp B (fun k=>k=b) w w1):=⟨h1,h2⟩;clear h1 h2;go_wp2_with fail
  go_ret;exact ⟨rfl,H1.out.1,H1.out.2⟩
theorem Yo {B b:Nat} {s:Ls} (x:List UInt8) (w:World) (h:LnAt w b s) (hB:B<=b) (hx:x.length<=9000000):Calls Tryz.prog 189 #[.pointer (some ⟨b,0,none⟩),.string (yd x)] w (LO B b (.string (yd x)) (yr x 1 s) w):=by
  have HW:Hid (Calls Tryz.prog 209 #[.pointer (some ⟨b,0,none⟩),.string (yd x),.int .i64 1] w (LO B b (.string (yd x)) (yr x 1 s) w)):=ZQ x 1 w h hB hx;clear h;go_enter Tryz.func189,Tryz.ntmps189;go_wp2_with fail
  refine cA HW.out ?_;rintro e w1 ⟨rfl,h1,h2⟩;have H1:Hid (LnAt w1 b (yr x 1 s)/\SStp B (fun k=>k=b) w w1):=⟨h1,h2⟩;clear h1 h2;go_wp2_with fail
  go_ret;exact ⟨rfl,H1.out.1,H1.out.2⟩
def litP (x:List UInt8):Int × Bool:=if Lib.hasPrefix (Lib.trimPrefix x [126]) [120]=true then (if 1<=zF ((yR (Lib.trimPrefix (Lib.trimPrefix x [126]) [120])).getD 0)/\zF ((yR (Lib.trimPrefix (Lib.trimPrefix x [126]) [120])).getD 0)<=1073741824 then ((if Lib.hasPrefix x [126]=true then -zF ((yR (Lib.trimPrefix (Lib.trimPrefix x [126]) [120])).getD 0) else zF ((yR (Lib.trimPrefix (Lib.trimPrefix x [126]) [120])).getD 0)),true) else (0,false)) else (0,false)
theorem KV (l p:List UInt8):(Lib.trimPrefix l p).length<=l.length:=by
  unfold Lib.trimPrefix
  split
  · rw [List.length_drop];omega
  · exact Nat.le_refl _
theorem KW (x:List UInt8) (w:World) (hx:x.length<=9000000):Calls Tryz.prog 216 #[.string (yd x)] w fun e w'=>e=.returned (.tuple #[.int .i64 (litP x).1,.bool (litP x).2])/\Below w.heap.size w w':=by
  obtain ⟨v,hv⟩:∃ v,Lib.trimPrefix x [126]=v:=⟨_,rfl⟩;obtain ⟨ng,hng⟩:∃ n,Lib.hasPrefix x [126]=n:=⟨_,rfl⟩;obtain ⟨d,hd⟩:∃ d,Lib.trimPrefix v [120]=d:=⟨_,rfl⟩;obtain ⟨ok,hok⟩:∃ n,Lib.hasPrefix v [120]=n:=⟨_,rfl⟩;obtain ⟨z,hz⟩:∃ z,zF ((yR d).getD 0)=z:=⟨_,rfl⟩;have hvl:v.length<=9000000:=by rw [<-hv];exact Nat.le_trans (KV _ _) hx
  have hdl:d.length<=9000000:=by rw [<-hd];exact Nat.le_trans (KV _ _) hvl
  have H1:Hid (∀ w',Calls Tryz.prog 217 #[.string (yd x),.string ⟨#[126]⟩] w' fun e w2=>e=.returned (.tuple #[.string (yd v),.bool ng])/\w2=w'):=fun w'=>by
    have:=Tryz.strings_CutPrefix (yd x) ⟨#[126]⟩ w';rw [yS] at this;rw [<-hv,<-hng];exact this
  have H2:Hid (∀ w',Calls Tryz.prog 217 #[.string (yd v),.string ⟨#[120]⟩] w' fun e w2=>e=.returned (.tuple #[.string (yd d),.bool ok])/\w2=w'):=fun w'=>by
    have:=Tryz.strings_CutPrefix (yd v) ⟨#[120]⟩ w';rw [yS] at this;rw [<-hd,<-hok];exact this
  have H3:Hid (∀ w',Calls Tryz.prog 233 #[.string (yd d)] w' fun e w2=>∃ v2,e=.returned (.tuple #[v2,.int .i64 (xu (yR d))])/\BigAt w2 v2 ((yR d).getD 0)/\Below w'.heap.size w' w2):=fun w'=>by
    have:=ZF (yd d) w' (by rw [zA];exact hdl);rw [yS] at this;exact this
  have HL:Hid (litP x=if ok=true then (if 1<=z/\z<=1073741824 then ((if ng=true then -z else z),true) else (0,false)) else (0,false)):=by
    show _=_;unfold litP;rw [hv,hok,hd,hz,hng]
  have HZ:Hid (zF ((yR d).getD 0)=z):=hz;obtain ⟨er,her⟩:∃ er,xu (yR d)=er:=⟨_,rfl⟩;rw [her] at H3;obtain ⟨D,hD⟩:∃ D,(yR d).getD 0=D:=⟨_,rfl⟩;rw [hD] at H3 HZ;clear hv hng hd hok hz her hD hvl hdl hx;have hlo:-9223372036854775808<=z/\z<=9223372036854775807:=by
    rw [<-HZ.out];unfold zF x9
    split
    · rename_i h;simpa using h
    · omega
  go_enter Tryz.func216,Tryz.ntmps216;go_wp2_with fail
  refine cA (H1.out w) ?_;rintro e w' ⟨rfl,hww⟩;rw [hww];clear hww;go_wp2_with fail
  refine cA (H2.out w) ?_;rintro e w' ⟨rfl,hww⟩;rw [hww];clear hww
  cases ok with
  | false =>
    go_wp2_with fail
    go_ret2;exact ⟨by rw [HL.out];rfl,Below.refl _ _⟩
  | true =>
    go_wp2_with fail
    refine cA (H3.out w) ?_;rintro e w1 ⟨v2,rfl,hv1,hb1⟩;obtain ⟨y,q,hvq⟩:=hv1.shape;subst hvq;obtain ⟨X,hX⟩:∃ X,w1.alloc (.cells #[.int .i64 y,.pointer q] 275)=X:=⟨_,rfl⟩;have hbX:Below w1.heap.size w1 X:=bAe hX;have gX:X.heap[w1.heap.size]?=some (.cells #[.int .i64 y,.pointer q] 275 (0,0)):=hAe hX;have k0:X.cell? ⟨w1.heap.size,0,none⟩=some (.int .i64 y):=yb gX 0;have k1:X.cell? ⟨w1.heap.size,1,none⟩=some (.pointer q):=yb gX 1;have HS:Hid (Calls Tryz.prog 236 #[.agg #[.int .i64 y,.pointer q]] X fun e w'=>e=.returned (.tuple #[.int .i64 z,.bool (x9 D)])/\Below X.heap.size X w'):=by
      have:=y25 _ _ X (hv1.below hbX);rw [HZ.out] at this;exact this
    have HB1:Hid (Below w.heap.size w X):=ym hb1 hbX;clear hv1 hb1 hbX gX;obtain ⟨sb,hsb⟩:∃ sb,x9 D=sb:=⟨_,rfl⟩;rw [hsb] at HS;clear hsb;go_wp2_with fail
    refine cA HS.out ?_;rintro e w2 ⟨rfl,hb2⟩;have HB2:Hid (Below w.heap.size w w2):=ym HB1.out hb2;clear hb2 k0 k1
    by_cases h1:z<1
    · go_wp2_with fail
      go_ret2;have hl:litP x=(0,false):=by rw [HL.out];simp only [if_true];rw [if_neg (by omega)]
      exact ⟨by rw [hl];rfl,HB2.out⟩
    · by_cases h2:1073741824<z
      · go_wp2_with fail
        go_ret2;have hl:litP x=(0,false):=by rw [HL.out];simp only [if_true];rw [if_neg (by omega)]
        exact ⟨by rw [hl];rfl,HB2.out⟩
      · cases ng with
        | false =>
          go_wp2_with fail
          go_ret2;have hl:litP x=(z,true):=by rw [HL.out];simp only [if_true];rw [if_pos (by omega)];rfl
          exact ⟨by rw [hl];rfl,HB2.out⟩
        | true =>
          have e9:IntKind.i64.wrap (-z)=-z:=KE (by omega) (by omega);have e8:wrap64 (-z)=-z:=by unfold wrap64;omega
          go_wp2_with fail
          go_ret2;have hl:litP x=(-z,true):=by rw [HL.out];simp only [if_true];rw [if_pos (by omega)]
          exact ⟨by rw [hl];rfl,HB2.out⟩
def ze (x:List UInt8) (s:Ls):Ls:=if (litP x).2=true then s else yu 81 s
theorem KR {B b:Nat} {s:Ls} (x:List UInt8) (w:World) (h:LnAt w b s) (hB:B<=b) (hx:x.length<=9000000):Calls Tryz.prog 192 #[.pointer (some ⟨b,0,none⟩),.string (yd x)] w (LO B b (.int .i64 (litP x).1) (ze x s) w):=by
  have hBw:B<=w.heap.size:=Nat.le_of_lt (Nat.lt_of_le_of_lt hB h.lt);have HI:Hid (Calls Tryz.prog 216 #[.string (yd x)] w fun e w'=>e=.returned (.tuple #[.int .i64 (litP x).1,.bool (litP x).2])/\Below w.heap.size w w'):=KW x w hx;have HF:Hid (∀ w',LnAt w' b s->Calls Tryz.prog 131 #[.pointer (some ⟨b,0,none⟩),.int .i64 81] w' (LO B b (.tuple #[]) (yu 81 s) w')):=fun w' h'=>xz 81 w' h' hB
  have HL:Hid (LnAt w b s):=h;unfold ze;obtain ⟨z,hz⟩:∃ z,(litP x).1=z:=⟨_,rfl⟩;rw [hz] at HI ⊢;clear h hz
  cases hk:(litP x).2 with
  | true =>
    rw [hk] at HI;simp only [if_true];go_enter Tryz.func192,Tryz.ntmps192;go_wp2_with fail
    refine cA HI.out ?_;rintro e w1 ⟨rfl,h1⟩;have H1:Hid (Below w.heap.size w w1):=h1;clear h1;go_wp2_with fail
    go_ret;exact ⟨rfl,HL.out.below H1.out,SStp.of_below H1.out hBw⟩
  | false =>
    rw [hk] at HI;simp only [Bool.false_eq_true,if_false];go_enter Tryz.func192,Tryz.ntmps192;go_wp2_with fail
    refine cA HI.out ?_;rintro e w1 ⟨rfl,h1⟩;have H1:Hid (Below w.heap.size w w1):=h1;clear h1;go_wp2_with fail
    refine cA (HF.out w1 (HL.out.below H1.out)) ?_;rintro e w2 ⟨rfl,h3,h4⟩;have H2:Hid (LnAt w2 b (yu 81 s)/\SStp B (fun k=>k=b) w w2):=⟨h3,(SStp.of_below H1.out hBw).trans h4⟩;clear h3 h4;go_wp2_with fail
    go_ret;exact ⟨rfl,H2.out.1,H2.out.2⟩
end Go.Proofs.YtjgghimjnbjlbaaGreatDoor
