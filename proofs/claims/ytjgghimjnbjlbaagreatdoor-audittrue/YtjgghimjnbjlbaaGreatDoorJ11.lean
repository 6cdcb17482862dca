/-
  Put together: PfBase, PfFm, PfTrim.
-/
import Derived.Test.YtjgghimjnbjlbaaGreatDoorJ04
import Derived.Laws.Rows
import Derived.Laws.Tables
import Derived.Deep.RegionHeld3
namespace Go.Proofs.YtjgghimjnbjlbaaGreatDoor
open Go.RowKit
theorem ZJ {P:Program} {f:FuncId} {args args':Array Value} {w w':World} {Q Q':Ending->World->Prop} (h:Calls P f args w Q) (e:args'=args) (ew:w'=w) (hm:∀ e w',Q e w'->Q' e w'):Calls P f args' w' Q':=by
  subst e ew;exact h.mono hm
theorem cA {P:Program} {f:FuncId} {args args':Array Value} {w w':World} {Q Q':Ending->World->Prop} (h:Calls P f args w Q) (hm:∀ e w',Q e w'->Q' e w') (e:args'=args:=by with_reducible rfl) (ew:w'=w:=by with_reducible rfl):Calls P f args' w' Q':=ZJ h e ew hm
theorem ym {W a b:World} (h:Below W.heap.size W a) (h2:Below a.heap.size a b):Below W.heap.size W b:=h.trans (h2.mono h.size)
theorem yb {w:World} {g:Nat} {cur:Array Value} {t:TypeId} (h:w.heap[g]?=some (.cells cur t (0,0))) (i:Nat):w.cell? ⟨g,i,none⟩=cur[i]?:=by simp [World.cell?,h]
theorem yl {w:World} {g:Nat} {cur:Array Value} {t:TypeId} (h:w.heap[g]?=some (.cells cur t (0,0))) (i:Nat):w.frozen? ⟨g,i,none⟩=false:=by simp [World.frozen?,h]
theorem yB {w:World} {g:Nat} {cur:Array Value} {t:TypeId} (h:w.heap[g]?=some (.cells cur t (0,0))) (i:Nat) (v:Value):(w.setCell ⟨g,i,none⟩ v).heap[g]?=some (.cells (cur.setIfInBounds i v) t (0,0)):=by simp [World.setCell,Array.getElem?_modify,h]
theorem KE {n:Int} (h0:-9223372036854775808<=n) (h1:n<9223372036854775808):IntKind.i64.wrap n=n:=by
  rw [IntKind.wrap_i64];omega
structure Off (S:Nat->Prop) (w w':World):Prop where
  size:w.heap.size<=w'.heap.size
  block:∀ k,k<w.heap.size->¬ S k->w'.heap[k]?=w.heap[k]?
theorem Off.refl (S:Nat->Prop) (w:World):Off S w w:=⟨Nat.le_refl _,fun _ _ _=>rfl⟩
theorem Off.trans {S:Nat->Prop} {a b c:World} (h:Off S a b) (k:Off S b c):Off S a c:=
  ⟨Nat.le_trans h.size k.size,fun i hi hs=>(k.block i (Nat.lt_of_lt_of_le hi h.size) hs).trans (h.block i hi hs)⟩
theorem Off.of_below {S:Nat->Prop} {w w':World} (h:Below w.heap.size w w'):Off S w w':=⟨h.size,fun k hk _=>h.block k hk⟩
theorem Off.set {S:Nat->Prop} {w:World} {g i:Nat} (v:Value) (h:S g):Off S w (w.setCell ⟨g,i,none⟩ v):=
  ⟨by simp,fun k _ hs=>heap_setCell_other w ⟨g,i,none⟩ k v (fun e=>hs (e▸h))⟩
theorem Off.less {S T:Nat->Prop} {w w':World} (h:Off S w w') (hs:∀ k,S k->T k):Off T w w':=⟨h.size,fun k hk ht=>h.block k hk fun e=>ht (hs k e)⟩
structure SStp (B:Nat) (S:Nat->Prop) (w w':World):Prop where
  below:Below B w w'
  off:Off S w w'
theorem SStp.refl (B:Nat) (S:Nat->Prop) (w:World):SStp B S w w:=⟨Below.refl _ _,Off.refl _ _⟩
theorem SStp.of_below {B:Nat} {S:Nat->Prop} {w w':World} (h:Below w.heap.size w w') (hB:B<=w.heap.size):SStp B S w w':=⟨h.mono hB,Off.of_below h⟩
theorem SStp.trans {B:Nat} {S:Nat->Prop} {a b c:World} (h:SStp B S a b) (k:SStp B S b c):SStp B S a c:=⟨h.below.trans k.below,h.off.trans k.off⟩
theorem SStp.next {B:Nat} {S:Nat->Prop} {a b c:World} (h:SStp B S a b) (k:Below b.heap.size b c) (hB:B<=b.heap.size):SStp B S a c:=h.trans (SStp.of_below k hB)
def yd (l:List UInt8):ByteArray:=⟨l.toArray⟩
theorem zA (l:List UInt8):(yd l).size=l.length:=by simp [yd,ByteArray.size]
theorem yS (l:List UInt8):(yd l).data.toList=l:=by simp [yd]
theorem Y9 (s:ByteArray):yd s.data.toList=s:=by cases s;simp [yd]
theorem YS (s:ByteArray) (f i:Nat):s.extract f i=yd ((s.data.toList.drop f).take (i-f)):=by
  unfold yd
  apply ByteArray.ext
  apply Array.ext'
  simp
theorem KF (l:List UInt8) (f i:Nat):(yd l).extract f i=yd ((l.drop f).take (i-f)):=by rw [YS,yS]
def blk (c:UInt8):Bool:=c==32||c==9
def blS:ByteArray:=⟨#[32,9]⟩
end Go.Proofs.YtjgghimjnbjlbaaGreatDoor

namespace Go.Proofs.YtjgghimjnbjlbaaGreatDoor
open Go.RowKit
set_option maxRecDepth 10000
set_option maxHeartbeats 8000000
abbrev FmL:=Int × List UInt8 × FuncId × FuncId
def fmC (f:FmL):List Value:=[.int .i64 f.1,.string (yd f.2.1),.func (.func f.2.2.1) #[] #[],.func (.func f.2.2.2) #[] #[]]
def fmsC (L:List FmL):List Value:=L.flatMap fmC
def claimsL:List FmL:=[(1,[78,79,78,69],132,133),(2,[85,78,83,65,84],220,221),(3,[83,65,84],132,133),(5,[66,79,85,78,68,83],222,223),(6,[65,76,76],224,225)]
def formsL:List FmL:=[(1,[112,115,101,117,100,111,45,66,111,111,108,101,97,110,32,112,114,111,111,102,32,118,101,114,115,105,111,110,32,50,46,48],132,133),(2,[102],134,135),(3,[112,111,108],136,137),(4,[114,117,112],138,139),(12,[101],140,141),(5,[115,111,108,105],142,143),(11,[115,111,108,120],142,143),(6,[100,101,108,32,105,100],144,145),(7,[42],146,133),(8,[111,117,116,112,117,116,32,78,79,78,69],132,133),(9,[99,111,110,99,108,117,115,105,111,110],147,148),(10,[101,110,100,32,112,115,101,117,100,111,45,66,111,111,108,101,97,110,32,112,114,111,111,102],132,133)]
theorem y5t (w:World):Calls Tryz.prog 195 #[] w fun e w'=>e=.returned (.slice (some ⟨w.heap.size,0,none⟩) 5 5)/\w'=w.alloc (.cells (fmsC claimsL).toArray 182):=by
  go_enter Tryz.func195,Tryz.ntmps195;go_wp2_with fail
  go_ret;exact ⟨rfl,rfl⟩
theorem y5u (w:World):Calls Tryz.prog 80 #[] w fun e w'=>e=.returned (.slice (some ⟨w.heap.size,0,none⟩) 12 12)/\w'=w.alloc (.cells (fmsC formsL).toArray 182):=by
  go_enter Tryz.func80,Tryz.ntmps80;go_wp2_with fail
  go_ret;exact ⟨rfl,rfl⟩
end Go.Proofs.YtjgghimjnbjlbaaGreatDoor

namespace Go.Proofs.YtjgghimjnbjlbaaGreatDoor
open Go.RowKit
set_option maxRecDepth 10000
set_option maxHeartbeats 8000000
def Z6 (v:Value):Nat:=match v with
  | .string t=>t.size
  | _=>0
def Y8 (w:World) (b:Nat):Prop:=∀ x:UInt8,w.cell? ⟨b,x.toNat,none⟩=some (.bool (blk x))
theorem y09 (b:Nat) (x:UInt8) (w:World) (h:Y8 w b):Calls Tryz.prog 176 #[.pointer (some ⟨b,0,none⟩),.int .u8 x.toNat] w fun e w'=>e=.returned (.bool (blk x))/\w'=w:=by
  have hc:=h x;have hx:(x.toNat:Int)<256:=by have:=x.toNat_lt;omega
  clear h;go_enter Tryz.func176,Tryz.ntmps176;go_wp2;go_ret;exact ⟨rfl,rfl⟩
theorem Yl (t:ByteArray) {i:Nat} (h:i<t.size):t.data.toList[i]?=some t[i]:=by
  have h':i<t.data.toList.length:=by simpa using h
  rw [List.getElem?_eq_getElem h'];rfl
theorem y6C (t:ByteArray) (h:0<t.size):∃ c l,t.data.toList=c :: l/\t[0]=c/\(t.extract 1 t.size).data.toList=l:=by
  have h0:=Yl t h
  cases hl:t.data.toList with
  | nil=>rw [hl] at h0;cases h0
  | cons c l =>
    rw [hl] at h0;refine ⟨c,l,rfl,(by simpa using h0.symm),?_⟩;rw [YS,yS,hl];have:t.size=l.length+1:=by have:=congrArg List.length hl;simpa using this
    simp [this]
theorem KC (b:Nat) (s:ByteArray) (w:World) (h:Y8 w b):Calls Tryz.prog 123 #[.string s,.pointer (some ⟨b,0,none⟩)] w fun e w'=>e=.returned (.string (yd (s.data.toList.dropWhile blk)))/\w'=w:=by
  have HC:Hid (∀ x:UInt8,Calls Tryz.prog 176 #[.pointer (some ⟨b,0,none⟩),.int .u8 x.toNat] w fun e w'=>e=.returned (.bool (blk x))/\w'=w):=fun x=>y09 b x w h
  clear h;go_enter Tryz.func123,Tryz.ntmps123;go_wp2_with fail
  go_loopw [0] (fun sv wr=>∃ t:ByteArray,sv=.string t/\Hid (s.data.toList.dropWhile blk=t.data.toList.dropWhile blk)/\w=wr) (fun sv _=>Z6 sv)
  case atStart=>exact ⟨s,rfl,rfl,rfl⟩
  case round=>
    obtain ⟨t,rfl,HT,rfl⟩:=hrel
    by_cases h0:0<t.size
    · have h0I:(0:Int)<(t.size:Int):=by omega
      have h1I:(1:Int)<=(t.size:Int):=by omega
      obtain ⟨c,l,e1,e2,e3⟩:=y6C t h0;obtain ⟨t',ht'⟩:∃ t',t.extract 1 t.size=t':=⟨_,rfl⟩;have hsz:t'.size+1=t.size:=by
        have h1:=congrArg List.length e1;have h2:=congrArg List.length e3;rw [ht'] at h2;simp at h1 h2;omega
      have HE:Hid (t.data.toList=c :: l/\t'.data.toList=l/\t'.size+1=t.size):=⟨e1,by rw [<-ht'];exact e3,hsz⟩;have HC2:Hid (Calls Tryz.prog 176 #[.pointer (some ⟨b,0,none⟩),.int .u8 c.toNat] w fun e w'=>e=.returned (.bool (blk c))/\w'=w):=HC.out c;clear e1 e3 hsz
      cases hb:blk c with
      | true =>
        rw [hb] at HC2;go_wp2_with fail
        refine cA HC2.out ?_;rintro e w' ⟨rfl,hww⟩;rw [hww];clear hww;go_wp2_with fail
        go_roundw
        case rel=>exact ⟨t',rfl,by
          have h1:=HT.out;rw [HE.out.1,List.dropWhile_cons_of_pos hb] at h1;rw [HE.out.2.1]
          exact h1,by first | rfl | trivial⟩
        case measure=>(have:=HE.out.2.2;simp only [Z6];omega)
      | false =>
        rw [hb] at HC2;go_wp2_with fail
        refine cA HC2.out ?_;rintro e w' ⟨rfl,hww⟩;rw [hww];clear hww;go_wp2_with fail
        go_ret;exact ⟨Ya (by rw [HT.out,HE.out.1,List.dropWhile_cons_of_neg (by simp [hb]),<-HE.out.1,Y9]),rfl⟩
    · have h0I:¬ (0:Int)<(t.size:Int):=by omega
      have hz:t.data.toList=[]:=List.eq_nil_of_length_eq_zero (by have h2:t.data.toList.length=t.size:=(by simp);omega);go_wp2_with fail
      go_ret;exact ⟨Ya (by rw [HT.out,hz,List.dropWhile_nil,<-hz,Y9]),rfl⟩
theorem y6D (t:ByteArray) (h:0<t.size):∃ c l,t.data.toList=l++[c]/\t[t.size-1]=c/\(t.extract 0 (t.size-1)).data.toList=l:=by
  have h0:=Yl t (i:=t.size-1) (by omega);have hlen:t.data.toList.length=t.size:=by simp
  have hne:t.data.toList≠[]:=fun e=>by rw [e] at hlen;simp at hlen;omega
  refine ⟨t[t.size-1],t.data.toList.dropLast,?_,rfl,?_⟩
  · have h1:=(List.dropLast_concat_getLast hne).symm
    have h2:t.data.toList.getLast hne=t[t.size-1]:=by
      rw [List.getLast_eq_getElem];have h3:t.data.toList[t.data.toList.length-1]?=some t[t.size-1]:=by rw [hlen];exact h0
      rw [List.getElem?_eq_getElem (by omega)] at h3;exact Option.some.inj h3
    rw [h2] at h1;exact h1
  · rw [YS,yS,List.drop_zero,List.dropLast_eq_take,hlen,Nat.sub_zero]
def zr (l:List UInt8):List UInt8:=(l.reverse.dropWhile blk).reverse
theorem y0a (l:List UInt8) (c:UInt8):zr (l++[c])=if blk c=true then zr l else l++[c]:=by
  unfold zr;rw [List.reverse_append];simp only [List.reverse_cons,List.reverse_nil,List.nil_append,List.singleton_append]
  cases h:blk c with
  | true=>rw [List.dropWhile_cons_of_pos h];simp
  | false=>rw [List.dropWhile_cons_of_neg (by simp [h])];simp
theorem y4Q (b:Nat) (s:ByteArray) (w:World) (h:Y8 w b) (hs:s.size<=9000000):Calls Tryz.prog 124 #[.string s,.pointer (some ⟨b,0,none⟩)] w fun e w'=>e=.returned (.string (yd (zr s.data.toList)))/\w'=w:=by
  have HC:Hid (∀ x:UInt8,Calls Tryz.prog 176 #[.pointer (some ⟨b,0,none⟩),.int .u8 x.toNat] w fun e w'=>e=.returned (.bool (blk x))/\w'=w):=fun x=>y09 b x w h
  clear h;go_enter Tryz.func124,Tryz.ntmps124;go_wp2_with fail
  go_loopw [0] (fun sv wr=>∃ t:ByteArray,sv=.string t/\t.size<=9000000/\Hid (zr s.data.toList=zr t.data.toList)/\w=wr) (fun sv _=>Z6 sv)
  case atStart=>exact ⟨s,rfl,hs,rfl,rfl⟩
  case round=>
    obtain ⟨t,rfl,hts,HT,rfl⟩:=hrel
    by_cases h0:0<t.size
    · have h0I:(0:Int)<(t.size:Int):=by omega
      obtain ⟨n,hn⟩:∃ n,t.size=n+1:=⟨t.size-1,by omega⟩;have e9:IntKind.i64.wrap ((t.size:Int)-1)=(n:Int):=by rw [hn,KE (by omega) (by omega)];omega
      have e8:wrap64 ((t.size:Int)-1)=(n:Int):=by unfold wrap64;omega
      have hnI:(n:Int)<(t.size:Int):=by omega
      have hnI2:(n:Int)<=(t.size:Int):=by omega
      obtain ⟨c,l,e1,e2,e3⟩:=y6D t h0;have hn1:t.size-1=n:=by omega
      simp only [hn1] at e2 e3;obtain ⟨t',ht'⟩:∃ t',t.extract 0 n=t':=⟨_,rfl⟩;have hsz:t'.size+1=t.size:=by
        have h1:=congrArg List.length e1;have h2:=congrArg List.length e3;rw [ht'] at h2;simp at h1 h2;omega
      have HE:Hid (t.data.toList=l++[c]/\t'.data.toList=l/\t'.size+1=t.size):=⟨e1,by rw [<-ht'];exact e3,hsz⟩;have HC2:Hid (Calls Tryz.prog 176 #[.pointer (some ⟨b,0,none⟩),.int .u8 c.toNat] w fun e w'=>e=.returned (.bool (blk c))/\w'=w):=HC.out c;have Hn:Hid (t.size=n+1):=hn;clear e1 e3 hsz hn
      cases hb:blk c with
      | true =>
        rw [hb] at HC2;go_wp2_with fail
        refine cA HC2.out ?_;rintro e w' ⟨rfl,hww⟩;rw [hww];clear hww;go_wp2_with fail
        go_roundw
        case rel=>exact ⟨t',rfl,(by have:=HE.out.2.2;omega),by
          have h1:=HT.out;rw [HE.out.1,y0a,if_pos hb] at h1;rw [HE.out.2.1]
          exact h1,by first | rfl | trivial⟩
        case measure=>(have:=HE.out.2.2;simp only [Z6];omega)
      | false =>
        rw [hb] at HC2;go_wp2_with fail
        refine cA HC2.out ?_;rintro e w' ⟨rfl,hww⟩;rw [hww];clear hww;go_wp2_with fail
        go_ret;exact ⟨Ya (by rw [HT.out,HE.out.1,y0a,if_neg (by simp [hb]),<-HE.out.1,Y9]),rfl⟩
    · have h0I:¬ (0:Int)<(t.size:Int):=by omega
      have hz:t.data.toList=[]:=List.eq_nil_of_length_eq_zero (by have h2:t.data.toList.length=t.size:=(by simp);omega);go_wp2_with fail
      go_ret;exact ⟨Ya (by rw [HT.out,hz];show t=yd [];rw [<-hz,Y9]),rfl⟩
end Go.Proofs.YtjgghimjnbjlbaaGreatDoor
