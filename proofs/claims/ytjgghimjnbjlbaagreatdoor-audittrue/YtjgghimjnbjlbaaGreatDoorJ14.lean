/-
  Put together: PfAny, PfLine.
-/
import Derived.Test.YtjgghimjnbjlbaaGreatDoorJ04
import Derived.Test.YtjgghimjnbjlbaaGreatDoorPfRune
import Derived.Test.YtjgghimjnbjlbaaGreatDoorJ11
import Derived.Lib.OthersKept
namespace Go.Proofs.YtjgghimjnbjlbaaGreatDoor
open Go.RowKit
set_option maxRecDepth 10000
set_option maxHeartbeats 8000000
theorem ZH:∀ (j:Nat) b,(blS.data.toList[j]?=some b)->b.toNat<128:=by
  intro j b h
  match j with
  | 0=>cases h;decide
  | 1=>cases h;decide
  | j+2=>cases h
theorem ZI (w:World):(zeroValue 173).run Tryz.prog w=.ok (.agg (Array.replicate 256 (.bool false))) w:=by kernel_rfl
theorem Kv {x:UInt8} (h:128<=x.toNat):blS.data.toList.contains x=false:=by
  have h1:x≠32:=fun e=>by rw [e] at h;exact absurd h (by decide)
  have h2:x≠9:=fun e=>by rw [e] at h;exact absurd h (by decide)
  show [32,9].contains x=false;simp [h1,h2]
theorem Kw {s:ByteArray} {i:Nat} (h:Lib.NoAny s.data.toList blS.data.toList i) (hi:i<s.size) (ha:128<=(s[i]'hi).toNat):∀ n,n<=(Utf8.decode s i).2->Lib.NoAny s.data.toList blS.data.toList (i+n)/\(i+n<=s.size)
  | 0,_=>⟨h,Nat.le_of_lt hi⟩
  | 1,_=>⟨h.succ (Yl s hi) (Kv ha),hi⟩
  | n + 2, hn => by
    obtain ⟨h1,h2⟩:=Kw h hi ha (n+1) (by omega);obtain ⟨h3,h4⟩:=y4J s i (n+1) (by omega) (by omega);have h5:s.get! (i+(n+1))=s[i+(n+1)]:=by
      have:=get_at s (i+(n+1)) h3;simpa using this
    rw [h5] at h4;exact ⟨h1.succ (Yl s h3) (Kv h4),h3⟩
theorem y4K (s:ByteArray) (w:World) (h8:s.size<=8):Calls Tryz.prog 198 #[.string s,.string blS] w fun e w'=>e=.returned (.int .i64 (Lib.indexAny s.data.toList blS.data.toList))/\Below w.heap.size w w':=by
  have h8z:decide ((8:Int)<(s.size:Int))=false:=decide_eq_false (by omega);have hb2:blS.size=2:=rfl;have HU:Hid (Calls Tryz.prog 226 #[.int .i64 (s.size:Int)] w fun e w'=>e=.returned (.bool false)/\w'=w):=by
    clear hb2;go_enter Tryz.func226,Tryz.ntmps226;go_wp2;go_ret;exact ⟨rfl,rfl⟩
  obtain ⟨c,hc⟩:∃ c,blS=c:=⟨_,rfl⟩;have hemp:c.toList.isEmpty=false:=by rw [<-hc,Lib.toList_data];rfl
  have hn1:((c.size:Int)==1)=false:=by rw [<-hc];rfl
  have HR:Hid (∀ (r:Int) w',128<=r->r<=2147483647->Calls Tryz.prog 205 #[.string c,.int .i32 r] w' fun e w2=>e=.returned (.int .i64 (-1))/\Below w'.heap.size w' w2):=by rw [<-hc];exact fun r w' h1 h2=>y4L r w' h1 h2
  have HN:Hid (∀ i n,Lib.NoAny s.data.toList blS.data.toList i->∀ (hi:i<s.size),128<=(s[i]'hi).toNat->n<=(Utf8.decode s i).2->Lib.NoAny s.data.toList blS.data.toList (i+n)/\(i+n<=s.size)):=fun i n h hi ha hn=>Kw h hi ha n hn
  rw [hc] at HN ⊢;have Hc:Hid (blS=c):=hc;clear hc hb2 h8z;go_enter Tryz.func198,Tryz.ntmps198;go_wp2_with fail
  refine cA HU.out ?_;rintro e w' ⟨rfl,hww⟩;rw [hww];clear hww;go_wp2_with fail
  go_loopg [9,10] s.size (fun g _ _ wx=>∃ i:Nat,i+g=s.size/\Hid (Lib.NoAny s.data.toList c.data.toList i)/\Hid (Below w.heap.size w wx)/\Hid (wx.heap[w.heap.size]?=some (.stringIter s i)))
  case atStart=>exact ⟨0,by omega,Lib.NoAny.zero _ _,(Below.refl _ _).alloc (Nat.le_refl _) _,heap_alloc_new w _⟩
  case round=>
    obtain ⟨i,hig,Hno,HB,HI⟩:=hrel
    cases gk with
    | zero =>
      have hnx:=fun ty=>Lib.run_next_end_at (P:=Tryz.prog) wr w.heap.size s i ty HI.out (by omega)
      go_wp2;go_ret
      exact ⟨xT (by
        have h1:=Hno.out;have h2:i=s.data.toList.length:=by have h3:s.data.toList.length=s.size:=(by simp);omega
        rw [h2] at h1
        rw [Lib.indexAny_none h1]),HB.out⟩
    | succ g =>
      have hi:i<s.size:=by omega
      obtain ⟨x,hx⟩:∃ x:UInt8,s[i]'hi=x:=⟨_,rfl⟩;have Hx:Hid (s.data.toList[i]?=some x):=by show _=_;rw [<-hx];exact Yl s hi
      by_cases ha:x.toNat<128
      · have hnx:=fun ty=>Lib.run_next_ascii_at (P:=Tryz.prog) wr w.heap.size s i ty HI.out hi (by rw [hx];exact ha)
        rw [hx] at hnx;obtain ⟨X,hX⟩:∃ X,wr.iterAt w.heap.size s (i+1)=X:=⟨_,rfl⟩;have HX:Hid (Below w.heap.size w X/\X.heap[w.heap.size]?=some (.stringIter s (i+1))):=by
          show _/\_;rw [<-hX];exact ⟨Lib.below_iterAt HB.out (Nat.le_refl _) s (i+1),Lib.iterAt_heap wr _ s i _ HI.out⟩
        rw [hX] at hnx;have HR2:Hid (Calls Tryz.prog 205 #[.string c,.int .i32 (x.toNat:Int)] X fun e w'=>e=.returned (.int .i64 (Lib.indexByte c.data.toList x))/\w'=X):=by
          have h1:=Tryz.strings_IndexRune_ascii c (x.toNat:Int) X (by omega) (by omega);have h2:((x.toNat:Int)).toNat.toUInt8=x:=by simp
          rw [h2] at h1;exact h1
        have hcon:=Lib.contains_iff_indexByte c.data.toList x;clear hx hX
        cases hin:c.data.toList.contains x with
        | false =>
          rw [hin] at hcon;have hlt:¬ ((0:Int)<=Lib.indexByte c.data.toList x):=of_decide_eq_false hcon.symm;clear hcon;go_wp2_with fail
          refine cA HR2.out ?_;rintro e w' ⟨rfl,hww⟩;rw [hww];clear hww;go_wp2_with fail
          go_roundg g
          case measure=>omega
          case rel=>exact ⟨i+1,by omega,Hno.out.succ Hx.out hin,HX.out.1,HX.out.2⟩
        | true =>
          rw [hin] at hcon;have hge:(0:Int)<=Lib.indexByte c.data.toList x:=of_decide_eq_true hcon.symm;clear hcon;go_wp2_with fail
          refine cA HR2.out ?_;rintro e w' ⟨rfl,hww⟩;rw [hww];clear hww;go_wp2_with fail
          go_ret;exact ⟨xT (by rw [Lib.indexAny_hit Hno.out Hx.out hin]),HX.out.1⟩
      · have ha':128<=(s[i]'hi).toNat:=by rw [hx];omega
        have hd:=decode_high s i hi ha';have hd2:=decode_le s i;have hnx:=fun ty=>Lib.run_next_any_at (P:=Tryz.prog) wr w.heap.size s i ty HI.out hi
        obtain ⟨hq1,hq2⟩:=HN.out i _ Hno.out hi ha' (Nat.le_refl _);obtain ⟨r,hr⟩:∃ r,(Utf8.decode s i).1=r:=⟨_,rfl⟩;obtain ⟨n,hn⟩:∃ n,(Utf8.decode s i).2=n:=⟨_,rfl⟩;rw [hr,hn] at hnx;rw [hn] at hq1 hq2 hd;rw [hr] at hd hd2;obtain ⟨X,hX⟩:∃ X,wr.iterAt w.heap.size s (i+n)=X:=⟨_,rfl⟩;have HX:Hid (Below w.heap.size w X/\X.heap[w.heap.size]?=some (.stringIter s (i+n))):=by
          show _/\_;rw [<-hX];exact ⟨Lib.below_iterAt HB.out (Nat.le_refl _) s (i+n),Lib.iterAt_heap wr _ s i _ HI.out⟩
        rw [hX] at hnx;have HR2:Hid (Calls Tryz.prog 205 #[.string c,.int .i32 (r:Int)] X fun e w'=>e=.returned (.int .i64 (-1))/\Below X.heap.size X w'):=HR.out (r:Int) X (by omega) (by omega);have Hq:Hid (Lib.NoAny s.data.toList c.data.toList (i+n)):=hq1;clear hx hX hr hn ha ha' hq1;go_wp2_with fail
        refine cA HR2.out ?_;rintro e w' ⟨rfl,hbw⟩;have HBw:Hid (Below w.heap.size w w'/\w'.heap[w.heap.size]?=some (.stringIter s (i+n))):=⟨ym HX.out.1 hbw,(hbw.block _ (hLt HX.out.2)).trans HX.out.2⟩;clear hbw;go_wp2_with fail
        go_roundg (s.size-(i+n))
        case measure=>omega
        case rel=>exact ⟨i+n,by omega,Hq.out,HBw.out.1,HBw.out.2⟩
theorem Kx (x:UInt8):blS.data.toList.contains x=blk x:=by
  show [32,9].contains x=blk x;simp only [blk,List.contains_cons,List.contains_nil,Bool.or_false]
def wlen (l:List UInt8):Nat:=(l.takeWhile fun c=>!blk c).length
theorem Ky (l:List UInt8):wlen l<=l.length:=(List.takeWhile_sublist _).length_le
theorem y4M (c:UInt8) (l:List UInt8):Lib.indexAny (c :: l) blS.data.toList=if blk c=true then 0 else if Lib.indexAny l blS.data.toList=-1 then -1 else Lib.indexAny l blS.data.toList+1:=by
  show (if blS.data.toList.contains c=true then (0:Int) else if (Lib.indexAny l blS.data.toList==-1)=true then -1 else Lib.indexAny l blS.data.toList+1)=_;rw [Kx];simp only [beq_iff_eq]
theorem Kz:∀ l:List UInt8,Lib.indexAny l blS.data.toList=if wlen l<l.length then (wlen l:Int) else -1
  | []=>rfl
  | c :: l => by
    have ih:=Kz l;have hle:=Ky l;rw [y4M,List.length_cons]
    cases h:blk c with
    | true =>
      have h1:wlen (c :: l)=0:=by unfold wlen;rw [List.takeWhile_cons_of_neg (by simp [h])];rfl
      rw [h1,if_pos rfl,if_pos (by omega)];rfl
    | false =>
      have h2:wlen (c :: l)=wlen l+1:=by unfold wlen;rw [List.takeWhile_cons_of_pos (by simp [h])];rfl
      rw [h2,if_neg (by decide)]
      by_cases h3:wlen l<l.length
      · rw [if_pos h3] at ih
        rw [ih,if_neg (by omega),if_pos (by omega)];omega
      · rw [if_neg h3] at ih
        rw [ih,if_pos rfl,if_neg (by omega)]
theorem y4N (s:ByteArray) (w:World) (hs:s.size<=9000000):Calls Tryz.prog 198 #[.string s,.string blS] w fun e w'=>e=.returned (.int .i64 (if wlen s.data.toList<s.size then (wlen s.data.toList:Int) else -1))/\Below w.heap.size w w':=by
  have hz:s.data.toList.length=s.size:=by simp
  rw [<-hz,<-Kz]
  by_cases h8:s.size<=8
  · exact y4K s w h8
  · refine (Tryz.strings_IndexAny_long ZI s blS w (by decide) (by omega) (by omega) (by decide) ZH).mono fun e w' ⟨h1,h2⟩=>⟨h1,?_⟩
    rw [h2];exact ((Below.refl _ _).alloc (Nat.le_refl _) _).alloc (by simp) _
theorem KA (w:World):Y8 (w.alloc (.cells (Lib.setCells blS.data.toList) 173)) w.heap.size:=fun x=>by
  rw [World.cell?_alloc_at _ _ _ _ rfl,Lib.setCells_at,Kx]
theorem KB (w:World):(storeCells ⟨w.heap.size,0,none⟩ (Lib.setCells blS.data.toList).toList 0).run Tryz.prog (w.alloc (.cells Tryz.zeroCells173 173))=.ok () (w.alloc (.cells (Lib.setCells blS.data.toList) 173)):=by
  have e:Tryz.zeroCells173=Array.replicate 256 (.bool false):=by kernel_rfl
  rw [e];have:=run_storeCells_new (P:=Tryz.prog) w 173 (Array.replicate 256 (.bool false)) (Lib.setCells blS.data.toList) (by rw [Lib.setCells_size];kernel_rfl) (by rw [Lib.setCells_size,Array.size_replicate]) (Lib.setCells_one _);simpa using this
theorem y4O (s:ByteArray) (w:World):Calls Tryz.prog 197 #[.string s,.string blS] w fun e w'=>e=.returned (.string (yd (s.data.toList.dropWhile blk)))/\Below w.heap.size w w':=by
  by_cases h0:s.size=0
  · have hz:s.data.toList=[]:=List.eq_nil_of_length_eq_zero (by have h2:s.data.toList.length=s.size:=(by simp);omega)
    have hem:s.toList.isEmpty=true:=by rw [Lib.toList_data,hz];rfl
    have HR:Hid (s=yd (s.data.toList.dropWhile blk)):=by show s=_;rw [hz,List.dropWhile_nil,<-hz,Y9]
    clear hz;go_enter Tryz.func197,Tryz.ntmps197;go_wp2_with fail
    go_ret;exact ⟨Ya HR.out,Below.refl _ _⟩
  · have hem:s.toList.isEmpty=false:=by
      rw [Lib.toList_data]
      cases h:s.data.toList with
      | nil=>have h2:s.data.toList.length=s.size:=(by simp);rw [h] at h2;simp at h2;omega
      | cons _ _=>rfl
    obtain ⟨X,hX⟩:∃ X,(w.alloc (.cells (Lib.setCells blS.data.toList) 173))=X:=⟨_,rfl⟩;have HM:Hid (Calls Tryz.prog 122 #[.string blS] w fun e w'=>e=.returned (.tuple #[.agg (Lib.setCells blS.data.toList),.bool true])/\w'=X):=by rw [<-hX];exact Tryz.strings_makeASCIISet ZI blS w (by decide) ZH
    have hbX:Below w.heap.size w X:=bAe hX;obtain ⟨Y,hY⟩:∃ Y,(X.alloc (.cells (Lib.setCells blS.data.toList) 173))=Y:=⟨_,rfl⟩;have hst:=KB X;rw [hY] at hst;have hSY:Y8 Y X.heap.size:=by rw [<-hY];exact KA X
    have HY:Hid (Below w.heap.size w Y):=by show Below _ _ _;rw [<-hY];exact hbX.alloc hbX.size _
    have HT:Hid (Calls Tryz.prog 123 #[.string s,.pointer (some ⟨X.heap.size,0,none⟩)] Y fun e w'=>e=.returned (.string (yd (s.data.toList.dropWhile blk)))/\w'=Y):=KC X.heap.size s Y hSY;obtain ⟨A,hA⟩:∃ A,Lib.setCells blS.data.toList=A:=⟨_,rfl⟩;rw [hA] at hst HM;have hsz:A.size=256:=by rw [<-hA];exact Lib.setCells_size _
    obtain ⟨c,hc⟩:∃ c,blS=c:=⟨_,rfl⟩;have hemp:c.toList.isEmpty=false:=by rw [<-hc,Lib.toList_data];rfl
    have hn1:((c.size:Int)==1)=false:=by rw [<-hc];rfl
    rw [hc] at HM;rw [hc];clear hX hbX hY hSY hA hc;go_enter Tryz.func197,Tryz.ntmps197;go_wp2_with fail
    refine cA HM.out ?_;rintro e w' ⟨rfl,hww⟩;rw [hww];clear hww;go_wp2_with fail
    refine cA HT.out ?_;rintro e w' ⟨rfl,hww⟩;rw [hww];clear hww;go_wp2_with fail
    go_ret;exact ⟨rfl,HY.out⟩
theorem y4P (s:ByteArray) (w:World) (hs:s.size<=9000000):Calls Tryz.prog 78 #[.string s,.string blS] w fun e w'=>e=.returned (.string (yd ((zr s.data.toList).dropWhile blk)))/\Below w.heap.size w w':=by
  by_cases h0:s.size=0
  · have hz:s.data.toList=[]:=List.eq_nil_of_length_eq_zero (by have h2:s.data.toList.length=s.size:=(by simp);omega)
    have hem:s.toList.isEmpty=true:=by rw [Lib.toList_data,hz];rfl
    have HR:Hid (s=yd ((zr s.data.toList).dropWhile blk)):=by show s=_;rw [hz];show s=yd [];rw [<-hz,Y9]
    clear hz;go_enter Tryz.func78,Tryz.ntmps78;go_wp2_with fail
    go_ret;exact ⟨Ya HR.out,Below.refl _ _⟩
  · have hem:s.toList.isEmpty=false:=by
      rw [Lib.toList_data]
      cases h:s.data.toList with
      | nil=>have h2:s.data.toList.length=s.size:=(by simp);rw [h] at h2;simp at h2;omega
      | cons _ _=>rfl
    obtain ⟨X,hX⟩:∃ X,(w.alloc (.cells (Lib.setCells blS.data.toList) 173))=X:=⟨_,rfl⟩;have HM:Hid (Calls Tryz.prog 122 #[.string blS] w fun e w'=>e=.returned (.tuple #[.agg (Lib.setCells blS.data.toList),.bool true])/\w'=X):=by rw [<-hX];exact Tryz.strings_makeASCIISet ZI blS w (by decide) ZH
    have hbX:Below w.heap.size w X:=bAe hX;obtain ⟨Y,hY⟩:∃ Y,(X.alloc (.cells (Lib.setCells blS.data.toList) 173))=Y:=⟨_,rfl⟩;have hst:=KB X;rw [hY] at hst;have hSY:Y8 Y X.heap.size:=by rw [<-hY];exact KA X
    have HY:Hid (Below w.heap.size w Y):=by show Below _ _ _;rw [<-hY];exact hbX.alloc hbX.size _
    have HU:Hid (Calls Tryz.prog 124 #[.string s,.pointer (some ⟨X.heap.size,0,none⟩)] Y fun e w'=>e=.returned (.string (yd (zr s.data.toList)))/\w'=Y):=y4Q X.heap.size s Y hSY hs;have HT:Hid (Calls Tryz.prog 123 #[.string (yd (zr s.data.toList)),.pointer (some ⟨X.heap.size,0,none⟩)] Y fun e w'=>e=.returned (.string (yd ((zr s.data.toList).dropWhile blk)))/\w'=Y):=by
      have:=KC X.heap.size (yd (zr s.data.toList)) Y hSY;rw [yS] at this;exact this
    obtain ⟨A,hA⟩:∃ A,Lib.setCells blS.data.toList=A:=⟨_,rfl⟩;rw [hA] at hst HM;have hsz:A.size=256:=by rw [<-hA];exact Lib.setCells_size _
    obtain ⟨c,hc⟩:∃ c,blS=c:=⟨_,rfl⟩;have hemp:c.toList.isEmpty=false:=by rw [<-hc,Lib.toList_data];rfl
    have hn1:((c.size:Int)==1)=false:=by rw [<-hc];rfl
    rw [hc] at HM;rw [hc];clear hX hbX hY hSY hA hc;go_enter Tryz.func78,Tryz.ntmps78;go_wp2_with fail
    refine cA HM.out ?_;rintro e w' ⟨rfl,hww⟩;rw [hww];clear hww;go_wp2_with fail
    refine cA HU.out ?_;rintro e w' ⟨rfl,hww⟩;rw [hww];clear hww;go_wp2_with fail
    refine cA HT.out ?_;rintro e w' ⟨rfl,hww⟩;rw [hww];clear hww;go_wp2_with fail
    go_ret;exact ⟨rfl,HY.out⟩
end Go.Proofs.YtjgghimjnbjlbaaGreatDoor

namespace Go.Proofs.YtjgghimjnbjlbaaGreatDoor
open Go.RowKit
set_option maxRecDepth 10000
set_option maxHeartbeats 8000000
abbrev Ls:=List UInt8 × Option Int
def fv:Option Int->Value
  | none=>.nilIface
  | some e=>.iface 92 (.int .i64 e)
structure LnAt (w:World) (b:Nat) (s:Ls):Prop where
  o:w.heap[b]?=some (.cells #[.string (yd s.1),fv s.2] 137 (0,0))
  n:s.1.length<=9000000
theorem LnAt.lt {w:World} {b:Nat} {s:Ls} (h:LnAt w b s):b<w.heap.size:=(hLt h.o)
theorem LnAt.below {w w':World} {b:Nat} {s:Ls} (h:LnAt w b s) (hb:Below w.heap.size w w'):LnAt w' b s:=⟨(hb.block b h.lt).trans h.o,h.n⟩
theorem LnAt.put0 {w:World} {b:Nat} {s:Ls} (h:LnAt w b s) (r:List UInt8) (hr:r.length<=9000000):LnAt (w.setCell ⟨b,0,none⟩ (.string (yd r))) b (r,s.2):=⟨yB h.o 0 _,hr⟩
theorem LnAt.put1 {w:World} {b:Nat} {s:Ls} (h:LnAt w b s) (e:Option Int):LnAt (w.setCell ⟨b,1,none⟩ (fv e)) b (s.1,e):=⟨yB h.o 1 _,h.n⟩
def LO (B b:Nat) (v:Value) (s':Ls) (w:World) (e:Ending) (w':World):Prop:=e=.returned v/\LnAt w' b s'/\SStp B (fun k=>k=b) w w'
def yu (e:Int) (s:Ls):Ls:=match s.2 with
  | none=>(s.1,some e)
  | some _=>s
def yg (s:Ls):(List UInt8 × Bool) × Ls:=if s.2.isSome∨s.1.dropWhile blk=[] then (([],false),s) else (((s.1.dropWhile blk).take (wlen (s.1.dropWhile blk)),true),((s.1.dropWhile blk).drop (wlen (s.1.dropWhile blk)),s.2))
def ye (s:Ls):List UInt8 × Ls:=if (yg s).1.2=true then ((yg s).1.1,(yg s).2) else ([],yu 82 (yg s).2)
def xy (x:List UInt8) (s:Ls):Ls:=if (ye s).1=x then (ye s).2 else yu 80 (ye s).2
def endP (s:Ls):Ls:=if (yg s).1.2=true then yu 80 (yg s).2 else (yg s).2
theorem xz {B b:Nat} {s:Ls} (e:Int) (w:World) (h:LnAt w b s) (hB:B<=b):Calls Tryz.prog 131 #[.pointer (some ⟨b,0,none⟩),.int .i64 e] w (LO B b (.tuple #[]) (yu e s) w):=by
  have c1:w.cell? ⟨b,1,none⟩=some (fv s.2):=yb h.o 1;have z1:=yl h.o 1;obtain ⟨r,f⟩:=s
  cases f with
  | none =>
    have HE:Hid (LO B b (.tuple #[]) (yu e (r,none)) w (.returned (.tuple #[])) (w.setCell ⟨b,1,none⟩ (.iface 92 (.int .i64 e)))):=⟨rfl,h.put1 (some e),(Below.refl _ _).setCell hB _,Off.set _ rfl⟩;simp only [fv] at c1;clear h;go_enter Tryz.func131,Tryz.ntmps131;go_wp2_with fail
    go_end0;exact HE.out
  | some x =>
    have HE:Hid (LO B b (.tuple #[]) (yu e (r,some x)) w (.returned (.tuple #[])) w):=⟨rfl,h,SStp.refl _ _ _⟩;simp only [fv] at c1;clear h;go_enter Tryz.func131,Tryz.ntmps131;go_wp2_with fail
    go_end0;exact HE.out
theorem xY {B b:Nat} {s:Ls} (w:World) (h:LnAt w b s) (hB:B<=b):Calls Tryz.prog 149 #[.pointer (some ⟨b,0,none⟩)] w (LO B b (.tuple #[.string (yd (yg s).1.1),.bool (yg s).1.2]) (yg s).2 w):=by
  obtain ⟨l,f⟩:=s;have hn:=h.n;have hBw:B<=w.heap.size:=Nat.le_of_lt (Nat.lt_of_le_of_lt hB h.lt);have c0:w.cell? ⟨b,0,none⟩=some (.string (yd l)):=yb h.o 0;obtain ⟨r,hr⟩:∃ r,l.dropWhile blk=r:=⟨_,rfl⟩;have hrl:r.length<=9000000:=by rw [<-hr];exact Nat.le_trans (List.dropWhile_sublist _).length_le hn
  obtain ⟨L,hL⟩:∃ L,yd l=L:=⟨_,rfl⟩;obtain ⟨R,hR⟩:∃ R,yd r=R:=⟨_,rfl⟩;have HT:Hid (Calls Tryz.prog 197 #[.string L,.string ⟨#[32,9]⟩] w fun e w'=>e=.returned (.string R)/\Below w.heap.size w w'):=by
    have:=y4O (yd l) w;rw [yS,hr,hL,hR] at this;exact this
  have hRs:R.size=r.length:=by rw [<-hR];exact zA r
  have hRl:R.data.toList=r:=by rw [<-hR];exact yS r
  have HA:Hid (∀ w',Calls Tryz.prog 198 #[.string R,.string ⟨#[32,9]⟩] w' fun e w2=>e=.returned (.int .i64 (if wlen r<r.length then (wlen r:Int) else -1))/\Below w'.heap.size w' w2):=fun w'=>by
    have:=y4N R w' (by omega);rw [hRl,hRs] at this;exact this
  have HW:Hid (∀ w',Below w.heap.size w w'->w'.cell? ⟨b,0,none⟩=some (.string L)/\w'.cell? ⟨b,1,none⟩=some (fv f)/\w'.frozen? ⟨b,0,none⟩=false):=fun w' hb=>by
    have h1:=(h.below hb).o;exact ⟨by rw [<-hL];exact yb h1 0,yb h1 1,yl h1 0⟩
  have HL:Hid (LnAt w b (l,f)):=h;rw [hL] at c0
  cases f with
  | some x =>
    have he:yg (l,some x)=(([],false),(l,some x)):=by unfold yg;rw [if_pos (.inl rfl)]
    rw [he];clear h hL hR hRl hRs hr he;go_enter Tryz.func149,Tryz.ntmps149;go_wp2_with fail
    refine cA HT.out ?_;rintro e w1 ⟨rfl,hb1⟩;obtain ⟨_,y1,_⟩:=HW.out w1 hb1;simp only [fv] at y1;have HB1:Hid (Below w.heap.size w w1):=hb1;clear hb1;go_wp2_with fail
    go_ret2;exact ⟨rfl,HL.out.below HB1.out,SStp.of_below HB1.out hBw⟩
  | none =>
    by_cases h0:r=[]
    · have he:yg (l,none)=(([],false),(l,none)):=by unfold yg;rw [if_pos (.inr (hr.trans h0))]
      have hem:R.toList.isEmpty=true:=by rw [Lib.toList_data,hRl,h0];rfl
      rw [he];clear h hL hR hRl hRs hr he h0;go_enter Tryz.func149,Tryz.ntmps149;go_wp2_with fail
      refine cA HT.out ?_;rintro e w1 ⟨rfl,hb1⟩;obtain ⟨_,y1,_⟩:=HW.out w1 hb1;simp only [fv] at y1;have HB1:Hid (Below w.heap.size w w1):=hb1;clear hb1;go_wp2_with fail
      go_ret2;exact ⟨rfl,HL.out.below HB1.out,SStp.of_below HB1.out hBw⟩
    · have he:yg (l,none)=((r.take (wlen r),true),(r.drop (wlen r),none)):=by unfold yg;rw [if_neg (fun e=>e.elim (fun e=>by cases e) (fun e=>h0 (hr.symm.trans e))),hr]
      have hem:R.toList.isEmpty=false:=by
        rw [Lib.toList_data,hRl]
        cases r with
        | nil=>exact absurd rfl h0
        | cons _ _=>rfl
      rw [he];have hwl:=Ky r;obtain ⟨n,hn2⟩:∃ n,wlen r=n:=⟨_,rfl⟩;rw [hn2] at HA hwl;have x1:R.extract n r.length=yd (r.drop n):=by rw [<-hR,KF,List.take_of_length_le (by simp)]
      have x2:R.extract 0 n=yd (r.take n):=by rw [<-hR,KF];simp
      have hnI:(n:Int)<=(R.size:Int):=by omega
      have HE:Hid (∀ w2,Below w.heap.size w w2->LO B b (.tuple #[.string (yd (r.take n)),.bool true]) (r.drop n,none) w (.returned (.tuple #[.string (yd (r.take n)),.bool true])) (w2.setCell ⟨b,0,none⟩ (.string (yd (r.drop n))))):=fun w2 hb=>⟨rfl,(HL.out.below hb).put0 (r.drop n) (by simp;omega),(hb.mono hBw).setCell hB _,(Off.of_below hb).trans (Off.set _ rfl)⟩
      rw [hn2]
      by_cases hlt:n<r.length
      · rw [if_pos hlt] at HA
        have hn0:¬ (n:Int)<0:=by omega
        clear h hL hR hRl hr he h0 hn2;go_enter Tryz.func149,Tryz.ntmps149;go_wp2_with fail
        refine cA HT.out ?_;rintro e w1 ⟨rfl,hb1⟩;obtain ⟨_,y1,_⟩:=HW.out w1 hb1;simp only [fv] at y1;have HB1:Hid (Below w.heap.size w w1):=hb1;clear hb1;go_wp2_with fail
        refine cA (HA.out w1) ?_;rintro e w2 ⟨rfl,hb2⟩;have HB2:Hid (Below w.heap.size w w2):=ym HB1.out hb2;obtain ⟨y0,_,z0⟩:=HW.out w2 HB2.out;clear hb2 y1;go_wp2_with fail
        go_ret2;obtain ⟨_,q2,q3⟩:=HE.out w2 HB2.out;exact ⟨rfl,q2,q3⟩
      · rw [if_neg hlt] at HA
        have hnR:n=R.size:=by omega
        have X5:Hid (yd (r.drop n)=ByteArray.empty):=by show _=_;rw [List.drop_eq_nil_of_le (by omega)];rfl
        have x4:R.extract 0 r.length=yd (r.take n):=by rw [<-x2,<-hRs,hnR]
        clear h hL hR hRl hr he h0 hn2 x1 x2 hnI hnR;go_enter Tryz.func149,Tryz.ntmps149;go_wp2_with fail
        refine cA HT.out ?_;rintro e w1 ⟨rfl,hb1⟩;obtain ⟨_,y1,_⟩:=HW.out w1 hb1;simp only [fv] at y1;have HB1:Hid (Below w.heap.size w w1):=hb1;clear hb1;go_wp2_with fail
        refine cA (HA.out w1) ?_;rintro e w2 ⟨rfl,hb2⟩;have HB2:Hid (Below w.heap.size w w2):=ym HB1.out hb2;obtain ⟨y0,_,z0⟩:=HW.out w2 HB2.out;clear hb2 y1;go_wp2_with fail
        go_ret2;obtain ⟨_,q2,q3⟩:=HE.out w2 HB2.out;rw [X5.out] at q2 q3;exact ⟨rfl,q2,q3⟩
theorem y5w {s:Ls} (h:(yg s).1.2=false):(yg s).1.1=[]:=by
  unfold yg at h ⊢
  split
  · rfl
  · rename_i h1
    rw [if_neg h1] at h
    cases h
theorem zQ {B b:Nat} {s:Ls} (w:World) (h:LnAt w b s) (hB:B<=b):Calls Tryz.prog 127 #[.pointer (some ⟨b,0,none⟩)] w (LO B b (.string (yd (ye s).1)) (ye s).2 w):=by
  have HT:Hid (Calls Tryz.prog 149 #[.pointer (some ⟨b,0,none⟩)] w (LO B b (.tuple #[.string (yd (yg s).1.1),.bool (yg s).1.2]) (yg s).2 w)):=xY w h hB;have HF:Hid (∀ w',LnAt w' b (yg s).2->Calls Tryz.prog 131 #[.pointer (some ⟨b,0,none⟩),.int .i64 82] w' (LO B b (.tuple #[]) (yu 82 (yg s).2) w')):=fun w' h'=>xz 82 w' h' hB
  unfold ye
  cases hk:(yg s).1.2 with
  | true =>
    rw [hk] at HT;simp only [if_true];clear h;go_enter Tryz.func127,Tryz.ntmps127;go_wp2_with fail
    refine cA HT.out ?_;rintro e w1 ⟨rfl,h1,h2⟩;have H1:Hid (LnAt w1 b (yg s).2/\SStp B (fun k=>k=b) w w1):=⟨h1,h2⟩;clear h1 h2;go_wp2_with fail
    go_ret;exact ⟨rfl,H1.out.1,H1.out.2⟩
  | false =>
    rw [hk,y5w hk] at HT;simp only [Bool.false_eq_true,if_false];clear h;go_enter Tryz.func127,Tryz.ntmps127;go_wp2_with fail
    refine cA HT.out ?_;rintro e w1 ⟨rfl,h1,h2⟩;have H1:Hid (LnAt w1 b (yg s).2/\SStp B (fun k=>k=b) w w1):=⟨h1,h2⟩;clear h1 h2;go_wp2_with fail
    refine cA (HF.out w1 H1.out.1) ?_;rintro e w2 ⟨rfl,h3,h4⟩;have H2:Hid (LnAt w2 b (yu 82 (yg s).2)/\SStp B (fun k=>k=b) w w2):=⟨h3,H1.out.2.trans h4⟩;clear h3 h4;go_wp2_with fail
    go_ret;exact ⟨rfl,H2.out.1,H2.out.2⟩
theorem ZO (a c:List UInt8):((yd a).toList==(yd c).toList)=decide (a=c):=by
  rw [Lib.toList_data,Lib.toList_data,yS,yS]
  by_cases h:a=c
  · rw [h];simp
  · simp [h]
theorem KN {B b:Nat} {s:Ls} (x:List UInt8) (w:World) (h:LnAt w b s) (hB:B<=b):Calls Tryz.prog 130 #[.pointer (some ⟨b,0,none⟩),.string (yd x)] w (LO B b (.tuple #[]) (xy x s) w):=by
  have HT:Hid (Calls Tryz.prog 127 #[.pointer (some ⟨b,0,none⟩)] w (LO B b (.string (yd (ye s).1)) (ye s).2 w)):=zQ w h hB;have HF:Hid (∀ w',LnAt w' b (ye s).2->Calls Tryz.prog 131 #[.pointer (some ⟨b,0,none⟩),.int .i64 80] w' (LO B b (.tuple #[]) (yu 80 (ye s).2) w')):=fun w' h'=>xz 80 w' h' hB
  have hq:=ZO (ye s).1 x;unfold xy
  by_cases hk:(ye s).1=x
  · rw [decide_eq_true hk] at hq
    rw [if_pos hk];clear h hk;go_enter Tryz.func130,Tryz.ntmps130;go_wp2_with fail
    refine cA HT.out ?_;rintro e w1 ⟨rfl,h1,h2⟩;have H1:Hid (LnAt w1 b (ye s).2/\SStp B (fun k=>k=b) w w1):=⟨h1,h2⟩;clear h1 h2;go_wp2_with fail
    go_end0;exact ⟨rfl,H1.out.1,H1.out.2⟩
  · rw [decide_eq_false hk] at hq
    rw [if_neg hk];clear h hk;go_enter Tryz.func130,Tryz.ntmps130;go_wp2_with fail
    refine cA HT.out ?_;rintro e w1 ⟨rfl,h1,h2⟩;have H1:Hid (LnAt w1 b (ye s).2/\SStp B (fun k=>k=b) w w1):=⟨h1,h2⟩;clear h1 h2;go_wp2_with fail
    refine cA (HF.out w1 H1.out.1) ?_;rintro e w2 ⟨rfl,h3,h4⟩;have H2:Hid (LnAt w2 b (yu 80 (ye s).2)/\SStp B (fun k=>k=b) w w2):=⟨h3,H1.out.2.trans h4⟩;clear h3 h4;go_wp2_with fail
    go_end0;exact ⟨rfl,H2.out.1,H2.out.2⟩
theorem y5x {B b:Nat} {s:Ls} (w:World) (h:LnAt w b s) (hB:B<=b):Calls Tryz.prog 81 #[.pointer (some ⟨b,0,none⟩)] w (LO B b (.tuple #[]) (endP s) w):=by
  have HT:Hid (Calls Tryz.prog 149 #[.pointer (some ⟨b,0,none⟩)] w (LO B b (.tuple #[.string (yd (yg s).1.1),.bool (yg s).1.2]) (yg s).2 w)):=xY w h hB;have HF:Hid (∀ w',LnAt w' b (yg s).2->Calls Tryz.prog 131 #[.pointer (some ⟨b,0,none⟩),.int .i64 80] w' (LO B b (.tuple #[]) (yu 80 (yg s).2) w')):=fun w' h'=>xz 80 w' h' hB
  unfold endP
  cases hk:(yg s).1.2 with
  | false =>
    rw [hk] at HT;simp only [Bool.false_eq_true,if_false];clear h;go_enter Tryz.func81,Tryz.ntmps81;go_wp2_with fail
    refine cA HT.out ?_;rintro e w1 ⟨rfl,h1,h2⟩;have H1:Hid (LnAt w1 b (yg s).2/\SStp B (fun k=>k=b) w w1):=⟨h1,h2⟩;clear h1 h2;go_wp2_with fail
    go_end0;exact ⟨rfl,H1.out.1,H1.out.2⟩
  | true =>
    rw [hk] at HT;simp only [if_true];clear h;go_enter Tryz.func81,Tryz.ntmps81;go_wp2_with fail
    refine cA HT.out ?_;rintro e w1 ⟨rfl,h1,h2⟩;have H1:Hid (LnAt w1 b (yg s).2/\SStp B (fun k=>k=b) w w1):=⟨h1,h2⟩;clear h1 h2;go_wp2_with fail
    refine cA (HF.out w1 H1.out.1) ?_;rintro e w2 ⟨rfl,h3,h4⟩;have H2:Hid (LnAt w2 b (yu 80 (yg s).2)/\SStp B (fun k=>k=b) w w2):=⟨h3,H1.out.2.trans h4⟩;clear h3 h4;go_wp2_with fail
    go_end0;exact ⟨rfl,H2.out.1,H2.out.2⟩
end Go.Proofs.YtjgghimjnbjlbaaGreatDoor
