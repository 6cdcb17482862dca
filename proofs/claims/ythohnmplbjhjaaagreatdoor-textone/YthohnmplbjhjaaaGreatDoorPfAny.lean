import Derived.Test.YthohnmplbjhjaaaGreatDoorPfRune
import Derived.Test.YthohnmplbjhjaaaGreatDoorJ14
import Derived.Lib.OthersKept
namespace Go.Proofs.YthohnmplbjhjaaaGreatDoor
open Go.RowKit
set_option maxRecDepth 10000
set_option maxHeartbeats 2000000
theorem Qc:∀ (j:Nat) b,(blS.data.toList[j]?=some b)->b.toNat<128:=by
 intro j b h
 match j with
 | 0=>cases h;decide
 | 1=>cases h;decide
 | j+2=>cases h
theorem Qd (w:World):(zeroValue 178).run Tryz.prog w=.ok (.agg (Array.replicate 256 (.bool false))) w:=by kernel_rfl
theorem Qe {x:UInt8} (h:128<=x.toNat):blS.data.toList.contains x=false:=by
 have h1:x≠32:=fun e=>by rw [e] at h;exact absurd h (by decide)
 have h2:x≠9:=fun e=>by rw [e] at h;exact absurd h (by decide)
 show [32,9].contains x=false
 simp [h1,h2]
theorem Qf {s:ByteArray} {i:Nat} (h:Lib.NoAny s.data.toList blS.data.toList i) (hi:i<s.size) (ha:128<=(s[i]'hi).toNat):∀ n,n<=(Utf8.decode s i).2->Lib.NoAny s.data.toList blS.data.toList (i+n)/\(i+n<=s.size)
  | 0,_=>⟨h,Nat.le_of_lt hi⟩
  | 1,_=>⟨h.succ (Yt s hi) (Qe ha),hi⟩
  | n + 2, hn => by
    obtain ⟨h1,h2⟩:=Qf h hi ha (n+1) (by omega)
    obtain ⟨h3,h4⟩:=y1V s i (n+1) (by omega) (by omega)
    have h5:s.get! (i+(n+1))=s[i+(n+1)]:=by
      have:=get_at s (i+(n+1)) h3
      simpa using this
    rw [h5] at h4
    exact ⟨h1.succ (Yt s h3) (Qe h4),h3⟩
theorem y1W (s:ByteArray) (w:World) (h8:s.size<=8):Calls Tryz.prog 107 #[.string s,.string blS] w fun e w'=>e=.returned (.int .i64 (Lib.indexAny s.data.toList blS.data.toList))/\Below w.heap.size w w':=by
  have h8z:decide ((8:Int)<(s.size:Int))=false:=decide_eq_false (by omega)
  have hb2:blS.size=2:=rfl
  have HU:Hid (Calls Tryz.prog 146 #[.int .i64 (s.size:Int)] w fun e w'=>e=.returned (.bool false)/\w'=w):=by
    clear hb2
    go_enter Tryz.func146,Tryz.ntmps146
    go_wp2
    go_ret
    exact ⟨rfl,rfl⟩
  obtain ⟨c,hc⟩:∃ c,blS=c:=⟨_,rfl⟩
  have hemp:c.toList.isEmpty=false:=by rw [<-hc,Lib.toList_data];rfl
  have hn1:((c.size:Int)==1)=false:=by rw [<-hc];rfl
  have HR:Hid (∀ (r:Int) w',128<=r->r<=2147483647->Calls Tryz.prog 145 #[.string c,.int .i32 r] w' fun e w2=>e=.returned (.int .i64 (-1))/\Below w'.heap.size w' w2):=by rw [<-hc];exact fun r w' h1 h2=>y1X r w' h1 h2
  have HN:Hid (∀ i n,Lib.NoAny s.data.toList blS.data.toList i->∀ (hi:i<s.size),128<=(s[i]'hi).toNat->n<=(Utf8.decode s i).2->Lib.NoAny s.data.toList blS.data.toList (i+n)/\(i+n<=s.size)):=fun i n h hi ha hn=>Qf h hi ha n hn
  rw [hc] at HN ⊢
  have Hc:Hid (blS=c):=hc
  clear hc hb2 h8z
  go_enter Tryz.func107,Tryz.ntmps107
  go_wp2_with fail
  refine cZ HU.out ?_
  rintro e w' ⟨rfl,hww⟩
  rw [hww]
  clear hww
  go_wp2_with fail
  go_loopg [9,10] s.size (fun g _ _ wx=>∃ i:Nat,i+g=s.size/\Hid (Lib.NoAny s.data.toList c.data.toList i)/\Hid (Below w.heap.size w wx)/\Hid (wx.heap[w.heap.size]?=some (.stringIter s i)))
  case atStart=>exact ⟨0,by omega,Lib.NoAny.zero _ _,(Below.refl _ _).alloc (Nat.le_refl _) _,heap_alloc_new w _⟩
  case round=>
    obtain ⟨i,hig,Hno,HB,HI⟩:=hrel
    cases gk with
    | zero =>
      have hnx:=fun ty=>Lib.run_next_end_at (P:=Tryz.prog) wr w.heap.size s i ty HI.out (by omega)
      go_wp2
      go_ret
      exact ⟨yB (by
        have h1:=Hno.out
        have h2:i=s.data.toList.length:=by have h3:s.data.toList.length=s.size:=(by simp);omega
        rw [h2] at h1
        rw [Lib.indexAny_none h1]),HB.out⟩
    | succ g =>
      have hi:i<s.size:=by omega
      obtain ⟨x,hx⟩:∃ x:UInt8,s[i]'hi=x:=⟨_,rfl⟩
      have Hx:Hid (s.data.toList[i]?=some x):=by show _=_;rw [<-hx];exact Yt s hi
      by_cases ha:x.toNat<128
      · have hnx:=fun ty=>Lib.run_next_ascii_at (P:=Tryz.prog) wr w.heap.size s i ty HI.out hi (by rw [hx];exact ha)
        rw [hx] at hnx
        obtain ⟨X,hX⟩:∃ X,wr.iterAt w.heap.size s (i+1)=X:=⟨_,rfl⟩
        have HX:Hid (Below w.heap.size w X/\X.heap[w.heap.size]?=some (.stringIter s (i+1))):=by
          show _/\_
          rw [<-hX]
          exact ⟨Lib.below_iterAt HB.out (Nat.le_refl _) s (i+1),Lib.iterAt_heap wr _ s i _ HI.out⟩
        rw [hX] at hnx
        have HR2:Hid (Calls Tryz.prog 145 #[.string c,.int .i32 (x.toNat:Int)] X fun e w'=>e=.returned (.int .i64 (Lib.indexByte c.data.toList x))/\w'=X):=by
          have h1:=Tryz.strings_IndexRune_ascii c (x.toNat:Int) X (by omega) (by omega)
          have h2:((x.toNat:Int)).toNat.toUInt8=x:=by simp
          rw [h2] at h1
          exact h1
        have hcon:=Lib.contains_iff_indexByte c.data.toList x
        clear hx hX
        cases hin:c.data.toList.contains x with
        | false =>
          rw [hin] at hcon
          have hlt:¬ ((0:Int)<=Lib.indexByte c.data.toList x):=of_decide_eq_false hcon.symm
          clear hcon
          go_wp2_with fail
          refine cZ HR2.out ?_
          rintro e w' ⟨rfl,hww⟩
          rw [hww]
          clear hww
          go_wp2_with fail
          go_roundg g
          case measure=>omega
          case rel=>exact ⟨i+1,by omega,Hno.out.succ Hx.out hin,HX.out.1,HX.out.2⟩
        | true =>
          rw [hin] at hcon
          have hge:(0:Int)<=Lib.indexByte c.data.toList x:=of_decide_eq_true hcon.symm
          clear hcon
          go_wp2_with fail
          refine cZ HR2.out ?_
          rintro e w' ⟨rfl,hww⟩
          rw [hww]
          clear hww
          go_wp2_with fail
          go_ret
          exact ⟨yB (by rw [Lib.indexAny_hit Hno.out Hx.out hin]),HX.out.1⟩
      · have ha':128<=(s[i]'hi).toNat:=by rw [hx];omega
        have hd:=decode_high s i hi ha'
        have hd2:=decode_le s i
        have hnx:=fun ty=>Lib.run_next_any_at (P:=Tryz.prog) wr w.heap.size s i ty HI.out hi
        obtain ⟨hq1,hq2⟩:=HN.out i _ Hno.out hi ha' (Nat.le_refl _)
        obtain ⟨r,hr⟩:∃ r,(Utf8.decode s i).1=r:=⟨_,rfl⟩
        obtain ⟨n,hn⟩:∃ n,(Utf8.decode s i).2=n:=⟨_,rfl⟩
        rw [hr,hn] at hnx
        rw [hn] at hq1 hq2 hd
        rw [hr] at hd hd2
        obtain ⟨X,hX⟩:∃ X,wr.iterAt w.heap.size s (i+n)=X:=⟨_,rfl⟩
        have HX:Hid (Below w.heap.size w X/\X.heap[w.heap.size]?=some (.stringIter s (i+n))):=by
          show _/\_
          rw [<-hX]
          exact ⟨Lib.below_iterAt HB.out (Nat.le_refl _) s (i+n),Lib.iterAt_heap wr _ s i _ HI.out⟩
        rw [hX] at hnx
        have HR2:Hid (Calls Tryz.prog 145 #[.string c,.int .i32 (r:Int)] X fun e w'=>e=.returned (.int .i64 (-1))/\Below X.heap.size X w'):=HR.out (r:Int) X (by omega) (by omega)
        have Hq:Hid (Lib.NoAny s.data.toList c.data.toList (i+n)):=hq1
        clear hx hX hr hn ha ha' hq1
        go_wp2_with fail
        refine cZ HR2.out ?_
        rintro e w' ⟨rfl,hbw⟩
        have HBw:Hid (Below w.heap.size w w'/\w'.heap[w.heap.size]?=some (.stringIter s (i+n))):=⟨yi HX.out.1 hbw,(hbw.block _ (Array.getElem?_eq_some_iff.1 HX.out.2).1).trans HX.out.2⟩
        clear hbw
        go_wp2_with fail
        go_roundg (s.size-(i+n))
        case measure=>omega
        case rel=>exact ⟨i+n,by omega,Hq.out,HBw.out.1,HBw.out.2⟩
theorem Qg (x:UInt8):blS.data.toList.contains x=blk x:=by
 show [32,9].contains x=blk x
 simp only [blk,List.contains_cons,List.contains_nil,Bool.or_false]
theorem y1Y (c:UInt8) (l:List UInt8):Lib.indexAny (c :: l) blS.data.toList=if blk c=true then 0 else if Lib.indexAny l blS.data.toList=-1 then -1 else Lib.indexAny l blS.data.toList+1:=by
 show (if blS.data.toList.contains c=true then (0:Int) else if (Lib.indexAny l blS.data.toList==-1)=true then -1 else Lib.indexAny l blS.data.toList+1)=_
 rw [Qg]
 simp only [beq_iff_eq]
theorem Qh:∀ l:List UInt8,Lib.indexAny l blS.data.toList=if wlen l<l.length then (wlen l:Int) else -1
  | []=>rfl
  | c :: l => by
    have ih:=Qh l
    have hle:=Zf l
    rw [y1Y,List.length_cons]
    cases h:blk c with
    | true =>
      have h1:wlen (c :: l)=0:=by unfold wlen;rw [List.takeWhile_cons_of_neg (by simp [h])];rfl
      rw [h1,if_pos rfl,if_pos (by omega)]
      rfl
    | false =>
      have h2:wlen (c :: l)=wlen l+1:=by unfold wlen;rw [List.takeWhile_cons_of_pos (by simp [h])];rfl
      rw [h2,if_neg (by decide)]
      by_cases h3:wlen l<l.length
      · rw [if_pos h3] at ih
        rw [ih,if_neg (by omega),if_pos (by omega)]
        omega
      · rw [if_neg h3] at ih
        rw [ih,if_pos rfl,if_neg (by omega)]
theorem Qi (s:ByteArray) (w:World) (hs:s.size<=9000000):Calls Tryz.prog 107 #[.string s,.string blS] w fun e w'=>e=.returned (.int .i64 (if wlen s.data.toList<s.size then (wlen s.data.toList:Int) else -1))/\Below w.heap.size w w':=by
 have hz:s.data.toList.length=s.size:=by simp
 rw [<-hz,<-Qh]
 by_cases h8:s.size<=8
 ·exact y1W s w h8
 ·refine (Tryz.strings_IndexAny_long Qd s blS w (by decide) (by omega) (by omega) (by decide) Qc).mono fun e w' ⟨h1,h2⟩=>⟨h1,?_⟩
  rw [h2]
  exact ((Below.refl _ _).alloc (Nat.le_refl _) _).alloc (by simp) _
theorem y1Z (w:World):Zg (w.alloc (.cells (Lib.setCells blS.data.toList) 178)) w.heap.size:=fun x=>by
 rw [World.cell?_alloc_at _ _ _ _ rfl,Lib.setCells_at,Qg]
theorem y20 (w:World):(storeCells ⟨w.heap.size,0,none⟩ (Lib.setCells blS.data.toList).toList 0).run Tryz.prog (w.alloc (.cells Tryz.zeroCells178 178))=.ok () (w.alloc (.cells (Lib.setCells blS.data.toList) 178)):=by
 have e:Tryz.zeroCells178=Array.replicate 256 (.bool false):=by kernel_rfl
 rw [e]
 have:=run_storeCells_new (P:=Tryz.prog) w 178 (Array.replicate 256 (.bool false)) (Lib.setCells blS.data.toList) (by rw [Lib.setCells_size];kernel_rfl) (by rw [Lib.setCells_size,Array.size_replicate]) (Lib.setCells_one _)
 simpa using this
theorem Qj (s:ByteArray) (w:World):Calls Tryz.prog 106 #[.string s,.string blS] w fun e w'=>e=.returned (.string (yc (s.data.toList.dropWhile blk)))/\Below w.heap.size w w':=by
 by_cases h0:s.size=0
 ·have hz:s.data.toList=[]:=List.eq_nil_of_length_eq_zero (by have h2:s.data.toList.length=s.size:=(by simp);omega)
  have hem:s.toList.isEmpty=true:=by rw [Lib.toList_data,hz];rfl
  have HR:Hid (s=yc (s.data.toList.dropWhile blk)):=by show s=_;rw [hz,List.dropWhile_nil,<-hz,Ya]
  clear hz
  go_enter Tryz.func106,Tryz.ntmps106
  go_wp2_with fail
  go_ret
  exact ⟨ZZ HR.out,Below.refl _ _⟩
 ·have hem:s.toList.isEmpty=false:=by
   rw [Lib.toList_data]
   cases h:s.data.toList with
   | nil=>have h2:s.data.toList.length=s.size:=(by simp);rw [h] at h2;simp at h2;omega
   | cons _ _=>rfl
  obtain ⟨X,hX⟩:∃ X,(w.alloc (.cells (Lib.setCells blS.data.toList) 178))=X:=⟨_,rfl⟩
  have HM:Hid (Calls Tryz.prog 142 #[.string blS] w fun e w'=>e=.returned (.tuple #[.agg (Lib.setCells blS.data.toList),.bool true])/\w'=X):=by rw [<-hX];exact Tryz.strings_makeASCIISet Qd blS w (by decide) Qc
  have hbX:Below w.heap.size w X:=by rw [<-hX];exact (Below.refl _ _).alloc (Nat.le_refl _) _
  obtain ⟨Y,hY⟩:∃ Y,(X.alloc (.cells (Lib.setCells blS.data.toList) 178))=Y:=⟨_,rfl⟩
  have hst:=y20 X
  rw [hY] at hst
  have hSY:Zg Y X.heap.size:=by rw [<-hY];exact y1Z X
  have HY:Hid (Below w.heap.size w Y):=by show Below _ _ _;rw [<-hY];exact hbX.alloc hbX.size _
  have HT:Hid (Calls Tryz.prog 143 #[.string s,.pointer (some ⟨X.heap.size,0,none⟩)] Y fun e w'=>e=.returned (.string (yc (s.data.toList.dropWhile blk)))/\w'=Y):=y21 X.heap.size s Y hSY
  obtain ⟨A,hA⟩:∃ A,Lib.setCells blS.data.toList=A:=⟨_,rfl⟩
  rw [hA] at hst HM
  have hsz:A.size=256:=by rw [<-hA];exact Lib.setCells_size _
  obtain ⟨c,hc⟩:∃ c,blS=c:=⟨_,rfl⟩
  have hemp:c.toList.isEmpty=false:=by rw [<-hc,Lib.toList_data];rfl
  have hn1:((c.size:Int)==1)=false:=by rw [<-hc];rfl
  rw [hc] at HM
  rw [hc]
  clear hX hbX hY hSY hA hc
  go_enter Tryz.func106,Tryz.ntmps106
  go_wp2_with fail
  refine cZ HM.out ?_
  rintro e w' ⟨rfl,hww⟩
  rw [hww]
  clear hww
  go_wp2_with fail
  refine cZ HT.out ?_
  rintro e w' ⟨rfl,hww⟩
  rw [hww]
  clear hww
  go_wp2_with fail
  go_ret
  exact ⟨rfl,HY.out⟩
end Go.Proofs.YthohnmplbjhjaaaGreatDoor
