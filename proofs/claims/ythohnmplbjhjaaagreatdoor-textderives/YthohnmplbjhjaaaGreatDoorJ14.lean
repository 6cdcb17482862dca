/-
  Put together: PfBase, PfTrim.
-/
import Derived.Test.YthohnmplbjhjaaaGreatDoorJ08
import Derived.Test.YthohnmplbjhjaaaGreatDoorJ05
import Derived.Laws.Rows
import Derived.Laws.Tables
import Derived.Deep.RegionHeld3
namespace Go.Proofs.YthohnmplbjhjaaaGreatDoor
open Go.RowKit
theorem ZR {a b:ByteArray} (h:a=b):Ending.returned (.string a)=.returned (.string b):=by rw [h]
theorem yj {W a b:World} (h:Below W.heap.size W a) (h2:Below a.heap.size a b):Below W.heap.size W b:=h.trans (h2.mono h.size)
theorem yd {w:World} {g:Nat} {cur:Array Value} {t:TypeId} (h:w.heap[g]?=some (.cells cur t (0,0))) (i:Nat):w.cell? ⟨g,i,none⟩=cur[i]?:=by simp [World.cell?,h]
theorem yt {w:World} {g:Nat} {cur:Array Value} {t:TypeId} (h:w.heap[g]?=some (.cells cur t (0,0))) (i:Nat):w.frozen? ⟨g,i,none⟩=false:=by simp [World.frozen?,h]
theorem yC {w:World} {g:Nat} {cur:Array Value} {t:TypeId} (h:w.heap[g]?=some (.cells cur t (0,0))) (i:Nat) (v:Value):(w.setCell ⟨g,i,none⟩ v).heap[g]?=some (.cells (cur.setIfInBounds i v) t (0,0)):=by simp [World.setCell,Array.getElem?_modify,h]
theorem zI (l:List UInt8):(yc l).size=l.length:=by simp [yc,ByteArray.size]
theorem zz (l:List UInt8):(yc l).data.toList=l:=by simp [yc]
theorem Y8 (s:ByteArray):yc s.data.toList=s:=by cases s;simp [yc]
theorem Qe (s:ByteArray) (f i:Nat):s.extract f i=yc ((s.data.toList.drop f).take (i-f)):=by
 unfold yc
 apply ByteArray.ext
 apply Array.ext'
 simp
theorem Ys (l:List UInt8) (f i:Nat):(yc l).extract f i=yc ((l.drop f).take (i-f)):=by rw [Qe,zz]
def blS:ByteArray:=⟨#[32,9]⟩
end Go.Proofs.YthohnmplbjhjaaaGreatDoor

namespace Go.Proofs.YthohnmplbjhjaaaGreatDoor
open Go.RowKit
set_option maxHeartbeats 1000000
set_option maxRecDepth 10000
def Qf (v:Value):Nat:=match v with
 | .string t=>t.size
 | _=>0
def Zc (w:World) (b:Nat):Prop:=∀ x:UInt8,w.cell? ⟨b,x.toNat,none⟩=some (.bool (blk x))
theorem y23 (b:Nat) (x:UInt8) (w:World) (h:Zc w b):Calls Tryz.prog 147 #[.pointer (some ⟨b,0,none⟩),.int .u8 x.toNat] w fun e w'=>e=.returned (.bool (blk x))/\w'=w:=by
 have hc:=h x
 have hx:(x.toNat:Int)<256:=by have:=x.toNat_lt;omega
 clear h
 go_enter Tryz.func147,Tryz.ntmps147
 go_wp2
 go_ret
 exact ⟨rfl,rfl⟩
theorem Yr (t:ByteArray) {i:Nat} (h:i<t.size):t.data.toList[i]?=some t[i]:=by
 have h':i<t.data.toList.length:=by simpa using h
 rw [List.getElem?_eq_getElem h']
 rfl
theorem y24 (t:ByteArray) (h:0<t.size):∃ c l,t.data.toList=c :: l/\t[0]=c/\(t.extract 1 t.size).data.toList=l:=by
  have h0:=Yr t h
  cases hl:t.data.toList with
  | nil=>rw [hl] at h0;cases h0
  | cons c l =>
    rw [hl] at h0
    refine ⟨c,l,rfl,(by simpa using h0.symm),?_⟩
    rw [Qe,zz,hl]
    have:t.size=l.length+1:=by have:=congrArg List.length hl;simpa using this
    simp [this]
theorem y1Y (b:Nat) (s:ByteArray) (w:World) (h:Zc w b):Calls Tryz.prog 143 #[.string s,.pointer (some ⟨b,0,none⟩)] w fun e w'=>e=.returned (.string (yc (s.data.toList.dropWhile blk)))/\w'=w:=by
  have HC:Hid (∀ x:UInt8,Calls Tryz.prog 147 #[.pointer (some ⟨b,0,none⟩),.int .u8 x.toNat] w fun e w'=>e=.returned (.bool (blk x))/\w'=w):=fun x=>y23 b x w h
  clear h
  go_enter Tryz.func143,Tryz.ntmps143
  go_wp2_with fail
  go_loopw [0] (fun sv wr=>∃ t:ByteArray,sv=.string t/\Hid (s.data.toList.dropWhile blk=t.data.toList.dropWhile blk)/\w=wr) (fun sv _=>Qf sv)
  case atStart=>exact ⟨s,rfl,rfl,rfl⟩
  case round=>
    obtain ⟨t,rfl,HT,rfl⟩:=hrel
    by_cases h0:0<t.size
    · have h0I:(0:Int)<(t.size:Int):=by omega
      have h1I:(1:Int)<=(t.size:Int):=by omega
      obtain ⟨c,l,e1,e2,e3⟩:=y24 t h0
      obtain ⟨t',ht'⟩:∃ t',t.extract 1 t.size=t':=⟨_,rfl⟩
      have hsz:t'.size+1=t.size:=by
        have h1:=congrArg List.length e1
        have h2:=congrArg List.length e3
        rw [ht'] at h2
        simp at h1 h2
        omega
      have HE:Hid (t.data.toList=c :: l/\t'.data.toList=l/\t'.size+1=t.size):=⟨e1,by rw [<-ht'];exact e3,hsz⟩
      have HC2:Hid (Calls Tryz.prog 147 #[.pointer (some ⟨b,0,none⟩),.int .u8 c.toNat] w fun e w'=>e=.returned (.bool (blk c))/\w'=w):=HC.out c
      clear e1 e3 hsz
      cases hb:blk c with
      | true =>
        rw [hb] at HC2
        go_wp2_with fail
        refine cZ HC2.out ?_
        rintro e w' ⟨rfl,hww⟩
        rw [hww]
        clear hww
        go_wp2_with fail
        go_roundw
        case rel=>exact ⟨t',rfl,by
          have h1:=HT.out
          rw [HE.out.1,List.dropWhile_cons_of_pos hb] at h1
          rw [HE.out.2.1]
          exact h1,by first | rfl | trivial⟩
        case measure=>(have:=HE.out.2.2;simp only [Qf];omega)
      | false =>
        rw [hb] at HC2
        go_wp2_with fail
        refine cZ HC2.out ?_
        rintro e w' ⟨rfl,hww⟩
        rw [hww]
        clear hww
        go_wp2_with fail
        go_ret
        exact ⟨ZR (by rw [HT.out,HE.out.1,List.dropWhile_cons_of_neg (by simp [hb]),<-HE.out.1,Y8]),rfl⟩
    · have h0I:¬ (0:Int)<(t.size:Int):=by omega
      have hz:t.data.toList=[]:=List.eq_nil_of_length_eq_zero (by have h2:t.data.toList.length=t.size:=(by simp);omega)
      go_wp2_with fail
      go_ret
      exact ⟨ZR (by rw [HT.out,hz,List.dropWhile_nil,<-hz,Y8]),rfl⟩
end Go.Proofs.YthohnmplbjhjaaaGreatDoor
