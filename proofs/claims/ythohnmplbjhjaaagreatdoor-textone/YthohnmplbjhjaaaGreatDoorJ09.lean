/-
  Put together: TpLists, TpRows.
-/
import Derived.Test.YthohnmplbjhjaaaGreatDoorTpPage
import Derived.Test.YthohnmplbjhjaaaGreatDoorJ08
import Derived.Test.YthohnmplbjhjaaaGreatDoorShelf
import Derived.Test.YthohnmplbjhjaaaGreatDoorJ07
namespace Go.Proofs.YthohnmplbjhjaaaGreatDoor
open Go Go.RowKit
set_option maxHeartbeats 1000000
theorem gPow : ∃ g, Tryz.prog.globalNamed "internal/strconv.uint64pow10" = some g ∧ g < 5 := ⟨4, by kernel_rfl, by decide⟩
theorem y3o (w:World) (q:Nat) (os:Array Obj):Below w.heap.size w (Sort.grow (w.drewN q) os):=
 ⟨rfl,rfl,rfl,by simp [Sort.grow],fun i hi=>by
  show ((w.drewN q).heap++os)[i]?=_
  rw [Array.getElem?_append_left (by show i<w.heap.size;omega)]
  rfl⟩
structure Way (w0 w:World):Prop where
 low:Below w0.heap.size w0 w
 tab : Lib.TabIs Tryz.prog w0 "internal/strconv.uint64pow10" .u64 Lib.pow10Tab
 big:5<=w0.heap.size
 mx:∃ m,w0.cell? ⟨1,0,none⟩=some (.int .i64 m)
 opw:w0.cell? ⟨0,1,none⟩=some (.string ⟨#[60,61]⟩)/\w0.cell? ⟨0,2,none⟩=some (.string ⟨#[61]⟩)/\w0.cell? ⟨0,3,none⟩=some (.string ⟨#[62,61]⟩)
theorem Way.opw1 {w0 w:World} (h:Way w0 w):w.cell? ⟨0,1,none⟩=some (.string ⟨#[60,61]⟩):=(h.low.cell (p:=⟨0,1,none⟩) (by have:=h.big;simp only;omega)).trans h.opw.1
theorem Way.opw2 {w0 w:World} (h:Way w0 w):w.cell? ⟨0,2,none⟩=some (.string ⟨#[61]⟩):=(h.low.cell (p:=⟨0,2,none⟩) (by have:=h.big;simp only;omega)).trans h.opw.2.1
theorem Way.opw3 {w0 w:World} (h:Way w0 w):w.cell? ⟨0,3,none⟩=some (.string ⟨#[62,61]⟩):=(h.low.cell (p:=⟨0,3,none⟩) (by have:=h.big;simp only;omega)).trans h.opw.2.2
theorem Way.next {w0 w w':World} (h:Way w0 w) (k:Kq w0.heap.size w w'):Way w0 w':=⟨h.low.trans k.low,h.tab,h.big,h.mx,h.opw⟩
theorem Way.below {w0 w w':World} (h:Way w0 w) (k:Below w.heap.size w w'):Way w0 w':=⟨h.low.trans (k.mono h.low.size),h.tab,h.big,h.mx,h.opw⟩
theorem y3p {w0:World} (n:Int) (w:World) (h1:-9223372036854775808<=n) (h2:n<=9223372036854775807) (ht:Way w0 w) :
  Calls Tryz.prog 129 #[.int .i64 n] w fun e w'=>e=.returned (.string ⟨(Lib.itoa n).toArray⟩)/\Below w.heap.size w w':=by
 obtain ⟨g,hg,hg5⟩:=gPow
 refine (Tryz.strconv_Itoa n h1 h2 w (var?_below ht.low hg (by have:=ht.big;omega) ht.tab)).mono ?_
 rintro e w' ⟨rfl,k,os,rfl⟩
 exact ⟨rfl,y3o _ _ _⟩
theorem zg (s:ByteArray):s.size=s.data.toList.length:=rfl
theorem y3q (l:List UInt8):(⟨l.toArray⟩:ByteArray).size=l.length:=by simp [ByteArray.size]
theorem xg {w0:World} (b:Nat) (va:Value) (l:List UInt8) (vx:Value) (xs:List Int) (w:World) (hw:Way w0 w) (hI:∀ w',Kq w0.heap.size w w'->IntsAt w' vx xs) (hx:∀ x∈xs,-1000000000<=x/\x<=1000000000)
  (h:yf w0.heap.size b va l w) (hl:l.length+22 * xs.length<=900000000) :
  Calls Tryz.prog 78 #[.pointer (some ⟨b,0,none⟩),vx] w fun e w'=>e=.returned (.pointer (some ⟨b,0,none⟩))/\yf w0.heap.size b va (l++Md.numsT xs) w'/\Kq w0.heap.size w w':=by
 obtain ⟨a,cap,rfl,hm,_⟩:=hI w (Kq.refl _ _)
 unfold maxLen at hm
 have HI:Hid (∀ w',Kq w0.heap.size w w'->IntsAt w' (.slice a xs.length cap) xs):=hI
 have HW:Hid (Way w0 w):=hw
 have HX:Hid (∀ x∈xs,-1000000000<=x/\x<=1000000000):=hx
 have HL:Hid (l.length+22 * xs.length<=900000000):=hl
 have H0:Hid (yf w0.heap.size b va (l++Md.numsT (xs.take 0)) w):=by show yf _ _ _ _ _;simpa [Md.numsT] using h
 have HN:Hid (∀ k,(Md.numsT (xs.take k)).length<=22 * xs.length):=fun k=>Md.flatMap_take_len _ 22 xs k (fun x hx=>by have:=Md.itoa_len (HX.out x hx);simpa using this)
 clear hI hw hx hl h
 go_enter Tryz.func78,Tryz.ntmps78
 go_wp2_with fail
 go_loopw [9] (fun iv wr=>∃ k:Nat,iv=.int .i64 (k:Int)/\k<=xs.length/\Hid (yf w0.heap.size b va (l++Md.numsT (xs.take k)) wr)/\Hid (Kq w0.heap.size w wr)) (fun iv _=>xs.length-(intOf iv).toNat)
 case atStart=>exact ⟨0,rfl,Nat.zero_le _,H0,Kq.refl _ _⟩
 case round=>
  obtain ⟨k,rfl,hk,hP,hK⟩:=hrel
  clear H0
  by_cases hlt:k<xs.length
  ·obtain ⟨a',cap',hv,_,hc⟩:=HI.out wr hK.out
   injection hv with e1 _ e3
   subst e3
   subst e1
   obtain ⟨g,off,rfl,hg,hcc⟩:=hc (by omega)
   have hcell:=hcc k hlt
   have hkI:(k:Int)<(xs.length:Int):=by omega
   have hb:=HX.out xs[k] (List.getElem_mem hlt)
   have HR:Hid ((Md.numsT (xs.take (k+1)))=Md.numsT (xs.take k)++32 :: Lib.itoa xs[k]):=Md.flatMap_take _ xs k hlt
   clear hcc hc
   generalize xs[k]=x at *
   have HC:Hid (Calls Tryz.prog 129 #[.int .i64 x] wr fun e w'=>e=.returned (.string ⟨(Lib.itoa x).toArray⟩)/\Below wr.heap.size wr w'):=y3p x wr (by omega) (by omega) (HW.out.next hK.out)
   have HLx:Hid ((Lib.itoa x).length<=21):=Md.itoa_len hb
   have HSz:Hid ((l++Md.numsT (xs.take k)).length+(⟨(Lib.itoa x).toArray⟩:ByteArray).size+1<=1000000000):=by
    have h1:=HN.out k
    have h2:=HL.out
    have h3:=HLx.out
    show _<=_
    rw [List.length_append,y3q]
    omega
   go_wp2_with (first
    | (go_at_call 129;refine cZ HC.out ?_;rintro e w2 ⟨rfl,hb2⟩;have HP2:Hid (yf w0.heap.size b va (l++Md.numsT (xs.take k)) w2):=Zi hP.out hb2;have HK2:Hid (Kq w0.heap.size w w2):=hK.out.trans (Kq.of_below hb2 (HW.out.next hK.out).low.size);clear hb2)
    | (go_at_call 77;refine cZ (xo w0.heap.size b va (l++Md.numsT (xs.take k)) ⟨(Lib.itoa x).toArray⟩ w2 HP2.out HSz.out (HW.out.next HK2.out).low.size) ?_;rintro e w3 ⟨rfl,hp3,hk3⟩;have HP3:Hid (yf w0.heap.size b va (l++Md.numsT (xs.take (k+1))) w3):=(by show yf _ _ _ _ _;rw [HR.out,<-List.append_assoc];exact hp3);have HK3:Hid (Kq w0.heap.size w w3):=HK2.out.trans hk3;clear hp3 hk3))
   go_roundw
   case rel=>exact ⟨k+1,by go_num,by omega,HP3,HK3⟩
   case measure=>simp [intOf];omega
  ·have hkI:¬ (k:Int)<(xs.length:Int):=by omega
   have hP':Hid (yf w0.heap.size b va (l++Md.numsT xs) wr):=by
    have:=hP.out
    rw [List.take_of_length_le (by omega)] at this
    exact this
   go_wp2_with fail
   go_ret
   exact ⟨rfl,hP'.out,hK.out⟩
theorem Yw {vars:List Md.Vr} {x:Int} (h0:0<=x) (h1:x<vars.length):∃ k:Nat,∃ h:k<vars.length,x=(k:Int)/\Md.nm vars x=vars[k].name.data.toList:=by
 refine ⟨x.toNat,by omega,by omega,?_⟩
 unfold Md.nm Md.varAt
 rw [List.getD_eq_getElem?_getD,List.getElem?_eq_getElem (by omega)]
 rfl
theorem y3r {B b:Nat} {va:Value} {l:List UInt8} {w:World} (h:yf B b va l w):w.cell? ⟨b,0,none⟩=some va:=by
 obtain ⟨_,q,v,hb,_⟩:=h
 rw [Lib.cell_of_heap hb];rfl
theorem xq {w0:World} (vars:List Md.Vr) (b:Nat) (va:Value) (l:List UInt8) (vx:Value) (xs:List Int) (w:World) (hV:VarsAt w0 va vars) (hn:∀ v∈vars,v.name.data.toList.length<=16) (hw:Way w0 w) (hI:∀ w',Kq w0.heap.size w w'->IntsAt w' vx xs) (hx:∀ x∈xs,0<=x/\x<vars.length)
  (h:yf w0.heap.size b va l w) (hl:l.length+22 * xs.length<=900000000) :
  Calls Tryz.prog 74 #[.pointer (some ⟨b,0,none⟩),vx] w fun e w'=>e=.returned (.pointer (some ⟨b,0,none⟩))/\yf w0.heap.size b va (l++Md.namesT vars xs) w'/\Kq w0.heap.size w w':=by
 obtain ⟨a,cap,rfl,hm,_⟩:=hI w (Kq.refl _ _)
 obtain ⟨ya,ycap,rfl,hym,_,hyc⟩:=hV
 unfold maxLen at hm hym
 have HV:Hid (0<vars.length->∃ b off,ya=some ⟨b,off,none⟩/\b<w0.heap.size /\
  ∀ j (h:j<vars.length),w0.cell? ⟨b,off+j * 3,none⟩=some (.string vars[j].name)/\w0.cell? ⟨b,off+j * 3+1,none⟩=some (.int .i64 vars[j].lo)/\w0.cell? ⟨b,off+j * 3+2,none⟩=some (.int .i64 vars[j].hi)):=hyc
 have HI:Hid (∀ w',Kq w0.heap.size w w'->IntsAt w' (.slice a xs.length cap) xs):=hI
 have HW:Hid (Way w0 w):=hw
 have HX:Hid (∀ x∈xs,0<=x/\x<(vars.length:Int)):=hx
 have HL:Hid (l.length+22 * xs.length<=900000000):=hl
 have HNm:Hid (∀ v∈vars,v.name.data.toList.length<=16):=hn
 have H0:Hid (yf w0.heap.size b (.slice ya vars.length ycap) (l++Md.namesT vars (xs.take 0)) w):=by show yf _ _ _ _ _;simpa [Md.namesT] using h
 have HN:Hid (∀ k,(Md.namesT vars (xs.take k)).length<=22 * xs.length):=fun k=>Md.flatMap_take_len _ 22 xs k (fun x hx=>by
  obtain ⟨j,hj,_,he⟩:=Yw (HX.out x hx).1 (HX.out x hx).2
  rw [he,List.length_cons]
  have:=HNm.out vars[j] (List.getElem_mem hj)
  omega)
 clear hI hw hx hl h hyc hn
 go_enter Tryz.func74,Tryz.ntmps74
 go_wp2_with fail
 go_loopw [9] (fun iv wr=>∃ k:Nat,iv=.int .i64 (k:Int)/\k<=xs.length/\Hid (yf w0.heap.size b (.slice ya vars.length ycap) (l++Md.namesT vars (xs.take k)) wr)/\Hid (Kq w0.heap.size w wr)) (fun iv _=>xs.length-(intOf iv).toNat)
 case atStart=>exact ⟨0,rfl,Nat.zero_le _,H0,Kq.refl _ _⟩
 case round=>
  obtain ⟨k,rfl,hk,hP,hK⟩:=hrel
  clear H0
  by_cases hlt:k<xs.length
  ·obtain ⟨a',cap',hv,_,hc⟩:=HI.out wr hK.out
   injection hv with e1 _ e3
   subst e3
   subst e1
   obtain ⟨g,off,rfl,hg,hcc⟩:=hc (by omega)
   have hcell:=hcc k hlt
   have hkI:(k:Int)<(xs.length:Int):=by omega
   have HR:Hid ((Md.namesT vars (xs.take (k+1)))=Md.namesT vars (xs.take k)++32 :: Md.nm vars xs[k]):=Md.flatMap_take _ xs k hlt
   obtain ⟨hx0,hx1⟩:=HX.out xs[k] (List.getElem_mem hlt)
   obtain ⟨y,hy,hxy,hnm⟩:=Yw hx0 hx1
   obtain ⟨gv,ov,rfl,hgv,hvc⟩:=HV.out (by omega)
   have hname:=(((HW.out.next hK.out).low.cell (p:=⟨gv,ov+y * 3,none⟩) hgv).trans (hvc y hy).1)
   have hvars:=y3r hP.out
   have HSz:Hid ((l++Md.namesT vars (xs.take k)).length+vars[y].name.size+1<=1000000000):=by
    have h1:=HN.out k
    have h2:=HL.out
    have h3:=HNm.out vars[y] (List.getElem_mem hy)
    show _<=_
    rw [List.length_append]
    have:vars[y].name.size=vars[y].name.data.toList.length:=zg _
    omega
   have HNy:Hid (Md.nm vars xs[k]=vars[y].name.data.toList):=hnm
   rw [hxy] at hcell hx0 hx1
   have HXY:Hid (xs[k]=(y:Int)):=hxy
   clear hcc hc hvc hnm hxy hx0
   obtain ⟨s,hs⟩:∃ s,s=vars[y].name:=⟨_,rfl⟩
   rw [<-hs] at hname HSz HNy
   clear hs
   go_wp2_with (go_at_call 77;refine cZ (xo w0.heap.size b (.slice (some ⟨gv,ov,none⟩) vars.length ycap) (l++Md.namesT vars (xs.take k)) s wr hP.out HSz.out (HW.out.next hK.out).low.size) ?_;rintro e w3 ⟨rfl,hp3,hk3⟩;have HP3:Hid (yf w0.heap.size b (.slice (some ⟨gv,ov,none⟩) vars.length ycap) (l++Md.namesT vars (xs.take (k+1))) w3):=(by show yf _ _ _ _ _;rw [HR.out,HNy.out,<-List.append_assoc];exact hp3);have HK3:Hid (Kq w0.heap.size w w3):=hK.out.trans hk3;clear hp3 hk3)
   go_roundw
   case rel=>exact ⟨k+1,by go_num,by omega,HP3,HK3⟩
   case measure=>simp [intOf];omega
  ·have hkI:¬ (k:Int)<(xs.length:Int):=by omega
   have hP':Hid (yf w0.heap.size b (.slice ya vars.length ycap) (l++Md.namesT vars xs) wr):=by
    have:=hP.out
    rw [List.take_of_length_le (by omega)] at this
    exact this
   go_wp2_with fail
   go_ret
   exact ⟨rfl,hP'.out,hK.out⟩
def Lit (w:World) (X:Nat) (c:Int):Prop:=w.heap[X]?=some (.cells #[.int .i64 c] 3 (0,0))
theorem Yx (w:World) (c:Int):Lit (w.alloc (.cells #[.int .i64 c] 3)) w.heap.size c:=heap_alloc_new w _
theorem Lit.alloc {w:World} {X:Nat} {c:Int} (h:Lit w X c) (o:Obj):Lit (w.alloc o) X c:=(Below.heap_alloc w o X (Array.getElem?_eq_some_iff.1 h).1).trans h
theorem Lit.kq {B:Nat} {w w':World} {X:Nat} {c:Int} (h:Lit w X c) (k:Kq B w w'):Lit w' X c:=k.other X _ 3 _ h (by decide) (by decide)
theorem Lit.kqd {B:Nat} {w w':World} {X:Nat} {c:Int} (h:Lit w X c) (k:Kq B w.drew w'):Lit w' X c:=k.other X _ 3 _ h (by decide) (by decide)
theorem Lit.ints {B:Nat} {w:World} {X:Nat} {c:Int} (h:Lit w X c):∀ w',Kq B w w'->IntsAt w' (.slice (some ⟨X,0,none⟩) 1 1) [c]:=fun w' k=>by
 have h':=h.kq k
 refine ⟨_,1,rfl,by simp [maxLen],fun _=>⟨X,0,rfl,(Array.getElem?_eq_some_iff.1 h').1,fun j hj=>?_⟩⟩
 have:j=0:=by simpa using hj
 subst this
 rw [Lib.cell_of_heap h'];rfl
theorem y3s {w0:World} {b:Nat} {va:Value} {l:List UInt8} {X:Nat} {c:Int} {w:World} (hw:Way w0 w) (hlit:Lit w X c) (hx:-1000000000<=c/\c<=1000000000) (h:yf w0.heap.size b va l w) (hl:l.length+22<=900000000) :
  Calls Tryz.prog 78 #[.pointer (some ⟨b,0,none⟩),.slice (some ⟨X,0,none⟩) 1 1] w fun e w'=>e=.returned (.pointer (some ⟨b,0,none⟩))/\yf w0.heap.size b va (l++32 :: Lib.itoa c) w'/\Kq w0.heap.size w w':=by
 have h1:=xg b va l _ [c] w hw hlit.ints (fun x hx'=>by simp at hx';subst hx';exact hx) h (by simp;omega)
 simpa [Md.numsT] using h1
theorem y3t {w0:World} {vars:List Md.Vr} {b:Nat} {va:Value} {l:List UInt8} {X:Nat} {c:Int} {w:World} (hV:VarsAt w0 va vars) (hn:∀ v∈vars,v.name.data.toList.length<=16) (hw:Way w0 w) (hlit:Lit w X c) (hx:0<=c/\c<vars.length) (h:yf w0.heap.size b va l w) (hl:l.length+22<=900000000) :
  Calls Tryz.prog 74 #[.pointer (some ⟨b,0,none⟩),.slice (some ⟨X,0,none⟩) 1 1] w fun e w'=>e=.returned (.pointer (some ⟨b,0,none⟩))/\yf w0.heap.size b va (l++32 :: Md.nm vars c) w'/\Kq w0.heap.size w w':=by
 have h1:=xq vars b va l _ [c] w hV hn hw hlit.ints (fun x hx'=>by simp at hx';subst hx';exact hx) h (by simp;omega)
 simpa [Md.namesT] using h1
def Two (w0 w:World) (T:TypeId) (N:Nat) (u v:Value) (w':World):Prop:=w'.heap[N]?=some (.cells #[u,v] T (0,0))/\Kq w0.heap.size w w'/\w0.heap.size<=w.heap.size
theorem Two.cells {w0 w:World} {T:TypeId} {N:Nat} {u v:Value} {w':World} (h:Two w0 w T N u v w'):w'.cell? ⟨N,0,none⟩=some u/\w'.cell? ⟨N,1,none⟩=some v/\Two w0 w T N u v w':=by
 refine ⟨?_,?_,h⟩ <;> (rw [Lib.cell_of_heap h.1];rfl)
theorem Two.alloc {w0 w:World} {T:TypeId} {N:Nat} {u v:Value} {w':World} (h:Two w0 w T N u v w') (o:Obj):Two w0 w T N u v (w'.alloc o):=
 ⟨(Below.heap_alloc w' o N (Array.getElem?_eq_some_iff.1 h.1).1).trans h.1,h.2.1.trans (Kq.of_below ((Below.refl _ _).alloc (Nat.le_refl _) _) (Nat.le_trans h.2.2 h.2.1.low.size)),h.2.2⟩
theorem Two.kq {w0 w:World} {T:TypeId} {N:Nat} {u v:Value} {w' w2:World} (h:Two w0 w T N u v w') (k:Kq w0.heap.size w' w2) (h5:T≠5:=by decide) (h8:T≠71:=by decide):Two w0 w T N u v w2:=
 ⟨k.other N _ T _ h.1 h5 h8,h.2.1.trans k,h.2.2⟩
theorem Qx (w:World) (o:Obj) (c:Int):Lit ((w.alloc o).alloc (.cells #[.int .i64 c] 3)) (w.heap.size+1) c:=by
 have h:=Yx (w.alloc o) c
 have e:(w.alloc o).heap.size=w.heap.size+1:=by simp
 rw [e] at h
 exact h
theorem Two.kept {w0 w:World} {T:TypeId} {N:Nat} {u v:Value} {w':World} {A B:Prop} (h:A/\B/\Two w0 w T N u v w'):Kq w0.heap.size w w':=h.2.2.2.1
theorem Kq.drew {B:Nat} {w w':World} (h:Kq B w w'):Kq B w w'.drew:=⟨h.low.drew,h.other⟩
theorem yj {B b:Nat} {va:Value} {l:List UInt8} {w:World} (h:yf B b va l w) (o:Obj):yf B b va l (w.alloc o):=Zi h ((Below.refl _ _).alloc (Nat.le_refl _) _)
theorem zU {B b:Nat} {va:Value} {l:List UInt8} {w:World} (h:yf B b va l w):yf B b va l w.drew:=h
theorem Yb {B:Nat} {w w':World} (h:Kq B w w') (hB:B<=w.heap.size) (o:Obj):Kq B w (w'.alloc o):=h.trans (Kq.of_below ((Below.refl _ _).alloc (Nat.le_refl _) _) (Nat.le_trans hB h.low.size))
theorem YS {w0:World} (vars:List Md.Vr) (b:Nat) (va:Value) (l:List UInt8) (vt:Value) (ts:List (Int × Int)) (w:World) (hV:VarsAt w0 va vars) (hn:∀ v∈vars,v.name.data.toList.length<=16) (hw:Way w0 w) (hI:TermsAt w0 vt ts) (hx:∀ t∈ts,0<=t.2/\t.2<vars.length) (hc:∀ t∈ts,-1000000<=t.1/\t.1<=1000000)
  (h:yf w0.heap.size b va l w) (hl:l.length+44 * ts.length<=800000000) :
  Calls Tryz.prog 84 #[.pointer (some ⟨b,0,none⟩),vt] w fun e w'=>e=.returned (.tuple #[])/\yf w0.heap.size b va (l++Md.sumT vars ts) w'/\Kq w0.heap.size w w':=by
 obtain ⟨a,cap,rfl,hm,hcells⟩:=hI
 unfold maxLen at hm
 have HT:Hid (0<ts.length->∃ b off,a=some ⟨b,off,none⟩/\b<w0.heap.size/\∀ j (h:j<ts.length),w0.cell? ⟨b,off+j * 2,none⟩=some (.int .i64 ts[j].1)/\w0.cell? ⟨b,off+j * 2+1,none⟩=some (.int .i64 ts[j].2)):=hcells
 have HV:Hid (VarsAt w0 va vars):=hV
 have HW:Hid (Way w0 w):=hw
 have HX:Hid (∀ t∈ts,0<=t.2/\t.2<(vars.length:Int)):=hx
 have HC:Hid (∀ t∈ts,-1000000<=t.1/\t.1<=1000000):=hc
 have HL:Hid (l.length+44 * ts.length<=800000000):=hl
 have HNm:Hid (∀ v∈vars,v.name.data.toList.length<=16):=hn
 have H0:Hid (yf w0.heap.size b va (l++Md.sumT vars (ts.take 0)) w):=by show yf _ _ _ _ _;simpa [Md.sumT] using h
 have HN:Hid (∀ k,(Md.sumT vars (ts.take k)).length<=44 * ts.length):=fun k=>Md.flatMap_take_len _ 44 ts k (fun x hx=>by
  obtain ⟨j,hj,_,he⟩:=Yw (HX.out x hx).1 (HX.out x hx).2
  have h1:=Md.itoa_len (n:=x.1) (by have:=HC.out x hx;omega)
  have:=HNm.out vars[j] (List.getElem_mem hj)
  rw [he,List.length_cons,List.length_append,List.length_cons]
  omega)
 clear hw hx hl h hcells hn hV hc
 go_enter Tryz.func84,Tryz.ntmps84
 go_wp2_with fail
 go_loopw [8] (fun iv wr=>∃ k:Nat,iv=.int .i64 (k:Int)/\k<=ts.length/\Hid (yf w0.heap.size b va (l++Md.sumT vars (ts.take k)) wr)/\Hid (Kq w0.heap.size w wr)) (fun iv _=>ts.length-(intOf iv).toNat)
 case atStart=>exact ⟨0,rfl,Nat.zero_le _,H0,Kq.refl _ _⟩
 case round=>
  obtain ⟨k,rfl,hk,hP,hK⟩:=hrel
  clear H0
  by_cases hlt:k<ts.length
  ·obtain ⟨g,off,rfl,hg,hcc⟩:=HT.out (by omega)
   have c0:=(((HW.out.next hK.out).low.cell (p:=⟨g,off+k * 2,none⟩) hg).trans (hcc k hlt).1)
   have c1:=(((HW.out.next hK.out).low.cell (p:=⟨g,off+k * 2+1,none⟩) hg).trans (hcc k hlt).2)
   have hkI:(k:Int)<(ts.length:Int):=by omega
   have HR:Hid ((Md.sumT vars (ts.take (k+1)))=Md.sumT vars (ts.take k)++32 :: (Lib.itoa ts[k].1++32 :: Md.nm vars ts[k].2)):=Md.flatMap_take _ ts k hlt
   have HX1:Hid (0<=ts[k].2/\ts[k].2<(vars.length:Int)):=HX.out ts[k] (List.getElem_mem hlt)
   have HC1:Hid (-1000000<=ts[k].1/\ts[k].1<=1000000):=HC.out ts[k] (List.getElem_mem hlt)
   clear hcc
   generalize ts[k].1=cc at *
   generalize ts[k].2=xx at *
   obtain ⟨W,hW⟩:∃ W,wr.alloc (.cells #[.int .i64 cc,.int .i64 xx] 87)=W:=⟨_,rfl⟩
   have HT2:Hid (Two w0 w 87 wr.heap.size (.int .i64 cc) (.int .i64 xx) W.drew):=⟨by rw [<-hW];show (wr.alloc _).heap[wr.heap.size]?=_;exact heap_alloc_new wr _,by rw [<-hW];exact (Yb hK.out HW.out.low.size _).drew,HW.out.low.size⟩
   have HPW:yf w0.heap.size b va (l++Md.sumT vars (ts.take k)) W.drew:=by rw [<-hW];exact zU (yj hP.out _)
   have HSz:Hid ((l++Md.sumT vars (ts.take k)).length<=850000000):=by
    have h1:=HN.out k
    have h2:=HL.out
    show _<=_
    rw [List.length_append]
    omega
   have HI1:Hid ((Lib.itoa cc).length<=21):=Md.itoa_len (by have:=HC1.out;omega)
   obtain ⟨L0,hL0⟩:∃ L0,L0=l++Md.sumT vars (ts.take k):=⟨_,rfl⟩
   have HL0:Hid (L0=l++Md.sumT vars (ts.take k)):=hL0
   rw [<-hL0] at HPW HSz
   have HC2:Hid (-1000000000<=cc/\cc<=1000000000):=by have:=HC1.out;exact ⟨by omega,by omega⟩
   have HS1:Hid (L0.length+22<=900000000):=by have:=HSz.out;show _<=_;omega
   have HS2:Hid ((L0++32 :: Lib.itoa cc).length+22<=900000000):=by
    have h1:=HSz.out
    have h2:=HI1.out
    show _<=_
    rw [List.length_append,List.length_cons]
    omega
   clear hL0
   go_wp2_with fail
   try rw [hW]
   clear hW
   go_region_held3 (fun w'=>w'.cell? ⟨wr.heap.size,0,none⟩=some (.int .i64 cc)/\w'.cell? ⟨wr.heap.size,1,none⟩=some (.int .i64 xx)/\Two w0 w 87 wr.heap.size (.int .i64 cc) (.int .i64 xx) w')
    (first | exact (HT2.out).cells | exact (Two.alloc (And.right (And.right (by assumption))) _).cells | exact (Two.kq (And.right (And.right (by assumption))) (by assumption)).cells | assumption)
    (first | (go_at_call 78;refine cZ (y3s (w0:=w0) (b:=b) (va:=va) (l:=L0) (X:=_) (c:=cc) (w:=_) ?_ ?_ HC2.out ?_ HS1.out) ?_;exact HW.out.next (Two.kept (by assumption));(first | exact Yx _ _ | exact (Yx _ _).alloc _ | exact Qx _ _ _);(first | exact yj HPW _ | exact yj (yj HPW _) _);rintro e w3 ⟨rfl,hp3,hk3⟩) | (go_at_call 74;refine cZ (y3t (w0:=w0) (vars:=vars) (b:=b) (va:=va) (l:=L0++32 :: Lib.itoa cc) (X:=_) (c:=xx) (w:=_) HV.out HNm.out ?_ ?_ HX1.out ?_ HS2.out) ?_;exact HW.out.next (Two.kept (by assumption));(first | exact Yx _ _ | exact (Yx _ _).kqd hk3 | exact ((Yx _ _).alloc _).kqd hk3 | exact (Qx _ _ _).kqd hk3);(first | exact hp3 | exact yj hp3 _);rintro e w4 ⟨rfl,hp4,hk4⟩))
   all_goals
    have HP4:Hid (yf w0.heap.size b va (l++Md.sumT vars (ts.take (k+1))) w4):=by
     show yf _ _ _ _ _
     rw [HR.out,<-List.append_assoc,<-HL0.out]
     have:=hp4
     simpa using this
    have HK4:Hid (Kq w0.heap.size w w4):=Two.kept (by assumption)
    clear hp4 hk4 hp3 hk3
    go_wp2_with fail
    go_roundw
    case rel=>exact ⟨k+1,by go_num,by omega,HP4,HK4⟩
    case measure=>simp [intOf];omega
  ·have hkI:¬ (k:Int)<(ts.length:Int):=by omega
   have hP':Hid (yf w0.heap.size b va (l++Md.sumT vars ts) wr):=by
    have:=hP.out
    rw [List.take_of_length_le (by omega)] at this
    exact this
   go_wp2_with fail
   go_end0
   exact ⟨rfl,hP'.out,hK.out⟩
end Go.Proofs.YthohnmplbjhjaaaGreatDoor

namespace Go.Proofs.YthohnmplbjhjaaaGreatDoor
open Go Go.RowKit
set_option maxHeartbeats 1000000 in
theorem y3k {w0:World} (b:Nat) (va:Value) (l:List UInt8) (vr:Value) (rs:List (List Int)) (w:World) (hw:Way w0 w) (hI:RowsAt w0 vr rs) (hx:∀ r∈rs,r.length<=64/\∀ x∈r,-1000000000<=x/\x<=1000000000)
  (h:yf w0.heap.size b va l w) (hl:l.length+1410 * rs.length<=800000000) :
  Calls Tryz.prog 96 #[.pointer (some ⟨b,0,none⟩),vr] w fun e w'=>e=.returned (.tuple #[])/\yf w0.heap.size b va (l++Md.rowsT rs) w'/\Kq w0.heap.size w w':=by
 obtain ⟨a,cap,rfl,hm,hcells⟩:=hI
 unfold maxLen at hm
 have HT:Hid (0<rs.length->∃ b off,a=some ⟨b,off,none⟩/\b<w0.heap.size/\∀ j (h:j<rs.length),∃ u,w0.cell? ⟨b,off+j,none⟩=some u/\IntsAt w0 u rs[j]):=hcells
 have HW:Hid (Way w0 w):=hw
 have HX:Hid (∀ r∈rs,r.length<=64/\∀ x∈r,-1000000000<=x/\x<=1000000000):=hx
 have HL:Hid (l.length+1410 * rs.length<=800000000):=hl
 have H0:Hid (yf w0.heap.size b va (l++Md.rowsT (rs.take 0)) w):=by show yf _ _ _ _ _;simpa [Md.rowsT] using h
 have HN:Hid (∀ k,(Md.rowsT (rs.take k)).length<=1410 * rs.length):=fun k=>Md.flatMap_take_len _ 1410 rs k (fun r hr=>by
  have h1:=HX.out r hr
  have h2:(Md.numsT r).length<=22 * r.length:=Md.flatMap_len _ 22 r (fun x hx=>by have:=Md.itoa_len (h1.2 x hx);simpa using this)
  rw [List.length_cons,List.length_cons]
  omega)
 clear hw hx hl h hcells
 go_enter Tryz.func96,Tryz.ntmps96
 go_wp2_with fail
 go_loopw [8] (fun iv wr=>∃ k:Nat,iv=.int .i64 (k:Int)/\k<=rs.length/\Hid (yf w0.heap.size b va (l++Md.rowsT (rs.take k)) wr)/\Hid (Kq w0.heap.size w wr)) (fun iv _=>rs.length-(intOf iv).toNat)
 case atStart=>exact ⟨0,rfl,Nat.zero_le _,H0,Kq.refl _ _⟩
 case round=>
  obtain ⟨k,rfl,hk,hP,hK⟩:=hrel
  clear H0
  by_cases hlt:k<rs.length
  ·obtain ⟨g,off,rfl,hg,hcc⟩:=HT.out (by omega)
   obtain ⟨u,hu,hIu⟩:=hcc k hlt
   have c0:=(((HW.out.next hK.out).low.cell (p:=⟨g,off+k,none⟩) hg).trans hu)
   have hkI:(k:Int)<(rs.length:Int):=by omega
   have HR:Hid ((Md.rowsT (rs.take (k+1)))=Md.rowsT (rs.take k)++32 :: 58 :: Md.numsT rs[k]):=Md.flatMap_take _ rs k hlt
   have HXk:Hid (rs[k].length<=64/\∀ x∈rs[k],-1000000000<=x/\x<=1000000000):=HX.out rs[k] (List.getElem_mem hlt)
   have HIu:Hid (IntsAt w0 u rs[k]):=hIu
   clear hcc hu hIu
   obtain ⟨r,hr⟩:∃ r,r=rs[k]:=⟨_,rfl⟩
   rw [<-hr] at HR HXk HIu
   clear hr
   obtain ⟨ua,uc,hu,_⟩:=HIu.out.form
   subst hu
   have HSz:Hid ((l++Md.rowsT (rs.take k)).length<=800000000):=by
    have h1:=HN.out k
    have h2:=HL.out
    show _<=_
    rw [List.length_append]
    omega
   have HS1:Hid ((l++Md.rowsT (rs.take k)).length+(⟨#[58]⟩:ByteArray).size+1<=1000000000):=by
    have h1:=HSz.out
    have h2:(⟨#[58]⟩:ByteArray).size=1:=rfl
    show _<=_
    rw [h2]
    omega
   have HS2:Hid ((l++Md.rowsT (rs.take k)++32 :: [58]).length+22 * r.length<=900000000):=by
    have h1:=HSz.out
    have h2:=HXk.out.1
    show _<=_
    rw [List.length_append]
    have h3:(32 :: [58]:List UInt8).length=2:=rfl
    rw [h3]
    omega
   go_wp2_with (first
    | (go_at_call 77;refine cZ (xo w0.heap.size b va (l++Md.rowsT (rs.take k)) ⟨#[58]⟩ wr hP.out HS1.out (HW.out.next hK.out).low.size) ?_;rintro e w3 ⟨rfl,hp3,hk3⟩;have HP3:Hid (yf w0.heap.size b va (l++Md.rowsT (rs.take k)++32 :: [58]) w3):=hp3;have HK3:Hid (Kq w0.heap.size w w3):=hK.out.trans hk3;clear hp3 hk3)
    | (go_at_call 78;refine cZ (xg b va (l++Md.rowsT (rs.take k)++32 :: [58]) _ r w3 (HW.out.next HK3.out) (fun w' hq=>HIu.out.below (HW.out.next (HK3.out.trans hq)).low) HXk.out.2 HP3.out HS2.out) ?_;rintro e w4 ⟨rfl,hp4,hk4⟩;have HP4:Hid (yf w0.heap.size b va (l++Md.rowsT (rs.take k)++32 :: [58]++Md.numsT r) w4):=hp4;have HK4:Hid (Kq w0.heap.size w w4):=HK3.out.trans hk4;clear hp4 hk4))
   have HP5:Hid (yf w0.heap.size b va (l++Md.rowsT (rs.take (k+1))) w4):=by
    have:=HP4.out
    show yf _ _ _ _ _
    rw [HR.out]
    simpa using this
   go_roundw
   case rel=>exact ⟨k+1,by go_num,by omega,HP5,HK4⟩
   case measure=>simp [intOf];omega
  ·have hkI:¬ (k:Int)<(rs.length:Int):=by omega
   have hP':Hid (yf w0.heap.size b va (l++Md.rowsT rs) wr):=by
    have:=hP.out
    rw [List.take_of_length_le (by omega)] at this
    exact this
   go_wp2_with fail
   go_end0
   exact ⟨rfl,hP'.out,hK.out⟩
end Go.Proofs.YthohnmplbjhjaaaGreatDoor
