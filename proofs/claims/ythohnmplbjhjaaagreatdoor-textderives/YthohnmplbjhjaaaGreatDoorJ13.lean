/-
  Put together: TpLine, TpCon.
-/
import Derived.Test.YthohnmplbjhjaaaGreatDoorTpForms
import Derived.Test.YthohnmplbjhjaaaGreatDoorJ12
import Derived.Deep.CutBlock
import Derived.Deep.CutRange
namespace Go.Proofs.YthohnmplbjhjaaaGreatDoor
open Go Go.RowKit
set_option maxRecDepth 10000
set_option maxHeartbeats 4000000
def formCells:Array Value:=#[.string ⟨#[]⟩,.nilFunc,.nilFunc,
 .string ⟨#[108,105,110]⟩,.func (.func 79) #[] #[],.func (.func 83) #[] #[],
 .string ⟨#[110,101]⟩,.func (.func 85) #[] #[],.func (.func 86) #[] #[],
 .string ⟨#[97,108,108,100,105,102,102]⟩,.func (.func 87) #[] #[],.func (.func 88) #[] #[],
 .string ⟨#[101,108,101,109,101,110,116]⟩,.func (.func 89) #[] #[],.func (.func 91) #[] #[],
 .string ⟨#[109,97,120]⟩,.func (.func 70) #[] #[],.func (.func 73) #[] #[],
 .string ⟨#[109,105,110]⟩,.func (.func 70) #[] #[],.func (.func 73) #[] #[],
 .string ⟨#[114,101,105,102]⟩,.func (.func 92) #[] #[],.func (.func 93) #[] #[],
 .string ⟨#[116,97,98,108,101]⟩,.func (.func 94) #[] #[],.func (.func 95) #[] #[],
 .string ⟨#[99,111,117,110,116]⟩,.func (.func 97) #[] #[],.func (.func 98) #[] #[],
 .string ⟨#[118,97,114]⟩,.func (.func 75) #[] #[],.func (.func 76) #[] #[],
 .string ⟨#[109,105,110,105,109,105,122,101]⟩,.func (.func 99) #[] #[],.func (.func 100) #[] #[]]
theorem Qm:(Tryz.prog.info? 106).map (·.size)=some formCells.size:=by kernel_rfl
theorem y3j:formCells.all (·.oneCell')=true:=by kernel_rfl
theorem ZX (w:World):Calls Tryz.prog 43 #[] w fun e w'=>e=.returned (.agg formCells)/\Below w.heap.size w w':=by
 go_enter Tryz.func43,Tryz.ntmps43
 go_wp2_with (first
  | (refine Yp rfl 106 _ rfl formCells (by kernel_rfl) ?_)
  | (refine wpList_store_row rfl 106 _ _ rfl w.heap.size formCells rfl rfl 106 _ (heap_alloc_new w _) Qm (by rfl) y3j ?_;rw [Y6]))
 exact bodyPost_ret (v:=.agg formCells) (results_cell_row (p:=0) (ty:=106) rfl _ _ w.heap.size 106 formCells (0,0) (.array 12 105) rfl (heap_alloc_new w _) (by kernel_rfl) rfl Qm) rfl ⟨rfl,(Below.refl _ _).alloc (Nat.le_refl _) _⟩
theorem Bx.below {w0 w:World} {N:Nat} {cs:Array Value} {w' w2:World} (h:Bx w0 w N cs w') (k:Below w'.heap.size w' w2):Bx w0 w N cs w2:=h.kq (Kq.of_below k (Nat.le_trans h.2.2 h.2.1.low.size))
theorem Ya {w:World} {N:Nat} {a0 a1 a2:Value} {t:TypeId} (h:w.heap[N]?=some (.cells #[a0,a1,a2] t (0,0))):w.cell? ⟨N,0,none⟩=some a0/\w.cell? ⟨N,1,none⟩=some a1/\w.cell? ⟨N,2,none⟩=some a2/\w.frozen? ⟨N,0,none⟩=false/\w.frozen? ⟨N,1,none⟩=false/\w.frozen? ⟨N,2,none⟩=false:=by
 refine ⟨?_,?_,?_,?_,?_,?_⟩ <;> simp [World.cell?,World.frozen?,h]
theorem Qn {W w1:World} {a0 a1 a2:Value} {t:TypeId} (hb:Below (W.alloc (.cells #[a0,a1,a2] t)).drew.heap.size (W.alloc (.cells #[a0,a1,a2] t)).drew w1):w1.heap[W.heap.size]?=some (.cells #[a0,a1,a2] t (0,0)):=
 (hb.block W.heap.size (by show W.heap.size<(W.alloc _).heap.size;simp)).trans (by show (W.alloc _).heap[W.heap.size]?=_;exact heap_alloc_new W _)
theorem Bx.set {w0 w:World} {N:Nat} {cs:Array Value} {w':World} (h:Bx w0 w N cs w') {g:Nat} (hg:w.heap.size<g) (hN:N<=w.heap.size) (i:Nat) (u:Value):Bx w0 w N cs (w'.setCell ⟨g,i,none⟩ u):=by
 refine ⟨?_,⟨h.2.1.low.setCell (p:=⟨g,i,none⟩) (by have:=h.2.2;simp only;omega) u,fun k c ty fz e h5 h8=>?_⟩,h.2.2⟩
 ·rw [Below.heap_setCell w' ⟨g,i,none⟩ u N (by simp only;omega)];exact h.1
 ·have hk:k<w.heap.size:=(Array.getElem?_eq_some_iff.1 e).1
  rw [Below.heap_setCell w' ⟨g,i,none⟩ u k (by simp only;omega)];exact h.2.1.other k c ty fz e h5 h8
theorem Bx.set3 {w0 w:World} {N:Nat} {cs:Array Value} {w':World} (h:Bx w0 w N cs w') {g:Nat} (hg:w.heap.size<g) (hN:N<=w.heap.size) (u0 u1 u2:Value):Bx w0 w N cs (((w'.setCell ⟨g,0,none⟩ u0).setCell ⟨g,1,none⟩ u1).setCell ⟨g,2,none⟩ u2):=
 ((h.set hg hN 0 u0).set hg hN 1 u1).set hg hN 2 u2
def Looked (w0 w:World) (b:Nat) (va:Value) (L0:List UInt8) (cs:Array Value) (u0 u1 u2:Value) (Y:Nat) (wx:World):Prop:=
 wx.heap[Y]?=some (.cells #[u0,u1,u2] 105 (0,0))/\Bx w0 w w.heap.size cs wx/\yf w0.heap.size b va L0 wx
theorem y3k {w0 w W w1:World} {b:Nat} {va:Value} {L0:List UInt8} {cs:Array Value} {u0 u1 u2:Value} (hB:Bx w0 w w.heap.size cs W.drew) (hP:yf w0.heap.size b va L0 W.drew) (hb:Below W.drew.heap.size W.drew w1) :
  Looked w0 w b va L0 cs u0 u1 u2 w1.heap.size (w1.alloc (.cells #[u0,u1,u2] 105)):=
 ⟨heap_alloc_new w1 _,(hB.below hb).alloc _,yi (Ze hP hb) _⟩
theorem y3l {w0 w W w1:World} {b:Nat} {va:Value} {L0:List UInt8} {cs:Array Value} {u0 u1 u2 a0 a1 a2:Value} (hB:Bx w0 w w.heap.size cs W.drew) (hP:yf w0.heap.size b va L0 W.drew) (hg:w.heap.size<W.heap.size) (hb:Below (W.alloc (.cells #[a0,a1,a2] 105)).drew.heap.size (W.alloc (.cells #[a0,a1,a2] 105)).drew w1) :
  Looked w0 w b va L0 cs u0 u1 u2 W.heap.size (((w1.setCell ⟨W.heap.size,0,none⟩ u0).setCell ⟨W.heap.size,1,none⟩ u1).setCell ⟨W.heap.size,2,none⟩ u2):=by
 have hz:=Qn hb
 have ha:Below W.drew.heap.size W.drew (W.alloc (.cells #[a0,a1,a2] 105)).drew:=((Below.refl W.heap.size W.drew).alloc (Nat.le_refl _) _)
 have h1:Below W.drew.heap.size W.drew w1:=ha.trans (hb.mono ha.size)
 refine ⟨?_,((hB.alloc _).below hb).set3 hg (Nat.le_refl _) _ _ _,Ze hP (((h1.setCell (p:=⟨W.heap.size,0,none⟩) (Nat.le_refl _) _).setCell (p:=⟨W.heap.size,1,none⟩) (Nat.le_refl _) _).setCell (p:=⟨W.heap.size,2,none⟩) (Nat.le_refl _) _)⟩
 simp [World.setCell,Array.getElem?_modify,hz]
theorem Looked.drew {w0 w:World} {b:Nat} {va:Value} {L0:List UInt8} {cs:Array Value} {u0 u1 u2:Value} {Y:Nat} {wx:World} (h:Looked w0 w b va L0 cs u0 u1 u2 Y wx):Looked w0 w b va L0 cs u0 u1 u2 Y wx.drew:=⟨h.1,⟨h.2.1.1,h.2.1.2.1.drew,h.2.1.2.2⟩,zR h.2.2⟩
theorem Looked.write {w0 w:World} {b:Nat} {va:Value} {L0 L1:List UInt8} {cs:Array Value} {u0 u1 u2:Value} {Y:Nat} {wx w2:World} (h:Looked w0 w b va L0 cs u0 u1 u2 Y wx) (k:Kq w0.heap.size wx w2) (p:yf w0.heap.size b va L1 w2):Looked w0 w b va L1 cs u0 u1 u2 Y w2:=⟨k.other Y _ 105 _ h.1 (by decide) (by decide),h.2.1.kq k,p⟩
theorem zQ {w0:World} (b:Nat) (va:Value) (L0 T:List UInt8) (name:ByteArray) (lo hi kind op:Int) (vt:Value) (k v x y:Int) (vx vb vr:Value) (wd:ByteArray) (rd F:Nat) (w:World) (hw:Way w0 w)
  (hidx:∀ w,(Instr.index 106 (.agg formCells) (.int .i64 kind)).run Tryz.prog w=.ok (.agg #[.string wd,.func (.func rd) #[] #[],.func (.func F) #[] #[]]) w)
  (hE:∀ args w,(callFunc F args).run Tryz.prog w=.ok (.enter F args) w)
  (hC:∀ w',Way w0 w'->yf w0.heap.size b va (L0++wd.data.toList) w'->Calls Tryz.prog F #[.pointer (some ⟨b,0,none⟩),.agg (sayC name lo hi kind op vt k v x y vx vb vr)] w' fun e w''=>e=.returned (.tuple #[])/\yf w0.heap.size b va (L0++wd.data.toList++T) w''/\Kq w0.heap.size w' w'')
  (h:yf w0.heap.size b va L0 w) (hl:L0.length+wd.size<=600000000) (hT:T.length<=1000000) :
  Calls Tryz.prog 23 #[.pointer (some ⟨b,0,none⟩),.agg (sayC name lo hi kind op vt k v x y vx vb vr)] w fun e w'=>e=.returned (.tuple #[])/\yf w0.heap.size b va (L0++wd.data.toList++T++[10]) w'/\Kq w0.heap.size w w':=by
 have HW:Hid (Way w0 w):=hw
 have HL:Hid (L0.length+wd.size<=600000000):=hl
 have HT:Hid (T.length<=1000000):=hT
 have HC:Hid (∀ w',Way w0 w'->yf w0.heap.size b va (L0++wd.data.toList) w'->Calls Tryz.prog F #[.pointer (some ⟨b,0,none⟩),.agg (sayC name lo hi kind op vt k v x y vx vb vr)] w' fun e w''=>e=.returned (.tuple #[])/\yf w0.heap.size b va (L0++wd.data.toList++T) w''/\Kq w0.heap.size w' w''):=hC
 obtain ⟨W,hW⟩:∃ W,w.alloc (.cells (sayC name lo hi kind op vt k v x y vx vb vr) 74)=W:=⟨_,rfl⟩
 have HB:Hid (Bx w0 w w.heap.size (sayC name lo hi kind op vt k v x y vx vb vr) W.drew):=Bx.made _ HW.out.low.size hW
 have hp0:yf w0.heap.size b va L0 W.drew:=by rw [<-hW];exact zR (yi h _)
 have HP0:Hid (yf w0.heap.size b va L0 W.drew):=hp0
 have HSx:Hid (∀ w',Bx w0 w w.heap.size (sayC name lo hi kind op vt k v x y vx vb vr) w'->w'.cell? ⟨w.heap.size,3,none⟩=some (.int .i64 kind)/\Bx w0 w w.heap.size (sayC name lo hi kind op vt k v x y vx vb vr) w'):=fun w' h=>⟨h.cell 3 _ rfl,h⟩
 have HGt:Hid (w.heap.size<W.heap.size):=by show _<_;rw [<-hW];simp
 clear hw hl hT hC h hp0
 have hW':=hW
 unfold sayC at hW'
 have e0:Value.agg (sayC name lo hi kind op vt k v x y vx vb vr)=.agg #[.string name,.int .i64 lo,.int .i64 hi,.int .i64 kind,.int .i64 op,vt,.int .i64 k,.int .i64 v,.int .i64 x,.int .i64 y,vx,vb,vr]:=rfl
 rw [e0]
 clear e0
 go_enter Tryz.func23,Tryz.ntmps23
 go_wp2_with fail
 try rw [hW']
 clear hW hW'
 go_cut [4] from 5 to 9 (fun tv wx=>∃ Y,tv=.pointer (some ⟨Y,0,none⟩)/\Hid (Looked w0 w b va L0 (sayC name lo hi kind op vt k v x y vx vb vr) (.string wd) (.func (.func rd) #[] #[]) (.func (.func F) #[] #[]) Y wx))
 case first=>
  go_region_held3 (fun w'=>w'.cell? ⟨w.heap.size,3,none⟩=some (.int .i64 kind)/\Bx w0 w w.heap.size (sayC name lo hi kind op vt k v x y vx vb vr) w')
   (first | exact HSx.out _ HB.out | exact HSx.out _ ((HB.out.below hb1).alloc _) | exact HSx.out _ (Bx.set3 (Bx.below (Bx.alloc HB.out _) hb1) HGt.out (Nat.le_refl _) _ _ _) | exact HSx.out _ (Bx.alloc (And.right (by assumption)) _) | exact HSx.out _ (Bx.below (And.right (by assumption)) (by assumption)) | assumption)
   (first | (go_at_call 43;refine cZ (ZX _) ?_;rintro e w1 ⟨rfl,hb1⟩;have hz:=Qn hb1;obtain ⟨z0,z1,z2,z3,z4,z5⟩:=Ya hz) | (go_at_call 43;refine cZ (ZX _) ?_;rintro e w1 ⟨rfl,hb1⟩))
  all_goals
   go_wp2_with fail
   go_meet
   case rel=>first | exact ⟨_,rfl,y3k HB.out HP0.out hb1⟩ | exact ⟨_,rfl,y3l HB.out HP0.out HGt.out hb1⟩
 case rest=>
  obtain ⟨Y,rfl,hLk⟩:=hcut
  rename World=>wk
  clear HSx HGt HB HP0
  have HLk:Hid (Looked w0 w b va L0 (sayC name lo hi kind op vt k v x y vx vb vr) (.string wd) (.func (.func rd) #[] #[]) (.func (.func F) #[] #[]) Y wk):=hLk.out
  obtain ⟨y0,y1,y2,_,_,_⟩:=Ya hLk.out.1
  have HSz:Hid (L0.length+wd.size<=1000000000):=by have:=HL.out;show _<=_;omega
  clear y0 y1 y2 hLk
  go_wp2_with fail
  go_region_held3 (fun w'=>w'.cell? ⟨Y,0,none⟩=some (.string wd))
   (first | exact (Ya (Looked.drew HLk.out).1).1 | exact (Ya (Looked.write (Looked.drew HLk.out) (by assumption) (by assumption)).1).1 | assumption)
   (first | (go_at_call 44;refine cZ (Qo w0.heap.size b va L0 wd _ ?_ HSz.out ?_) ?_;exact (Looked.drew HLk.out).2.2;exact (HW.out.next (Looked.drew HLk.out).2.1.2.1).low.size;rintro e w2 ⟨rfl,hp2,hk2⟩))
  have HLk2:Hid (Looked w0 w b va (L0++wd.data.toList) (sayC name lo hi kind op vt k v x y vx vb vr) (.string wd) (.func (.func rd) #[] #[]) (.func (.func F) #[] #[]) Y w2):=Looked.write (Looked.drew HLk.out) hk2 hp2
  clear hp2 hk2
  obtain ⟨y0,y1,y2,_,_,_⟩:=Ya HLk2.out.1
  have q0:w2.cell? ⟨w.heap.size,0,none⟩=some (.string name):=HLk2.out.2.1.cell 0 _ rfl
  have q1:w2.cell? ⟨w.heap.size,1,none⟩=some (.int .i64 lo):=HLk2.out.2.1.cell 1 _ rfl
  have q2:w2.cell? ⟨w.heap.size,2,none⟩=some (.int .i64 hi):=HLk2.out.2.1.cell 2 _ rfl
  have q3:w2.cell? ⟨w.heap.size,3,none⟩=some (.int .i64 kind):=HLk2.out.2.1.cell 3 _ rfl
  have q4:w2.cell? ⟨w.heap.size,4,none⟩=some (.int .i64 op):=HLk2.out.2.1.cell 4 _ rfl
  have q5:w2.cell? ⟨w.heap.size,5,none⟩=some (vt):=HLk2.out.2.1.cell 5 _ rfl
  have q6:w2.cell? ⟨w.heap.size,6,none⟩=some (.int .i64 k):=HLk2.out.2.1.cell 6 _ rfl
  have q7:w2.cell? ⟨w.heap.size,7,none⟩=some (.int .i64 v):=HLk2.out.2.1.cell 7 _ rfl
  have q8:w2.cell? ⟨w.heap.size,8,none⟩=some (.int .i64 x):=HLk2.out.2.1.cell 8 _ rfl
  have q9:w2.cell? ⟨w.heap.size,9,none⟩=some (.int .i64 y):=HLk2.out.2.1.cell 9 _ rfl
  have q10:w2.cell? ⟨w.heap.size,10,none⟩=some (vx):=HLk2.out.2.1.cell 10 _ rfl
  have q11:w2.cell? ⟨w.heap.size,11,none⟩=some (vb):=HLk2.out.2.1.cell 11 _ rfl
  have q12:w2.cell? ⟨w.heap.size,12,none⟩=some (vr):=HLk2.out.2.1.cell 12 _ rfl
  have HC2:=HC.out w2 (HW.out.next HLk2.out.2.1.2.1) HLk2.out.2.2
  have HC3:Hid (Calls Tryz.prog F #[.pointer (some ⟨b,0,none⟩),.agg #[.string name,.int .i64 lo,.int .i64 hi,.int .i64 kind,.int .i64 op,vt,.int .i64 k,.int .i64 v,.int .i64 x,.int .i64 y,vx,vb,vr]] w2 fun e w''=>e=.returned (.tuple #[])/\yf w0.heap.size b va (L0++wd.data.toList++T) w''/\Kq w0.heap.size w2 w''):=HC2
  clear HC2
  go_wp2_with fail
  refine cZ HC3.out ?_
  rintro e w3 ⟨rfl,hp3,hk3⟩
  have HP3:Hid (yf w0.heap.size b va (L0++wd.data.toList++T) w3):=hp3
  have HK3:Hid (Kq w0.heap.size w w3):=HLk2.out.2.1.2.1.trans hk3
  have HSw:Hid ((L0++wd.data.toList++T).length<=1000000000):=by
   have h1:=HL.out
   have h2:=HT.out
   have h3:=ze wd
   show _<=_
   rw [List.length_append,List.length_append]
   omega
  clear hp3 hk3 q0 q1 q2 q3 q4 q5 q6 q7 q8 q9 q10 q11 q12 y0 y1 y2
  go_wp2_with (go_at_call 45;refine cZ (Qp w0.heap.size b va (L0++wd.data.toList++T) 10 10 rfl w3 HP3.out HSw.out (HW.out.next HK3.out).low.size) ?_;rintro e w4 ⟨rfl,hp4,hk4⟩;have HP4:Hid (yf w0.heap.size b va (L0++wd.data.toList++T++[10]) w4):=hp4;have HK4:Hid (Kq w0.heap.size w w4):=HK3.out.trans hk4;clear hp4 hk4)
  go_end0
  exact ⟨rfl,HP4.out,HK4.out⟩
end Go.Proofs.YthohnmplbjhjaaaGreatDoor

namespace Go.Proofs.YthohnmplbjhjaaaGreatDoor
open Go Go.RowKit
set_option maxHeartbeats 1000000
theorem Yt {vars:List Md.Vr} {ts:List (Int × Int)} (hn:∀ v∈vars,v.name.data.toList.length<=16) (hx:∀ t∈ts,0<=t.2/\t.2<(vars.length:Int)) (hc:∀ t∈ts,-1000000<=t.1/\t.1<=1000000):(Md.sumT vars ts).length<=44 * ts.length:=
 Md.flatMap_len _ 44 ts (fun x h=>by
  obtain ⟨j,hj,_,he⟩:=Yu (hx x h).1 (hx x h).2
  have h1:=Md.itoa_len (n:=x.1) (by have:=hc x h;omega)
  have:=hn vars[j] (List.getElem_mem hj)
  rw [he,List.length_cons,List.length_append,List.length_cons]
  omega)
theorem xb {xs:List Int} (hx:∀ x∈xs,-1000000000<=x/\x<=1000000000):(Md.numsT xs).length<=22 * xs.length:=
 Md.flatMap_len _ 22 xs (fun x h=>by have:=Md.itoa_len (hx x h);simpa using this)
theorem Qj {rs:List (List Int)} (hx:∀ r∈rs,r.length<=64/\∀ x∈r,-1000000000<=x/\x<=1000000000):(Md.rowsT rs).length<=1410 * rs.length:=
 Md.flatMap_len _ 1410 rs (fun r hr=>by
  have h1:=hx r hr
  have h2:=xb h1.2
  rw [List.length_cons,List.length_cons]
  omega)
theorem app3 {L a b:List UInt8} {B:Nat} {p:Nat} {va:Value} {w:World} {x:List UInt8} (h:yf B p va (L++a++b++[10]) w) (e:x=a++b):yf B p va (L++x++[10]) w:=by
 rw [e]
 rw [<-List.append_assoc L a b]
 exact h
structure Nums (c:Md.Cn):Prop where
 b:∀ x∈c.table,-1000000000<=x/\x<=1000000000
 r:∀ r∈c.rows,r.length<=64/\∀ x∈r,-1000000000<=x/\x<=1000000000
theorem ZT (w:World):(Instr.index 106 (.agg formCells) (.int .i64 1)).run Tryz.prog w=.ok (.agg #[.string ⟨#[108,105,110]⟩,.func (.func 79) #[] #[],.func (.func 83) #[] #[]]) w:=by kernel_rfl
theorem y2z (w:World):(Instr.index 106 (.agg formCells) (.int .i64 2)).run Tryz.prog w=.ok (.agg #[.string ⟨#[110,101]⟩,.func (.func 85) #[] #[],.func (.func 86) #[] #[]]) w:=by kernel_rfl
theorem y2A (w:World):(Instr.index 106 (.agg formCells) (.int .i64 3)).run Tryz.prog w=.ok (.agg #[.string ⟨#[97,108,108,100,105,102,102]⟩,.func (.func 87) #[] #[],.func (.func 88) #[] #[]]) w:=by kernel_rfl
theorem y2B (w:World):(Instr.index 106 (.agg formCells) (.int .i64 4)).run Tryz.prog w=.ok (.agg #[.string ⟨#[101,108,101,109,101,110,116]⟩,.func (.func 89) #[] #[],.func (.func 91) #[] #[]]) w:=by kernel_rfl
theorem y2C (w:World):(Instr.index 106 (.agg formCells) (.int .i64 5)).run Tryz.prog w=.ok (.agg #[.string ⟨#[109,97,120]⟩,.func (.func 70) #[] #[],.func (.func 73) #[] #[]]) w:=by kernel_rfl
theorem y2D (w:World):(Instr.index 106 (.agg formCells) (.int .i64 6)).run Tryz.prog w=.ok (.agg #[.string ⟨#[109,105,110]⟩,.func (.func 70) #[] #[],.func (.func 73) #[] #[]]) w:=by kernel_rfl
theorem y2E (w:World):(Instr.index 106 (.agg formCells) (.int .i64 7)).run Tryz.prog w=.ok (.agg #[.string ⟨#[114,101,105,102]⟩,.func (.func 92) #[] #[],.func (.func 93) #[] #[]]) w:=by kernel_rfl
theorem y2F (w:World):(Instr.index 106 (.agg formCells) (.int .i64 8)).run Tryz.prog w=.ok (.agg #[.string ⟨#[116,97,98,108,101]⟩,.func (.func 94) #[] #[],.func (.func 95) #[] #[]]) w:=by kernel_rfl
theorem ZU (w:World):(Instr.index 106 (.agg formCells) (.int .i64 9)).run Tryz.prog w=.ok (.agg #[.string ⟨#[99,111,117,110,116]⟩,.func (.func 97) #[] #[],.func (.func 98) #[] #[]]) w:=by kernel_rfl
theorem y2G (w:World):(Instr.index 106 (.agg formCells) (.int .i64 10)).run Tryz.prog w=.ok (.agg #[.string ⟨#[118,97,114]⟩,.func (.func 75) #[] #[],.func (.func 76) #[] #[]]) w:=by kernel_rfl
theorem y2H (w:World):(Instr.index 106 (.agg formCells) (.int .i64 11)).run Tryz.prog w=.ok (.agg #[.string ⟨#[109,105,110,105,109,105,122,101]⟩,.func (.func 99) #[] #[],.func (.func 100) #[] #[]]) w:=by kernel_rfl
theorem y2I:∀ args w,(callFunc 86 args).run Tryz.prog w=.ok (.enter 86 args) w:=enters_of Tryz.func86 (by kernel_rfl) rfl
theorem y2J:∀ args w,(callFunc 88 args).run Tryz.prog w=.ok (.enter 88 args) w:=enters_of Tryz.func88 (by kernel_rfl) rfl
theorem y2K:∀ args w,(callFunc 91 args).run Tryz.prog w=.ok (.enter 91 args) w:=enters_of Tryz.func91 (by kernel_rfl) rfl
theorem y2L:∀ args w,(callFunc 93 args).run Tryz.prog w=.ok (.enter 93 args) w:=enters_of Tryz.func93 (by kernel_rfl) rfl
theorem y2M:∀ args w,(callFunc 95 args).run Tryz.prog w=.ok (.enter 95 args) w:=enters_of Tryz.func95 (by kernel_rfl) rfl
theorem ZV:∀ args w,(callFunc 98 args).run Tryz.prog w=.ok (.enter 98 args) w:=enters_of Tryz.func98 (by kernel_rfl) rfl
theorem y2N:∀ args w,(callFunc 100 args).run Tryz.prog w=.ok (.enter 100 args) w:=enters_of Tryz.func100 (by kernel_rfl) rfl
theorem Qk:∀ args w,(callFunc 73 args).run Tryz.prog w=.ok (.enter 73 args) w:=enters_of Tryz.func73 (by kernel_rfl) rfl
theorem y2O:∀ args w,(callFunc 76 args).run Tryz.prog w=.ok (.enter 76 args) w:=enters_of Tryz.func76 (by kernel_rfl) rfl
theorem ZW:∀ args w,(callFunc 83 args).run Tryz.prog w=.ok (.enter 83 args) w:=enters_of Tryz.func83 (by kernel_rfl) rfl
theorem y2P {w0:World} (vars:List Md.Vr) (b:Nat) (va:Value) (L0:List UInt8) (c:Md.Cn) (vt vx vb vr:Value) (w:World) (hV:VarsAt w0 va vars) (hn:∀ v∈vars,v.name.data.toList.length<=16) (hw:Way w0 w) (hC:CnAt w0 c vt vx vb vr) (hF:Md.Fit c vars.length) (hN:Nums c) (hk:c.kind=1) (ho:c.op=1) (h:yf w0.heap.size b va L0 w) (hl:L0.length<=500000000) :
  Calls Tryz.prog 23 #[.pointer (some ⟨b,0,none⟩),.agg (sayC ⟨#[]⟩ 0 0 c.kind c.op vt c.k c.v c.x c.y vx vb vr)] w fun e w'=>e=.returned (.tuple #[])/\yf w0.heap.size b va (L0++Md.conT vars c++[10]) w'/\Kq w0.heap.size w w':=by
 have _:=hC;have _:=hN
 rw [hk,ho]
 have hd:(⟨#[108,105,110]⟩:ByteArray).data.toList.length<=8:=by decide
 have hx:Md.conT vars c=(⟨#[108,105,110]⟩:ByteArray).data.toList++((((32 :: (⟨#[60,61]⟩:ByteArray).data.toList))++(Md.numsT [c.k]))++(Md.sumT vars c.terms)):=by
  simp [Md.conT,Md.wordT,Md.restT,Md.opT,hk,ho,Md.numsT]
 have hT:((((32 :: (⟨#[60,61]⟩:ByteArray).data.toList))++(Md.numsT [c.k]))++(Md.sumT vars c.terms)).length<=1000000:=by
  have l0:=(show (32 :: (⟨#[60,61]⟩:ByteArray).data.toList).length<=3 by decide)
  have l1:=(xb (xs:=[c.k]) (fun z hz=>by simp at hz;subst hz;exact hF.k))
  have l2:=(Yt hn hF.tx hF.tc)
  have l9:=hF.tl
  have l8:=hF.xl
  have l7:=hF.bl
  have l6:=hF.rl
  simp only [List.length_append,List.length_cons,List.length_nil] at *
  omega
 refine (zQ b va L0 ((((32 :: (⟨#[60,61]⟩:ByteArray).data.toList))++(Md.numsT [c.k]))++(Md.sumT vars c.terms)) ⟨#[]⟩ 0 0 1 1 vt c.k c.v c.x c.y vx vb vr ⟨#[108,105,110]⟩ 79 83 w hw ZT ZW (fun w' hw' hp'=>?_) h (by rw [ze];omega) hT).mono ?_
 ·refine (y2Q vars b va _ ⟨#[]⟩ 0 0 1  vt c.k c.v c.x c.y vx vb vr w' hV hn hw' (fun z hz=>by simp at hz;subst hz;exact hF.k) hC.t hF.tx hF.tc hF.tl hp' (by rw [List.length_append];omega)).mono ?_
  rintro e w2 ⟨he,hp,hq⟩
  refine ⟨he,?_,hq⟩
  simpa using hp
 ·rintro e w2 ⟨he,hp,hq⟩
  exact ⟨he,app3 hp hx,hq⟩
theorem y2R {w0:World} (vars:List Md.Vr) (b:Nat) (va:Value) (L0:List UInt8) (c:Md.Cn) (vt vx vb vr:Value) (w:World) (hV:VarsAt w0 va vars) (hn:∀ v∈vars,v.name.data.toList.length<=16) (hw:Way w0 w) (hC:CnAt w0 c vt vx vb vr) (hF:Md.Fit c vars.length) (hN:Nums c) (hk:c.kind=9) (ho:c.op=1) (h:yf w0.heap.size b va L0 w) (hl:L0.length<=500000000) :
  Calls Tryz.prog 23 #[.pointer (some ⟨b,0,none⟩),.agg (sayC ⟨#[]⟩ 0 0 c.kind c.op vt c.k c.v c.x c.y vx vb vr)] w fun e w'=>e=.returned (.tuple #[])/\yf w0.heap.size b va (L0++Md.conT vars c++[10]) w'/\Kq w0.heap.size w w':=by
 have _:=hC;have _:=hN
 rw [hk,ho]
 have hd:(⟨#[99,111,117,110,116]⟩:ByteArray).data.toList.length<=8:=by decide
 have hx:Md.conT vars c=(⟨#[99,111,117,110,116]⟩:ByteArray).data.toList++((((32 :: (⟨#[60,61]⟩:ByteArray).data.toList))++(Md.numsT [c.k,c.v]))++(Md.namesT vars c.xs)):=by
  simp [Md.conT,Md.wordT,Md.restT,Md.opT,hk,ho,Md.numsT]
 have hT:((((32 :: (⟨#[60,61]⟩:ByteArray).data.toList))++(Md.numsT [c.k,c.v]))++(Md.namesT vars c.xs)).length<=1000000:=by
  have l0:=(show (32 :: (⟨#[60,61]⟩:ByteArray).data.toList).length<=3 by decide)
  have l1:=(xb (xs:=[c.k,c.v]) (fun z hz=>by simp at hz;rcases hz with rfl | rfl;exact hF.k;exact hF.v))
  have l2:=(zj hn hF.xs)
  have l9:=hF.tl
  have l8:=hF.xl
  have l7:=hF.bl
  have l6:=hF.rl
  simp only [List.length_append,List.length_cons,List.length_nil] at *
  omega
 refine (zQ b va L0 ((((32 :: (⟨#[60,61]⟩:ByteArray).data.toList))++(Md.numsT [c.k,c.v]))++(Md.namesT vars c.xs)) ⟨#[]⟩ 0 0 9 1 vt c.k c.v c.x c.y vx vb vr ⟨#[99,111,117,110,116]⟩ 97 98 w hw ZU ZV (fun w' hw' hp'=>?_) h (by rw [ze];omega) hT).mono ?_
 ·refine (y2S vars b va _ ⟨#[]⟩ 0 0 9  vt c.k c.v c.x c.y vx vb vr w' hV hn hw' (fun z hz=>by simp at hz;rcases hz with rfl | rfl;exact hF.k;exact hF.v) hC.x hF.xs hF.xl hp' (by rw [List.length_append];omega)).mono ?_
  rintro e w2 ⟨he,hp,hq⟩
  refine ⟨he,?_,hq⟩
  simpa using hp
 ·rintro e w2 ⟨he,hp,hq⟩
  exact ⟨he,app3 hp hx,hq⟩
theorem y2T {w0:World} (vars:List Md.Vr) (b:Nat) (va:Value) (L0:List UInt8) (c:Md.Cn) (vt vx vb vr:Value) (w:World) (hV:VarsAt w0 va vars) (hn:∀ v∈vars,v.name.data.toList.length<=16) (hw:Way w0 w) (hC:CnAt w0 c vt vx vb vr) (hF:Md.Fit c vars.length) (hN:Nums c) (hk:c.kind=1) (ho:c.op=2) (h:yf w0.heap.size b va L0 w) (hl:L0.length<=500000000) :
  Calls Tryz.prog 23 #[.pointer (some ⟨b,0,none⟩),.agg (sayC ⟨#[]⟩ 0 0 c.kind c.op vt c.k c.v c.x c.y vx vb vr)] w fun e w'=>e=.returned (.tuple #[])/\yf w0.heap.size b va (L0++Md.conT vars c++[10]) w'/\Kq w0.heap.size w w':=by
 have _:=hC;have _:=hN
 rw [hk,ho]
 have hd:(⟨#[108,105,110]⟩:ByteArray).data.toList.length<=8:=by decide
 have hx:Md.conT vars c=(⟨#[108,105,110]⟩:ByteArray).data.toList++((((32 :: (⟨#[61]⟩:ByteArray).data.toList))++(Md.numsT [c.k]))++(Md.sumT vars c.terms)):=by
  simp [Md.conT,Md.wordT,Md.restT,Md.opT,hk,ho,Md.numsT]
 have hT:((((32 :: (⟨#[61]⟩:ByteArray).data.toList))++(Md.numsT [c.k]))++(Md.sumT vars c.terms)).length<=1000000:=by
  have l0:=(show (32 :: (⟨#[61]⟩:ByteArray).data.toList).length<=3 by decide)
  have l1:=(xb (xs:=[c.k]) (fun z hz=>by simp at hz;subst hz;exact hF.k))
  have l2:=(Yt hn hF.tx hF.tc)
  have l9:=hF.tl
  have l8:=hF.xl
  have l7:=hF.bl
  have l6:=hF.rl
  simp only [List.length_append,List.length_cons,List.length_nil] at *
  omega
 refine (zQ b va L0 ((((32 :: (⟨#[61]⟩:ByteArray).data.toList))++(Md.numsT [c.k]))++(Md.sumT vars c.terms)) ⟨#[]⟩ 0 0 1 2 vt c.k c.v c.x c.y vx vb vr ⟨#[108,105,110]⟩ 79 83 w hw ZT ZW (fun w' hw' hp'=>?_) h (by rw [ze];omega) hT).mono ?_
 ·refine (y2U vars b va _ ⟨#[]⟩ 0 0 1  vt c.k c.v c.x c.y vx vb vr w' hV hn hw' (fun z hz=>by simp at hz;subst hz;exact hF.k) hC.t hF.tx hF.tc hF.tl hp' (by rw [List.length_append];omega)).mono ?_
  rintro e w2 ⟨he,hp,hq⟩
  refine ⟨he,?_,hq⟩
  simpa using hp
 ·rintro e w2 ⟨he,hp,hq⟩
  exact ⟨he,app3 hp hx,hq⟩
theorem y2V {w0:World} (vars:List Md.Vr) (b:Nat) (va:Value) (L0:List UInt8) (c:Md.Cn) (vt vx vb vr:Value) (w:World) (hV:VarsAt w0 va vars) (hn:∀ v∈vars,v.name.data.toList.length<=16) (hw:Way w0 w) (hC:CnAt w0 c vt vx vb vr) (hF:Md.Fit c vars.length) (hN:Nums c) (hk:c.kind=9) (ho:c.op=2) (h:yf w0.heap.size b va L0 w) (hl:L0.length<=500000000) :
  Calls Tryz.prog 23 #[.pointer (some ⟨b,0,none⟩),.agg (sayC ⟨#[]⟩ 0 0 c.kind c.op vt c.k c.v c.x c.y vx vb vr)] w fun e w'=>e=.returned (.tuple #[])/\yf w0.heap.size b va (L0++Md.conT vars c++[10]) w'/\Kq w0.heap.size w w':=by
 have _:=hC;have _:=hN
 rw [hk,ho]
 have hd:(⟨#[99,111,117,110,116]⟩:ByteArray).data.toList.length<=8:=by decide
 have hx:Md.conT vars c=(⟨#[99,111,117,110,116]⟩:ByteArray).data.toList++((((32 :: (⟨#[61]⟩:ByteArray).data.toList))++(Md.numsT [c.k,c.v]))++(Md.namesT vars c.xs)):=by
  simp [Md.conT,Md.wordT,Md.restT,Md.opT,hk,ho,Md.numsT]
 have hT:((((32 :: (⟨#[61]⟩:ByteArray).data.toList))++(Md.numsT [c.k,c.v]))++(Md.namesT vars c.xs)).length<=1000000:=by
  have l0:=(show (32 :: (⟨#[61]⟩:ByteArray).data.toList).length<=3 by decide)
  have l1:=(xb (xs:=[c.k,c.v]) (fun z hz=>by simp at hz;rcases hz with rfl | rfl;exact hF.k;exact hF.v))
  have l2:=(zj hn hF.xs)
  have l9:=hF.tl
  have l8:=hF.xl
  have l7:=hF.bl
  have l6:=hF.rl
  simp only [List.length_append,List.length_cons,List.length_nil] at *
  omega
 refine (zQ b va L0 ((((32 :: (⟨#[61]⟩:ByteArray).data.toList))++(Md.numsT [c.k,c.v]))++(Md.namesT vars c.xs)) ⟨#[]⟩ 0 0 9 2 vt c.k c.v c.x c.y vx vb vr ⟨#[99,111,117,110,116]⟩ 97 98 w hw ZU ZV (fun w' hw' hp'=>?_) h (by rw [ze];omega) hT).mono ?_
 ·refine (y2W vars b va _ ⟨#[]⟩ 0 0 9  vt c.k c.v c.x c.y vx vb vr w' hV hn hw' (fun z hz=>by simp at hz;rcases hz with rfl | rfl;exact hF.k;exact hF.v) hC.x hF.xs hF.xl hp' (by rw [List.length_append];omega)).mono ?_
  rintro e w2 ⟨he,hp,hq⟩
  refine ⟨he,?_,hq⟩
  simpa using hp
 ·rintro e w2 ⟨he,hp,hq⟩
  exact ⟨he,app3 hp hx,hq⟩
theorem y2X {w0:World} (vars:List Md.Vr) (b:Nat) (va:Value) (L0:List UInt8) (c:Md.Cn) (vt vx vb vr:Value) (w:World) (hV:VarsAt w0 va vars) (hn:∀ v∈vars,v.name.data.toList.length<=16) (hw:Way w0 w) (hC:CnAt w0 c vt vx vb vr) (hF:Md.Fit c vars.length) (hN:Nums c) (hk:c.kind=1) (ho:c.op=3) (h:yf w0.heap.size b va L0 w) (hl:L0.length<=500000000) :
  Calls Tryz.prog 23 #[.pointer (some ⟨b,0,none⟩),.agg (sayC ⟨#[]⟩ 0 0 c.kind c.op vt c.k c.v c.x c.y vx vb vr)] w fun e w'=>e=.returned (.tuple #[])/\yf w0.heap.size b va (L0++Md.conT vars c++[10]) w'/\Kq w0.heap.size w w':=by
 have _:=hC;have _:=hN
 rw [hk,ho]
 have hd:(⟨#[108,105,110]⟩:ByteArray).data.toList.length<=8:=by decide
 have hx:Md.conT vars c=(⟨#[108,105,110]⟩:ByteArray).data.toList++((((32 :: (⟨#[62,61]⟩:ByteArray).data.toList))++(Md.numsT [c.k]))++(Md.sumT vars c.terms)):=by
  simp [Md.conT,Md.wordT,Md.restT,Md.opT,hk,ho,Md.numsT]
 have hT:((((32 :: (⟨#[62,61]⟩:ByteArray).data.toList))++(Md.numsT [c.k]))++(Md.sumT vars c.terms)).length<=1000000:=by
  have l0:=(show (32 :: (⟨#[62,61]⟩:ByteArray).data.toList).length<=3 by decide)
  have l1:=(xb (xs:=[c.k]) (fun z hz=>by simp at hz;subst hz;exact hF.k))
  have l2:=(Yt hn hF.tx hF.tc)
  have l9:=hF.tl
  have l8:=hF.xl
  have l7:=hF.bl
  have l6:=hF.rl
  simp only [List.length_append,List.length_cons,List.length_nil] at *
  omega
 refine (zQ b va L0 ((((32 :: (⟨#[62,61]⟩:ByteArray).data.toList))++(Md.numsT [c.k]))++(Md.sumT vars c.terms)) ⟨#[]⟩ 0 0 1 3 vt c.k c.v c.x c.y vx vb vr ⟨#[108,105,110]⟩ 79 83 w hw ZT ZW (fun w' hw' hp'=>?_) h (by rw [ze];omega) hT).mono ?_
 ·refine (y2Y vars b va _ ⟨#[]⟩ 0 0 1  vt c.k c.v c.x c.y vx vb vr w' hV hn hw' (fun z hz=>by simp at hz;subst hz;exact hF.k) hC.t hF.tx hF.tc hF.tl hp' (by rw [List.length_append];omega)).mono ?_
  rintro e w2 ⟨he,hp,hq⟩
  refine ⟨he,?_,hq⟩
  simpa using hp
 ·rintro e w2 ⟨he,hp,hq⟩
  exact ⟨he,app3 hp hx,hq⟩
theorem y2Z {w0:World} (vars:List Md.Vr) (b:Nat) (va:Value) (L0:List UInt8) (c:Md.Cn) (vt vx vb vr:Value) (w:World) (hV:VarsAt w0 va vars) (hn:∀ v∈vars,v.name.data.toList.length<=16) (hw:Way w0 w) (hC:CnAt w0 c vt vx vb vr) (hF:Md.Fit c vars.length) (hN:Nums c) (hk:c.kind=9) (ho:c.op=3) (h:yf w0.heap.size b va L0 w) (hl:L0.length<=500000000) :
  Calls Tryz.prog 23 #[.pointer (some ⟨b,0,none⟩),.agg (sayC ⟨#[]⟩ 0 0 c.kind c.op vt c.k c.v c.x c.y vx vb vr)] w fun e w'=>e=.returned (.tuple #[])/\yf w0.heap.size b va (L0++Md.conT vars c++[10]) w'/\Kq w0.heap.size w w':=by
 have _:=hC;have _:=hN
 rw [hk,ho]
 have hd:(⟨#[99,111,117,110,116]⟩:ByteArray).data.toList.length<=8:=by decide
 have hx:Md.conT vars c=(⟨#[99,111,117,110,116]⟩:ByteArray).data.toList++((((32 :: (⟨#[62,61]⟩:ByteArray).data.toList))++(Md.numsT [c.k,c.v]))++(Md.namesT vars c.xs)):=by
  simp [Md.conT,Md.wordT,Md.restT,Md.opT,hk,ho,Md.numsT]
 have hT:((((32 :: (⟨#[62,61]⟩:ByteArray).data.toList))++(Md.numsT [c.k,c.v]))++(Md.namesT vars c.xs)).length<=1000000:=by
  have l0:=(show (32 :: (⟨#[62,61]⟩:ByteArray).data.toList).length<=3 by decide)
  have l1:=(xb (xs:=[c.k,c.v]) (fun z hz=>by simp at hz;rcases hz with rfl | rfl;exact hF.k;exact hF.v))
  have l2:=(zj hn hF.xs)
  have l9:=hF.tl
  have l8:=hF.xl
  have l7:=hF.bl
  have l6:=hF.rl
  simp only [List.length_append,List.length_cons,List.length_nil] at *
  omega
 refine (zQ b va L0 ((((32 :: (⟨#[62,61]⟩:ByteArray).data.toList))++(Md.numsT [c.k,c.v]))++(Md.namesT vars c.xs)) ⟨#[]⟩ 0 0 9 3 vt c.k c.v c.x c.y vx vb vr ⟨#[99,111,117,110,116]⟩ 97 98 w hw ZU ZV (fun w' hw' hp'=>?_) h (by rw [ze];omega) hT).mono ?_
 ·refine (y30 vars b va _ ⟨#[]⟩ 0 0 9  vt c.k c.v c.x c.y vx vb vr w' hV hn hw' (fun z hz=>by simp at hz;rcases hz with rfl | rfl;exact hF.k;exact hF.v) hC.x hF.xs hF.xl hp' (by rw [List.length_append];omega)).mono ?_
  rintro e w2 ⟨he,hp,hq⟩
  refine ⟨he,?_,hq⟩
  simpa using hp
 ·rintro e w2 ⟨he,hp,hq⟩
  exact ⟨he,app3 hp hx,hq⟩
theorem y31 {w0:World} (vars:List Md.Vr) (b:Nat) (va:Value) (L0:List UInt8) (c:Md.Cn) (vt vx vb vr:Value) (w:World) (hV:VarsAt w0 va vars) (hn:∀ v∈vars,v.name.data.toList.length<=16) (hw:Way w0 w) (hC:CnAt w0 c vt vx vb vr) (hF:Md.Fit c vars.length) (hN:Nums c) (hk:c.kind=2) (h:yf w0.heap.size b va L0 w) (hl:L0.length<=500000000) :
  Calls Tryz.prog 23 #[.pointer (some ⟨b,0,none⟩),.agg (sayC ⟨#[]⟩ 0 0 c.kind c.op vt c.k c.v c.x c.y vx vb vr)] w fun e w'=>e=.returned (.tuple #[])/\yf w0.heap.size b va (L0++Md.conT vars c++[10]) w'/\Kq w0.heap.size w w':=by
 have _:=hC;have _:=hN
 rw [hk]
 have hd:(⟨#[110,101]⟩:ByteArray).data.toList.length<=8:=by decide
 have hx:Md.conT vars c=(⟨#[110,101]⟩:ByteArray).data.toList++((Md.namesT vars [c.x,c.y])++(Md.numsT [c.k])):=by
  simp [Md.conT,Md.wordT,Md.restT,hk,Md.numsT,Md.namesT]
 have hT:((Md.namesT vars [c.x,c.y])++(Md.numsT [c.k])).length<=1000000:=by
  have l0:=(zj (xs:=[c.x,c.y]) hn (fun z hz=>by simp at hz;rcases hz with rfl | rfl;exact hF.x;exact hF.y))
  have l1:=(xb (xs:=[c.k]) (fun z hz=>by simp at hz;subst hz;exact hF.k))
  have l9:=hF.tl
  have l8:=hF.xl
  have l7:=hF.bl
  have l6:=hF.rl
  simp only [List.length_append,List.length_cons,List.length_nil] at *
  omega
 refine (zQ b va L0 ((Md.namesT vars [c.x,c.y])++(Md.numsT [c.k])) ⟨#[]⟩ 0 0 2 c.op vt c.k c.v c.x c.y vx vb vr ⟨#[110,101]⟩ 85 86 w hw y2z y2I (fun w' hw' hp'=>?_) h (by rw [ze];omega) hT).mono ?_
 ·refine (y32 vars b va _ ⟨#[]⟩ 0 0 2 c.op vt c.k c.v c.x c.y vx vb vr w' hV hn hw' (fun z hz=>by simp at hz;rcases hz with rfl | rfl;exact hF.x;exact hF.y) (fun z hz=>by simp at hz;subst hz;exact hF.k) hp' (by rw [List.length_append];omega)).mono ?_
  rintro e w2 ⟨he,hp,hq⟩
  refine ⟨he,?_,hq⟩
  simpa using hp
 ·rintro e w2 ⟨he,hp,hq⟩
  exact ⟨he,app3 hp hx,hq⟩
theorem y33 {w0:World} (vars:List Md.Vr) (b:Nat) (va:Value) (L0:List UInt8) (c:Md.Cn) (vt vx vb vr:Value) (w:World) (hV:VarsAt w0 va vars) (hn:∀ v∈vars,v.name.data.toList.length<=16) (hw:Way w0 w) (hC:CnAt w0 c vt vx vb vr) (hF:Md.Fit c vars.length) (hN:Nums c) (hk:c.kind=3) (h:yf w0.heap.size b va L0 w) (hl:L0.length<=500000000) :
  Calls Tryz.prog 23 #[.pointer (some ⟨b,0,none⟩),.agg (sayC ⟨#[]⟩ 0 0 c.kind c.op vt c.k c.v c.x c.y vx vb vr)] w fun e w'=>e=.returned (.tuple #[])/\yf w0.heap.size b va (L0++Md.conT vars c++[10]) w'/\Kq w0.heap.size w w':=by
 have _:=hC;have _:=hN
 rw [hk]
 have hd:(⟨#[97,108,108,100,105,102,102]⟩:ByteArray).data.toList.length<=8:=by decide
 have hx:Md.conT vars c=(⟨#[97,108,108,100,105,102,102]⟩:ByteArray).data.toList++(Md.namesT vars c.xs):=by
  simp [Md.conT,Md.wordT,Md.restT,hk]
 have hT:(Md.namesT vars c.xs).length<=1000000:=by
  have l0:=(zj hn hF.xs)
  have l9:=hF.tl
  have l8:=hF.xl
  have l7:=hF.bl
  have l6:=hF.rl
  omega
 refine (zQ b va L0 (Md.namesT vars c.xs) ⟨#[]⟩ 0 0 3 c.op vt c.k c.v c.x c.y vx vb vr ⟨#[97,108,108,100,105,102,102]⟩ 87 88 w hw y2A y2J (fun w' hw' hp'=>?_) h (by rw [ze];omega) hT).mono ?_
 ·refine (y34 vars b va _ ⟨#[]⟩ 0 0 3 c.op vt c.k c.v c.x c.y vx vb vr w' hV hn hw' hC.x hF.xs hF.xl hp' (by rw [List.length_append];omega)).mono ?_
  rintro e w2 ⟨he,hp,hq⟩
  refine ⟨he,?_,hq⟩
  simpa using hp
 ·rintro e w2 ⟨he,hp,hq⟩
  exact ⟨he,app3 hp hx,hq⟩
theorem y35 {w0:World} (vars:List Md.Vr) (b:Nat) (va:Value) (L0:List UInt8) (c:Md.Cn) (vt vx vb vr:Value) (w:World) (hV:VarsAt w0 va vars) (hn:∀ v∈vars,v.name.data.toList.length<=16) (hw:Way w0 w) (hC:CnAt w0 c vt vx vb vr) (hF:Md.Fit c vars.length) (hN:Nums c) (hk:c.kind=4) (h:yf w0.heap.size b va L0 w) (hl:L0.length<=500000000) :
  Calls Tryz.prog 23 #[.pointer (some ⟨b,0,none⟩),.agg (sayC ⟨#[]⟩ 0 0 c.kind c.op vt c.k c.v c.x c.y vx vb vr)] w fun e w'=>e=.returned (.tuple #[])/\yf w0.heap.size b va (L0++Md.conT vars c++[10]) w'/\Kq w0.heap.size w w':=by
 have _:=hC;have _:=hN
 rw [hk]
 have hd:(⟨#[101,108,101,109,101,110,116]⟩:ByteArray).data.toList.length<=8:=by decide
 have hx:Md.conT vars c=(⟨#[101,108,101,109,101,110,116]⟩:ByteArray).data.toList++((Md.namesT vars [c.x,c.y])++(Md.numsT c.table)):=by
  simp [Md.conT,Md.wordT,Md.restT,hk,Md.namesT]
 have hT:((Md.namesT vars [c.x,c.y])++(Md.numsT c.table)).length<=1000000:=by
  have l0:=(zj (xs:=[c.x,c.y]) hn (fun z hz=>by simp at hz;rcases hz with rfl | rfl;exact hF.x;exact hF.y))
  have l1:=(xb hN.b)
  have l9:=hF.tl
  have l8:=hF.xl
  have l7:=hF.bl
  have l6:=hF.rl
  simp only [List.length_append,List.length_cons,List.length_nil] at *
  omega
 refine (zQ b va L0 ((Md.namesT vars [c.x,c.y])++(Md.numsT c.table)) ⟨#[]⟩ 0 0 4 c.op vt c.k c.v c.x c.y vx vb vr ⟨#[101,108,101,109,101,110,116]⟩ 89 91 w hw y2B y2K (fun w' hw' hp'=>?_) h (by rw [ze];omega) hT).mono ?_
 ·refine (y36 vars b va _ ⟨#[]⟩ 0 0 4 c.op vt c.k c.v c.x c.y vx vb vr w' hV hn hw' (fun z hz=>by simp at hz;rcases hz with rfl | rfl;exact hF.x;exact hF.y) hC.b hN.b hF.bl hp' (by rw [List.length_append];omega)).mono ?_
  rintro e w2 ⟨he,hp,hq⟩
  refine ⟨he,?_,hq⟩
  simpa using hp
 ·rintro e w2 ⟨he,hp,hq⟩
  exact ⟨he,app3 hp hx,hq⟩
theorem y37 {w0:World} (vars:List Md.Vr) (b:Nat) (va:Value) (L0:List UInt8) (c:Md.Cn) (vt vx vb vr:Value) (w:World) (hV:VarsAt w0 va vars) (hn:∀ v∈vars,v.name.data.toList.length<=16) (hw:Way w0 w) (hC:CnAt w0 c vt vx vb vr) (hF:Md.Fit c vars.length) (hN:Nums c) (hk:c.kind=5) (h:yf w0.heap.size b va L0 w) (hl:L0.length<=500000000) :
  Calls Tryz.prog 23 #[.pointer (some ⟨b,0,none⟩),.agg (sayC ⟨#[]⟩ 0 0 c.kind c.op vt c.k c.v c.x c.y vx vb vr)] w fun e w'=>e=.returned (.tuple #[])/\yf w0.heap.size b va (L0++Md.conT vars c++[10]) w'/\Kq w0.heap.size w w':=by
 have _:=hC;have _:=hN
 rw [hk]
 have hd:(⟨#[109,97,120]⟩:ByteArray).data.toList.length<=8:=by decide
 have hx:Md.conT vars c=(⟨#[109,97,120]⟩:ByteArray).data.toList++((Md.namesT vars [c.y])++(Md.namesT vars c.xs)):=by
  simp [Md.conT,Md.wordT,Md.restT,hk,Md.namesT]
 have hT:((Md.namesT vars [c.y])++(Md.namesT vars c.xs)).length<=1000000:=by
  have l0:=(zj (xs:=[c.y]) hn (fun z hz=>by simp at hz;subst hz;exact hF.y))
  have l1:=(zj hn hF.xs)
  have l9:=hF.tl
  have l8:=hF.xl
  have l7:=hF.bl
  have l6:=hF.rl
  simp only [List.length_append,List.length_cons,List.length_nil] at *
  omega
 refine (zQ b va L0 ((Md.namesT vars [c.y])++(Md.namesT vars c.xs)) ⟨#[]⟩ 0 0 5 c.op vt c.k c.v c.x c.y vx vb vr ⟨#[109,97,120]⟩ 70 73 w hw y2C Qk (fun w' hw' hp'=>?_) h (by rw [ze];omega) hT).mono ?_
 ·refine (Ql vars b va _ ⟨#[]⟩ 0 0 5 c.op vt c.k c.v c.x c.y vx vb vr w' hV hn hw' (fun z hz=>by simp at hz;subst hz;exact hF.y) hC.x hF.xs hF.xl hp' (by rw [List.length_append];omega)).mono ?_
  rintro e w2 ⟨he,hp,hq⟩
  refine ⟨he,?_,hq⟩
  simpa using hp
 ·rintro e w2 ⟨he,hp,hq⟩
  exact ⟨he,app3 hp hx,hq⟩
theorem y38 {w0:World} (vars:List Md.Vr) (b:Nat) (va:Value) (L0:List UInt8) (c:Md.Cn) (vt vx vb vr:Value) (w:World) (hV:VarsAt w0 va vars) (hn:∀ v∈vars,v.name.data.toList.length<=16) (hw:Way w0 w) (hC:CnAt w0 c vt vx vb vr) (hF:Md.Fit c vars.length) (hN:Nums c) (hk:c.kind=6) (h:yf w0.heap.size b va L0 w) (hl:L0.length<=500000000) :
  Calls Tryz.prog 23 #[.pointer (some ⟨b,0,none⟩),.agg (sayC ⟨#[]⟩ 0 0 c.kind c.op vt c.k c.v c.x c.y vx vb vr)] w fun e w'=>e=.returned (.tuple #[])/\yf w0.heap.size b va (L0++Md.conT vars c++[10]) w'/\Kq w0.heap.size w w':=by
 have _:=hC;have _:=hN
 rw [hk]
 have hd:(⟨#[109,105,110]⟩:ByteArray).data.toList.length<=8:=by decide
 have hx:Md.conT vars c=(⟨#[109,105,110]⟩:ByteArray).data.toList++((Md.namesT vars [c.y])++(Md.namesT vars c.xs)):=by
  simp [Md.conT,Md.wordT,Md.restT,hk,Md.namesT]
 have hT:((Md.namesT vars [c.y])++(Md.namesT vars c.xs)).length<=1000000:=by
  have l0:=(zj (xs:=[c.y]) hn (fun z hz=>by simp at hz;subst hz;exact hF.y))
  have l1:=(zj hn hF.xs)
  have l9:=hF.tl
  have l8:=hF.xl
  have l7:=hF.bl
  have l6:=hF.rl
  simp only [List.length_append,List.length_cons,List.length_nil] at *
  omega
 refine (zQ b va L0 ((Md.namesT vars [c.y])++(Md.namesT vars c.xs)) ⟨#[]⟩ 0 0 6 c.op vt c.k c.v c.x c.y vx vb vr ⟨#[109,105,110]⟩ 70 73 w hw y2D Qk (fun w' hw' hp'=>?_) h (by rw [ze];omega) hT).mono ?_
 ·refine (Ql vars b va _ ⟨#[]⟩ 0 0 6 c.op vt c.k c.v c.x c.y vx vb vr w' hV hn hw' (fun z hz=>by simp at hz;subst hz;exact hF.y) hC.x hF.xs hF.xl hp' (by rw [List.length_append];omega)).mono ?_
  rintro e w2 ⟨he,hp,hq⟩
  refine ⟨he,?_,hq⟩
  simpa using hp
 ·rintro e w2 ⟨he,hp,hq⟩
  exact ⟨he,app3 hp hx,hq⟩
theorem y39 {w0:World} (vars:List Md.Vr) (b:Nat) (va:Value) (L0:List UInt8) (c:Md.Cn) (vt vx vb vr:Value) (w:World) (hV:VarsAt w0 va vars) (hn:∀ v∈vars,v.name.data.toList.length<=16) (hw:Way w0 w) (hC:CnAt w0 c vt vx vb vr) (hF:Md.Fit c vars.length) (hN:Nums c) (hk:c.kind=7) (h:yf w0.heap.size b va L0 w) (hl:L0.length<=500000000) :
  Calls Tryz.prog 23 #[.pointer (some ⟨b,0,none⟩),.agg (sayC ⟨#[]⟩ 0 0 c.kind c.op vt c.k c.v c.x c.y vx vb vr)] w fun e w'=>e=.returned (.tuple #[])/\yf w0.heap.size b va (L0++Md.conT vars c++[10]) w'/\Kq w0.heap.size w w':=by
 have _:=hC;have _:=hN
 rw [hk]
 have hd:(⟨#[114,101,105,102]⟩:ByteArray).data.toList.length<=8:=by decide
 have hx:Md.conT vars c=(⟨#[114,101,105,102]⟩:ByteArray).data.toList++((((Md.namesT vars [c.x])++((32 :: (⟨#[60,61]⟩:ByteArray).data.toList)))++(Md.numsT [c.k]))++(Md.sumT vars c.terms)):=by
  simp [Md.conT,Md.wordT,Md.restT,hk,Md.numsT,Md.namesT]
 have hT:((((Md.namesT vars [c.x])++((32 :: (⟨#[60,61]⟩:ByteArray).data.toList)))++(Md.numsT [c.k]))++(Md.sumT vars c.terms)).length<=1000000:=by
  have l0:=(zj (xs:=[c.x]) hn (fun z hz=>by simp at hz;subst hz;exact hF.x))
  have l1:=(show (32 :: (⟨#[60,61]⟩:ByteArray).data.toList).length<=3 by decide)
  have l2:=(xb (xs:=[c.k]) (fun z hz=>by simp at hz;subst hz;exact hF.k))
  have l3:=(Yt hn hF.tx hF.tc)
  have l9:=hF.tl
  have l8:=hF.xl
  have l7:=hF.bl
  have l6:=hF.rl
  simp only [List.length_append,List.length_cons,List.length_nil] at *
  omega
 refine (zQ b va L0 ((((Md.namesT vars [c.x])++((32 :: (⟨#[60,61]⟩:ByteArray).data.toList)))++(Md.numsT [c.k]))++(Md.sumT vars c.terms)) ⟨#[]⟩ 0 0 7 c.op vt c.k c.v c.x c.y vx vb vr ⟨#[114,101,105,102]⟩ 92 93 w hw y2E y2L (fun w' hw' hp'=>?_) h (by rw [ze];omega) hT).mono ?_
 ·refine (y3a vars b va _ ⟨#[]⟩ 0 0 7 c.op vt c.k c.v c.x c.y vx vb vr w' hV hn hw' (fun z hz=>by simp at hz;subst hz;exact hF.x) (fun z hz=>by simp at hz;subst hz;exact hF.k) hC.t hF.tx hF.tc hF.tl hp' (by rw [List.length_append];omega)).mono ?_
  rintro e w2 ⟨he,hp,hq⟩
  refine ⟨he,?_,hq⟩
  simpa using hp
 ·rintro e w2 ⟨he,hp,hq⟩
  exact ⟨he,app3 hp hx,hq⟩
theorem y3b {w0:World} (vars:List Md.Vr) (b:Nat) (va:Value) (L0:List UInt8) (c:Md.Cn) (vt vx vb vr:Value) (w:World) (hV:VarsAt w0 va vars) (hn:∀ v∈vars,v.name.data.toList.length<=16) (hw:Way w0 w) (hC:CnAt w0 c vt vx vb vr) (hF:Md.Fit c vars.length) (hN:Nums c) (hk:c.kind=8) (h:yf w0.heap.size b va L0 w) (hl:L0.length<=500000000) :
  Calls Tryz.prog 23 #[.pointer (some ⟨b,0,none⟩),.agg (sayC ⟨#[]⟩ 0 0 c.kind c.op vt c.k c.v c.x c.y vx vb vr)] w fun e w'=>e=.returned (.tuple #[])/\yf w0.heap.size b va (L0++Md.conT vars c++[10]) w'/\Kq w0.heap.size w w':=by
 have _:=hC;have _:=hN
 rw [hk]
 have hd:(⟨#[116,97,98,108,101]⟩:ByteArray).data.toList.length<=8:=by decide
 have hx:Md.conT vars c=(⟨#[116,97,98,108,101]⟩:ByteArray).data.toList++((Md.namesT vars c.xs)++(Md.rowsT c.rows)):=by
  simp [Md.conT,Md.wordT,Md.restT,hk]
 have hT:((Md.namesT vars c.xs)++(Md.rowsT c.rows)).length<=1000000:=by
  have l0:=(zj hn hF.xs)
  have l1:=(Qj hN.r)
  have l9:=hF.tl
  have l8:=hF.xl
  have l7:=hF.bl
  have l6:=hF.rl
  simp only [List.length_append,List.length_cons,List.length_nil] at *
  omega
 refine (zQ b va L0 ((Md.namesT vars c.xs)++(Md.rowsT c.rows)) ⟨#[]⟩ 0 0 8 c.op vt c.k c.v c.x c.y vx vb vr ⟨#[116,97,98,108,101]⟩ 94 95 w hw y2F y2M (fun w' hw' hp'=>?_) h (by rw [ze];omega) hT).mono ?_
 ·refine (y3c vars b va _ ⟨#[]⟩ 0 0 8 c.op vt c.k c.v c.x c.y vx vb vr w' hV hn hw' hC.x hF.xs hF.xl hC.r hN.r hF.rl hp' (by rw [List.length_append];omega)).mono ?_
  rintro e w2 ⟨he,hp,hq⟩
  refine ⟨he,?_,hq⟩
  simpa using hp
 ·rintro e w2 ⟨he,hp,hq⟩
  exact ⟨he,app3 hp hx,hq⟩
theorem y3d {w0:World} (vars:List Md.Vr) (b:Nat) (va:Value) (L0:List UInt8) (c:Md.Cn) (vt vx vb vr:Value) (w:World) (hV:VarsAt w0 va vars) (hn:∀ v∈vars,v.name.data.toList.length<=16) (hw:Way w0 w) (hC:CnAt w0 c vt vx vb vr) (hF:Md.Fit c vars.length) (hN:Nums c) (h:yf w0.heap.size b va L0 w) (hl:L0.length<=500000000) :
  Calls Tryz.prog 23 #[.pointer (some ⟨b,0,none⟩),.agg (sayC ⟨#[]⟩ 0 0 c.kind c.op vt c.k c.v c.x c.y vx vb vr)] w fun e w'=>e=.returned (.tuple #[])/\yf w0.heap.size b va (L0++Md.conT vars c++[10]) w'/\Kq w0.heap.size w w':=by
 have hkind:=hF.kind
 have hop:c.kind=1∨c.kind=9->c.op=1∨c.op=2∨c.op=3:=fun hk=>by
  have:=hF.op (by rcases hk with hk | hk <;> simp [Md.fOp,hk])
  omega
 rcases (show c.kind=1∨c.kind=2∨c.kind=3∨c.kind=4∨c.kind=5∨c.kind=6∨c.kind=7∨c.kind=8∨c.kind=9 by omega) with hk | hk | hk | hk | hk | hk | hk | hk | hk
 ·rcases hop (.inl hk) with ho | ho | ho
  ·exact y2P vars b va L0 c vt vx vb vr w hV hn hw hC hF hN hk ho h hl
  ·exact y2T vars b va L0 c vt vx vb vr w hV hn hw hC hF hN hk ho h hl
  ·exact y2X vars b va L0 c vt vx vb vr w hV hn hw hC hF hN hk ho h hl
 ·exact y31 vars b va L0 c vt vx vb vr w hV hn hw hC hF hN hk h hl
 ·exact y33 vars b va L0 c vt vx vb vr w hV hn hw hC hF hN hk h hl
 ·exact y35 vars b va L0 c vt vx vb vr w hV hn hw hC hF hN hk h hl
 ·exact y37 vars b va L0 c vt vx vb vr w hV hn hw hC hF hN hk h hl
 ·exact y38 vars b va L0 c vt vx vb vr w hV hn hw hC hF hN hk h hl
 ·exact y39 vars b va L0 c vt vx vb vr w hV hn hw hC hF hN hk h hl
 ·exact y3b vars b va L0 c vt vx vb vr w hV hn hw hC hF hN hk h hl
 ·rcases hop (.inr hk) with ho | ho | ho
  ·exact y2R vars b va L0 c vt vx vb vr w hV hn hw hC hF hN hk ho h hl
  ·exact y2V vars b va L0 c vt vx vb vr w hV hn hw hC hF hN hk ho h hl
  ·exact y2Z vars b va L0 c vt vx vb vr w hV hn hw hC hF hN hk ho h hl
theorem y3e {w0:World} (vars:List Md.Vr) (b:Nat) (va:Value) (L0:List UInt8) (x:Md.Vr) (w:World) (hV:VarsAt w0 va vars) (hn:∀ v∈vars,v.name.data.toList.length<=16) (hw:Way w0 w) (hx:x.name.data.toList.length<=16) (h1:-1000000000<=x.lo/\x.lo<=1000000000) (h2:-1000000000<=x.hi/\x.hi<=1000000000) (h:yf w0.heap.size b va L0 w) (hl:L0.length<=500000000) :
  Calls Tryz.prog 23 #[.pointer (some ⟨b,0,none⟩),.agg (sayC x.name x.lo x.hi 10 0 (.slice none 0 0) 0 0 0 0 (.slice none 0 0) (.slice none 0 0) (.slice none 0 0))] w fun e w'=>e=.returned (.tuple #[])/\yf w0.heap.size b va (L0++Md.varT x++[10]) w'/\Kq w0.heap.size w w':=by
 have hd:(⟨#[118,97,114]⟩:ByteArray).data.toList.length<=8:=by decide
 have hxx:Md.varT x=(⟨#[118,97,114]⟩:ByteArray).data.toList++((32 :: x.name.data.toList)++(Md.numsT [x.lo,x.hi])):=by
  simp [Md.varT,Md.numsT]
 have hT:((32 :: x.name.data.toList)++(Md.numsT [x.lo,x.hi])).length<=1000000:=by
  have l0:=xb (xs:=[x.lo,x.hi]) (fun z hz=>by simp at hz;rcases hz with rfl | rfl;exact h1;exact h2)
  simp only [List.length_append,List.length_cons,List.length_nil] at *
  omega
 refine (zQ b va L0 ((32 :: x.name.data.toList)++(Md.numsT [x.lo,x.hi])) x.name x.lo x.hi 10 0 _ 0 0 0 0 _ _ _ ⟨#[118,97,114]⟩ 75 76 w hw y2G y2O (fun w' hw' hp'=>?_) h (by rw [ze];omega) hT).mono ?_
 ·refine (y3f vars b va _ x.name x.lo x.hi 10 0 _ 0 0 0 0 _ _ _ w' hV hn hw' hx (fun z hz=>by simp at hz;rcases hz with rfl | rfl;exact h1;exact h2) hp' (by rw [List.length_append];omega)).mono ?_
  rintro e w2 ⟨he,hp,hq⟩
  refine ⟨he,?_,hq⟩
  simpa using hp
 ·rintro e w2 ⟨he,hp,hq⟩
  exact ⟨he,app3 hp hxx,hq⟩
theorem y3g {w0:World} (vars:List Md.Vr) (b:Nat) (va:Value) (L0:List UInt8) (ts:List (Int × Int)) (vt:Value) (w:World) (hV:VarsAt w0 va vars) (hn:∀ v∈vars,v.name.data.toList.length<=16) (hw:Way w0 w) (hts:TermsAt w0 vt ts) (htx:∀ t∈ts,0<=t.2/\t.2<(vars.length:Int)) (htc:∀ t∈ts,-1000000<=t.1/\t.1<=1000000) (htl:ts.length<=64) (h:yf w0.heap.size b va L0 w) (hl:L0.length<=500000000) :
  Calls Tryz.prog 23 #[.pointer (some ⟨b,0,none⟩),.agg (sayC ⟨#[]⟩ 0 0 11 0 vt 0 0 0 0 (.slice none 0 0) (.slice none 0 0) (.slice none 0 0))] w fun e w'=>e=.returned (.tuple #[])/\yf w0.heap.size b va (L0++(109 :: 105 :: 110 :: 105 :: 109 :: 105 :: 122 :: 101 :: Md.sumT vars ts)++[10]) w'/\Kq w0.heap.size w w':=by
 have hd:(⟨#[109,105,110,105,109,105,122,101]⟩:ByteArray).data.toList.length<=8:=by decide
 have hT:(Md.sumT vars ts).length<=1000000:=by
  have l0:=Yt hn htx htc
  omega
 refine (zQ b va L0 (Md.sumT vars ts) ⟨#[]⟩ 0 0 11 0 vt 0 0 0 0 _ _ _ ⟨#[109,105,110,105,109,105,122,101]⟩ 99 100 w hw y2H y2N (fun w' hw' hp'=>?_) h (by rw [ze];omega) hT).mono ?_
 ·refine (y3h vars b va _ ⟨#[]⟩ 0 0 11 0 vt 0 0 0 0 _ _ _ w' hV hn hw' hts htx htc htl hp' (by rw [List.length_append];omega)).mono ?_
  rintro e w2 ⟨he,hp,hq⟩
  exact ⟨he,hp,hq⟩
 ·rintro e w2 ⟨he,hp,hq⟩
  exact ⟨he,app3 hp rfl,hq⟩
end Go.Proofs.YthohnmplbjhjaaaGreatDoor
