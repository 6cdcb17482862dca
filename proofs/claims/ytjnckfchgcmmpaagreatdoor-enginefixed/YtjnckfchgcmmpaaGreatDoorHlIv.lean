import Derived.Test.YtjnckfchgcmmpaaGreatDoorJ05
import Derived.Test.YtjnckfchgcmmpaaGreatDoorHlBits
import Derived.BigQuiet
import Derived.Deep.RegionHeld3
namespace Go.Proofs.YtjnckfchgcmmpaaGreatDoor
open Go.RowKit
set_option maxRecDepth 10000
set_option maxHeartbeats 8000000
structure Gr where
  lo:Int
  hi:Int
  x:Nat
  n:Int
structure Gr.Ok (g:Gr):Prop where
  l1:-2000000000<=g.lo
  l2:g.lo<=2000000000
  h1:-2000000000<=g.hi
  h2:g.hi<=2000000000
  x:g.x<32
  n1:0<=g.n
  n2:g.n<=1000000
structure Iv where
  lo:Int
  hi:Int
  f:Nat->Bool
  n:Int
structure Iv.Ok (i:Iv):Prop where
  l1:-2000000000<=i.lo
  l2:i.lo<=2000000000
  h1:-2000000000<=i.hi
  h2:i.hi<=2000000000
  n1:0<=i.n
  n2:i.n<=100000000
def Gr.val (g:Gr):Value:=.agg #[.int .i64 g.lo,.int .i64 g.hi,.int .i64 (g.x:Int),.int .i64 g.n]
def Iv.val (i:Iv):Value:=.agg #[.int .i64 i.lo,.int .i64 i.hi,.int .u8 (wd i.f 0:Int),.int .u8 (wd i.f 1:Int),.int .u8 (wd i.f 2:Int),.int .u8 (wd i.f 3:Int),.int .i64 i.n]
def Iv.num (i:Iv):Int:=i.hi-i.lo+1
theorem numbers_any (a b:Int) (w:World) (h1:-2000000000<=a) (h2:a<=2000000000) (h3:-2000000000<=b) (h4:b<=2000000000):Calls Tryz.prog 127 #[.agg #[.int .i64 a,.int .i64 b]] w fun e w'=>e=.returned (.int .i64 (b-a+1))/\Below w.heap.size w w':=by
  go_enter Tryz.func127,Tryz.ntmps127;go_wp2;go_ret;exact ⟨rfl,(Below.refl _ _).alloc (Nat.le_refl _) _⟩
theorem isOver_any (i:Iv) (h:i.Ok) (w:World):Calls Tryz.prog 111 #[i.val] w fun e w'=>e=.returned (.bool (decide (i.num<i.n)))/\Below w.heap.size w w':=by
  obtain ⟨a,b,f,n⟩:=i;unfold Iv.val Iv.num;dsimp only;obtain ⟨l1,l2,h1,h2,n1,n2⟩:=h;dsimp only at l1 l2 h1 h2 n1 n2;generalize wd f 0=a0
  generalize wd f 1=a1
  generalize wd f 2=a2
  generalize wd f 3=a3
  obtain ⟨W,hW⟩:∃ W,w.alloc (.cells #[.int .i64 a,.int .i64 b,.int .u8 (a0:Int),.int .u8 (a1:Int),.int .u8 (a2:Int),.int .u8 (a3:Int),.int .i64 n] 157)=W:=⟨_,rfl⟩;have HB:Hid (Below w.heap.size w W):=bAe hW;have g0:W.heap[w.heap.size]?=some (.cells #[.int .i64 a,.int .i64 b,.int .u8 (a0:Int),.int .u8 (a1:Int),.int .u8 (a2:Int),.int .u8 (a3:Int),.int .i64 n] 157 (0,0)):=hAe hW;have HC:Hid (∀ w',Below W.heap.size W w'->w'.cell? ⟨w.heap.size,0,none⟩=some (.int .i64 a)/\w'.cell? ⟨w.heap.size,1,none⟩=some (.int .i64 b)/\w'.cell? ⟨w.heap.size,6,none⟩=some (.int .i64 n)):=fun w' hb=>by
    have:=(hb.block _ (hLt g0)).trans g0;exact ⟨cell_of this 0,cell_of this 1,cell_of this 6⟩
  have HN:Hid (∀ w',Calls Tryz.prog 127 #[.agg #[.int .i64 a,.int .i64 b]] w' fun e w2=>e=.returned (.int .i64 (b-a+1))/\Below w'.heap.size w' w2):=fun w'=>numbers_any a b w' l1 l2 h1 h2
  clear g0;go_enter Tryz.func111,Tryz.ntmps111;go_upto_region 1 with fail
  try rw [hW]
  clear hW;go_region_held3 (fun w'=>w'.cell? ⟨w.heap.size,0,none⟩=some (.int .i64 a)/\w'.cell? ⟨w.heap.size,1,none⟩=some (.int .i64 b)/\w'.cell? ⟨w.heap.size,6,none⟩=some (.int .i64 n))
    (first | exact HC.out _ HB4.out | exact HC.out _ (Below.refl _ _).drew)
    (first | (go_at_call 127;refine cA (HN.out _) ?_;rintro e w4 ⟨rfl,hb4⟩;(have HB4:Hid (Below W.heap.size W w4):=(Below.refl _ _).drew.trans hb4);clear hb4))
  go_wp2_with fail
  go_ret;exact ⟨rfl,HB.out.trans (HB4.out.mono HB.out.size)⟩
theorem isCrowd_any (i:Iv) (h:i.Ok) (w:World):Calls Tryz.prog 148 #[i.val] w fun e w'=>e=.returned (.bool (decide (i.num<=i.n)))/\Below w.heap.size w w':=by
  obtain ⟨a,b,f,n⟩:=i;unfold Iv.val Iv.num;dsimp only;obtain ⟨l1,l2,h1,h2,n1,n2⟩:=h;dsimp only at l1 l2 h1 h2 n1 n2;generalize wd f 0=a0
  generalize wd f 1=a1
  generalize wd f 2=a2
  generalize wd f 3=a3
  obtain ⟨W,hW⟩:∃ W,w.alloc (.cells #[.int .i64 a,.int .i64 b,.int .u8 (a0:Int),.int .u8 (a1:Int),.int .u8 (a2:Int),.int .u8 (a3:Int),.int .i64 n] 157)=W:=⟨_,rfl⟩;have HB:Hid (Below w.heap.size w W):=bAe hW;have g0:W.heap[w.heap.size]?=some (.cells #[.int .i64 a,.int .i64 b,.int .u8 (a0:Int),.int .u8 (a1:Int),.int .u8 (a2:Int),.int .u8 (a3:Int),.int .i64 n] 157 (0,0)):=hAe hW;have HC:Hid (∀ w',Below W.heap.size W w'->w'.cell? ⟨w.heap.size,0,none⟩=some (.int .i64 a)/\w'.cell? ⟨w.heap.size,1,none⟩=some (.int .i64 b)/\w'.cell? ⟨w.heap.size,6,none⟩=some (.int .i64 n)):=fun w' hb=>by
    have:=(hb.block _ (hLt g0)).trans g0;exact ⟨cell_of this 0,cell_of this 1,cell_of this 6⟩
  have HN:Hid (∀ w',Calls Tryz.prog 127 #[.agg #[.int .i64 a,.int .i64 b]] w' fun e w2=>e=.returned (.int .i64 (b-a+1))/\Below w'.heap.size w' w2):=fun w'=>numbers_any a b w' l1 l2 h1 h2
  clear g0;go_enter Tryz.func148,Tryz.ntmps148;go_upto_region 1 with fail
  try rw [hW]
  clear hW;go_region_held3 (fun w'=>w'.cell? ⟨w.heap.size,0,none⟩=some (.int .i64 a)/\w'.cell? ⟨w.heap.size,1,none⟩=some (.int .i64 b)/\w'.cell? ⟨w.heap.size,6,none⟩=some (.int .i64 n))
    (first | exact HC.out _ HB4.out | exact HC.out _ (Below.refl _ _).drew)
    (first | (go_at_call 127;refine cA (HN.out _) ?_;rintro e w4 ⟨rfl,hb4⟩;(have HB4:Hid (Below W.heap.size W w4):=(Below.refl _ _).drew.trans hb4);clear hb4))
  go_wp2_with fail
  go_ret;exact ⟨rfl,HB.out.trans (HB4.out.mono HB.out.size)⟩
def Iv.with (i:Iv) (g:Gr):Iv:=⟨i.lo,i.hi,bWith i.f g.x,i.n+g.n⟩
theorem info76s:(Tryz.prog.info? 157).map (·.size)=some 7:=by kernel_rfl
theorem set7 {w:World} {N:Nat} {a0 a1 a2 a3 a4 a5 a6:Value} {t:TypeId} (h:w.heap[N]?=some (.cells #[a0,a1,a2,a3,a4,a5,a6] t (0,0))) (b0 b1 b2 b3 b4 b5 b6:Value):(((((((w.setCell ⟨N,0,none⟩ b0).setCell ⟨N,1,none⟩ b1).setCell ⟨N,2,none⟩ b2).setCell ⟨N,3,none⟩ b3).setCell ⟨N,4,none⟩ b4).setCell ⟨N,5,none⟩ b5).setCell ⟨N,6,none⟩ b6).heap[N]?=some (.cells #[b0,b1,b2,b3,b4,b5,b6] t (0,0)):=by
  have hE:=heap_setCell_same _ N 6 _ t b6 (heap_setCell_same _ N 5 _ t b5 (heap_setCell_same _ N 4 _ t b4 (heap_setCell_same _ N 3 _ t b3 (heap_setCell_same _ N 2 _ t b2 (heap_setCell_same _ N 1 _ t b1 (heap_setCell_same w N 0 _ t b0 h))))));simpa only [List.setIfInBounds_toArray,List.set_cons_zero,List.set_cons_succ] using hE
theorem alloc3b (w:World) (p q r:Obj):Below w.heap.size w (((w.alloc p).alloc q).alloc r):=(((Below.refl _ _).alloc (Nat.le_refl _) _).alloc (by simp) _).alloc (by simp;omega) _
theorem ivWith_any (i:Iv) (g:Gr) (h:i.Ok) (hg:g.Ok) (w:World):Calls Tryz.prog 147 #[i.val,g.val] w fun e w'=>e=.returned (i.with g).val/\Below w.heap.size w w':=by
  obtain ⟨a,b,f,n⟩:=i;obtain ⟨ga,gb,x,gn⟩:=g;unfold Iv.with Iv.val Gr.val;dsimp only;obtain ⟨l1,l2,h1,h2,n1,n2⟩:=h;obtain ⟨k1,k2,k3,k4,kx,k5,k6⟩:=hg;dsimp only at l1 l2 h1 h2 n1 n2 k1 k2 k3 k4 kx k5 k6;have HW0:∀ w',Calls Tryz.prog 180 #[bVal f,.int .i64 (x:Int)] w' fun e w2=>e=.returned (bVal (bWith f x))/\Below w'.heap.size w' w2:=fun w'=>bWith_any f x kx w'
  unfold bVal at HW0;generalize wd f 0=a0 at *
  generalize wd f 1=a1 at *
  generalize wd f 2=a2 at *
  generalize wd f 3=a3 at *
  generalize wd (bWith f x) 0=c0 at *
  generalize wd (bWith f x) 1=c1 at *
  generalize wd (bWith f x) 2=c2 at *
  generalize wd (bWith f x) 3=c3 at *
  have HWt:Hid (∀ w',Calls Tryz.prog 180 #[.agg #[.int .u8 (a0:Int),.int .u8 (a1:Int),.int .u8 (a2:Int),.int .u8 (a3:Int)],.int .i64 (x:Int)] w' fun e w2=>e=.returned (.agg #[.int .u8 (c0:Int),.int .u8 (c1:Int),.int .u8 (c2:Int),.int .u8 (c3:Int)])/\Below w'.heap.size w' w2):=HW0;clear HW0;obtain ⟨W,hW⟩:∃ W,((w.alloc (.cells #[.int .i64 a,.int .i64 b,.int .u8 (a0:Int),.int .u8 (a1:Int),.int .u8 (a2:Int),.int .u8 (a3:Int),.int .i64 n] 157)).alloc (.cells #[.int .i64 ga,.int .i64 gb,.int .i64 (x:Int),.int .i64 gn] 160)).alloc (.cells #[.int .i64 0,.int .i64 0,.int .u8 0,.int .u8 0,.int .u8 0,.int .u8 0,.int .i64 0] 157)=W:=⟨_,rfl⟩;have HB:Hid (Below w.heap.size w W):=by rw [<-hW];exact alloc3b w _ _ _
  have g0:W.heap[w.heap.size]?=some (.cells #[.int .i64 a,.int .i64 b,.int .u8 (a0:Int),.int .u8 (a1:Int),.int .u8 (a2:Int),.int .u8 (a3:Int),.int .i64 n] 157 (0,0)):=by rw [<-hW];exact alloc3_0 w _ _ _
  have g1:W.heap[w.heap.size+1]?=some (.cells #[.int .i64 ga,.int .i64 gb,.int .i64 (x:Int),.int .i64 gn] 160 (0,0)):=by rw [<-hW];exact alloc3_1 w _ _ _
  have g2:W.heap[w.heap.size+1+1]?=some (.cells #[.int .i64 0,.int .i64 0,.int .u8 0,.int .u8 0,.int .u8 0,.int .u8 0,.int .i64 0] 157 (0,0)):=by rw [<-hW];exact alloc3_2 w _ _ _
  have HG:Hid (∀ w',Below W.heap.size W w'->w'.heap[w.heap.size]?=some (.cells #[.int .i64 a,.int .i64 b,.int .u8 (a0:Int),.int .u8 (a1:Int),.int .u8 (a2:Int),.int .u8 (a3:Int),.int .i64 n] 157 (0,0))/\w'.heap[w.heap.size+1]?=some (.cells #[.int .i64 ga,.int .i64 gb,.int .i64 (x:Int),.int .i64 gn] 160 (0,0))/\w'.heap[w.heap.size+1+1]?=some (.cells #[.int .i64 0,.int .i64 0,.int .u8 0,.int .u8 0,.int .u8 0,.int .u8 0,.int .i64 0] 157 (0,0))):=fun w' hb=>⟨(hb.block _ (hLt g0)).trans g0,(hb.block _ (hLt g1)).trans g1,(hb.block _ (hLt g2)).trans g2⟩
  have e2:=cell_of g0 2;have e3:=cell_of g0 3;have e4:=cell_of g0 4;have e5:=cell_of g0 5;have q2:=cell_of g1 2;clear g0 g1 g2;go_enter Tryz.func147,Tryz.ntmps147;go_upto_region 1 with fail
  try rw [hW]
  clear hW;go_upto_region 2 with (go_at_call 180;refine cA (HWt.out _) ?_;rintro e w4 ⟨rfl,hb4⟩;(obtain ⟨y0,y1,y2⟩:=HG.out _ hb4);(have j2:=cell_of y0 2);(have j3:=cell_of y0 3);(have j4:=cell_of y0 4);(have j5:=cell_of y0 5);(have jz:∀ i,w4.frozen? ⟨w.heap.size,i,none⟩=false:=fun i=>frozen_of y0 i));obtain ⟨Y,hY⟩:∃ Y,(((w4.setCell ⟨w.heap.size,2,none⟩ (.int .u8 (c0:Int))).setCell ⟨w.heap.size,3,none⟩ (.int .u8 (c1:Int))).setCell ⟨w.heap.size,4,none⟩ (.int .u8 (c2:Int))).setCell ⟨w.heap.size,5,none⟩ (.int .u8 (c3:Int))=Y:=⟨_,rfl⟩;have HBY:Hid (Below w.heap.size w Y):=by
    rw [<-hY];exact ((((HB.out.trans (hb4.mono HB.out.size)).setCell (Nat.le_refl _) _).setCell (Nat.le_refl _) _).setCell (Nat.le_refl _) _).setCell (Nat.le_refl _) _
  have u0:Y.heap[w.heap.size]?=some (.cells #[.int .i64 a,.int .i64 b,.int .u8 (c0:Int),.int .u8 (c1:Int),.int .u8 (c2:Int),.int .u8 (c3:Int),.int .i64 n] 157 (0,0)):=by
    rw [<-hY];have hE:=heap_setCell_same _ w.heap.size 5 _ 157 (.int .u8 (c3:Int)) (heap_setCell_same _ w.heap.size 4 _ 157 (.int .u8 (c2:Int)) (heap_setCell_same _ w.heap.size 3 _ 157 (.int .u8 (c1:Int)) (heap_setCell_same w4 w.heap.size 2 _ 157 (.int .u8 (c0:Int)) y0)));simpa only [List.setIfInBounds_toArray,List.set_cons_zero,List.set_cons_succ] using hE
  have oth:∀ k,k≠w.heap.size->Y.heap[k]?=w4.heap[k]?:=fun k hk=>by
    rw [<-hY,heap_setCell_other _ _ _ _ (by simpa using hk),heap_setCell_other _ _ _ _ (by simpa using hk),heap_setCell_other _ _ _ _ (by simpa using hk),heap_setCell_other _ _ _ _ (by simpa using hk)]
  have u1:=(oth (w.heap.size+1) (by omega)).trans y1;have u2:=(oth (w.heap.size+1+1) (by omega)).trans y2;rw [hY];clear hY oth y0 y1 y2 j2 j3 j4 j5 jz hb4 e2 e3 e4 e5 q2 HWt HG HB;have j6:=cell_of u0 6;have k6:=cell_of u1 3;have jz:=frozen_of u0 6;obtain ⟨X,hX⟩:∃ X,Y.setCell ⟨w.heap.size,6,none⟩ (.int .i64 (n+gn))=X:=⟨_,rfl⟩;have HBX:Hid (Below w.heap.size w X):=by rw [<-hX];exact HBY.out.setCell (Nat.le_refl _) _
  have v0:X.heap[w.heap.size]?=some (.cells #[.int .i64 a,.int .i64 b,.int .u8 (c0:Int),.int .u8 (c1:Int),.int .u8 (c2:Int),.int .u8 (c3:Int),.int .i64 (n+gn)] 157 (0,0)):=by
    rw [<-hX];have hE:=heap_setCell_same _ w.heap.size 6 _ 157 (.int .i64 (n+gn)) u0;simpa only [List.setIfInBounds_toArray,List.set_cons_zero,List.set_cons_succ] using hE
  have v2:X.heap[w.heap.size+1+1]?=some (.cells #[.int .i64 0,.int .i64 0,.int .u8 0,.int .u8 0,.int .u8 0,.int .u8 0,.int .i64 0] 157 (0,0)):=by
    rw [<-hX,heap_setCell_other _ _ _ _ (by show w.heap.size+1+1≠w.heap.size;omega)];exact u2
  have HV2:Hid (X.heap[w.heap.size+1+1]?=some (.cells #[.int .i64 0,.int .i64 0,.int .u8 0,.int .u8 0,.int .u8 0,.int .u8 0,.int .i64 0] 157 (0,0))):=v2;have r0:=cell_of v0 0;have r1:=cell_of v0 1;have r2:=cell_of v0 2;have r3:=cell_of v0 3;have r4:=cell_of v0 4;have r5:=cell_of v0 5;have r6:=cell_of v0 6;have s0:=cell_of v2 0;have s1:=cell_of v2 1;have s2:=cell_of v2 2;have s3:=cell_of v2 3;have s4:=cell_of v2 4;have s5:=cell_of v2 5;have s6:=cell_of v2 6;have sz:∀ i,X.frozen? ⟨w.heap.size+1+1,i,none⟩=false:=fun i=>frozen_of v2 i
  clear u0 u1 u2 v0 v2;go_upto_region 3 with fail
  try rw [hX]
  clear hX;go_wp2
  exact bodyPost_ret (v:=.agg #[.int .i64 a,.int .i64 b,.int .u8 (c0:Int),.int .u8 (c1:Int),.int .u8 (c2:Int),.int .u8 (c3:Int),.int .i64 (n+gn)]) (results_cell_row Tryz.results147 _ _ (w.heap.size+1+1) 157 #[.int .i64 a,.int .i64 b,.int .u8 (c0:Int),.int .u8 (c1:Int),.int .u8 (c2:Int),.int .u8 (c3:Int),.int .i64 (n+gn)] (0,0) _ rfl (set7 HV2.out _ _ _ _ _ _ _) Tryz.underlying157 rfl info76s) rfl ⟨rfl,((((((HBX.out.setCell (by show w.heap.size<=w.heap.size+1+1;omega) _).setCell (by show w.heap.size<=w.heap.size+1+1;omega) _).setCell (by show w.heap.size<=w.heap.size+1+1;omega) _).setCell (by show w.heap.size<=w.heap.size+1+1;omega) _).setCell (by show w.heap.size<=w.heap.size+1+1;omega) _).setCell (by show w.heap.size<=w.heap.size+1+1;omega) _).setCell (by show w.heap.size<=w.heap.size+1+1;omega) _⟩
end Go.Proofs.YtjnckfchgcmmpaaGreatDoor
