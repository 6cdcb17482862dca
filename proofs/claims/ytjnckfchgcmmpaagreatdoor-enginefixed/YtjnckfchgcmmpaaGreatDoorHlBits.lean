import Derived.Test.YtjnckfchgcmmpaaGreatDoorJ05
import Derived.Test.YtjnckfchgcmmpaaGreatDoorMdRegT
import Derived.Deep.Cut
import Derived.Laws.BitsAllLaws
namespace Go.Proofs.YtjnckfchgcmmpaaGreatDoor
open Go.RowKit
set_option maxRecDepth 10000
set_option maxHeartbeats 8000000
def w8 (b0 b1 b2 b3 b4 b5 b6 b7:Bool):Nat:=(cond b0 1 0)+(cond b1 2 0)+(cond b2 4 0)+(cond b3 8 0)+(cond b4 16 0)+(cond b5 32 0)+(cond b6 64 0)+(cond b7 128 0)
theorem w8_bit:∀ b0 b1 b2 b3 b4 b5 b6 b7:Bool,∀ j:Fin 8,(w8 b0 b1 b2 b3 b4 b5 b6 b7).testBit j.val=[b0,b1,b2,b3,b4,b5,b6,b7].getD j.val false:=by decide +kernel
theorem w8_lt:∀ b0 b1 b2 b3 b4 b5 b6 b7:Bool,w8 b0 b1 b2 b3 b4 b5 b6 b7<256:=by decide +kernel
def wd (f:Nat->Bool) (i:Nat):Nat:=w8 (f (8*i)) (f (8*i+1)) (f (8*i+2)) (f (8*i+3)) (f (8*i+4)) (f (8*i+5)) (f (8*i+6)) (f (8*i+7))
theorem wd_lt (f:Nat->Bool) (i:Nat):wd f i<256:=w8_lt _ _ _ _ _ _ _ _
theorem wd_bit (f:Nat->Bool) (i j:Nat) (hj:j<8):(wd f i).testBit j=f (8*i+j):=by
  unfold wd;rw [w8_bit _ _ _ _ _ _ _ _ ⟨j,hj⟩]
  match j,hj with
  | 0,_=>rfl
  | 1,_=>rfl
  | 2,_=>rfl
  | 3,_=>rfl
  | 4,_=>rfl
  | 5,_=>rfl
  | 6,_=>rfl
  | 7,_=>rfl
theorem wd_ext {f g:Nat->Bool} {i:Nat} (h:wd f i=wd g i) (j:Nat) (hj:j<8):f (8*i+j)=g (8*i+j):=by rw [<-wd_bit f i j hj,<-wd_bit g i j hj,h]
theorem wd_congr {f g:Nat->Bool} {i:Nat} (h:∀ j,j<8->f (8*i+j)=g (8*i+j)):wd f i=wd g i:=by
  unfold wd;have h0:=h 0 (by omega);rw [Nat.add_zero] at h0;rw [h0,h 1 (by omega),h 2 (by omega),h 3 (by omega),h 4 (by omega),h 5 (by omega),h 6 (by omega),h 7 (by omega)]
theorem at_word (f:Nat->Bool) (i j:Nat) (hj:j<8):(bits .and .u8 ((wd f i:Int) / 2 ^ j) 1==1)=f (8*i+j):=by
  have h1:((wd f i:Nat):Int) / 2 ^ j=((wd f i / 2 ^ j:Nat):Int):=by
    rw [Int.natCast_ediv,Int.natCast_pow];rfl
  have h2:wd f i / 2 ^ j<256:=Nat.lt_of_le_of_lt (Nat.div_le_self _ _) (wd_lt f i);rw [h1,show (1:Int)=((1:Nat):Int) from rfl,u8_and_nat _ _ h2 (by decide),<-wd_bit f i j hj,Nat.testBit_eq_decide_div_mod_eq,Nat.and_one_is_mod]
  cases h:decide (wd f i / 2 ^ j % 2=1)
  · have:=of_decide_eq_false h
    have e:wd f i / 2 ^ j % 2=0:=by omega
    rw [e];rfl
  · rw [of_decide_eq_true h]
    rfl
theorem two_lt:∀ j:Fin 8,2 ^ j.val<256:=by decide
theorem or_word (f:Nat->Bool) (i j:Nat) (hj:j<8):bits .or .u8 (wd f i:Int) ((2 ^ j:Nat):Int)=(wd (fun y=>decide (y=8*i+j)||f y) i:Int):=by
  have h2:2 ^ j<256:=two_lt ⟨j,hj⟩;rw [u8_or_nat _ _ (wd_lt f i) h2]
  congr 1
  apply Nat.eq_of_testBit_eq
  intro k;rw [Nat.testBit_or,Nat.testBit_two_pow]
  by_cases hk:k<8
  · rw [wd_bit _ _ _ hk,wd_bit _ _ _ hk,Bool.or_comm]
    congr 1
    rw [decide_eq_decide];omega
  · have hp:256<=2 ^ k:=by
      have:=Nat.pow_le_pow_right (n:=2) (by decide) (Nat.le_of_not_lt hk);simpa using this
    rw [Nat.testBit_lt_two_pow (Nat.lt_of_lt_of_le (wd_lt f i) hp),Nat.testBit_lt_two_pow (Nat.lt_of_lt_of_le (wd_lt _ i) hp)];simp;omega
theorem with_other (f:Nat->Bool) (i i' j:Nat) (hj:j<8) (h:i'≠i):wd (fun y=>decide (y=8*i+j)||f y) i'=wd f i':=wd_congr fun k hk=>by
  have:decide (8*i'+k=8*i+j)=false:=decide_eq_false (by omega);rw [this];rfl
def bVal (f:Nat->Bool):Value:=.agg #[.int .u8 (wd f 0:Int),.int .u8 (wd f 1:Int),.int .u8 (wd f 2:Int),.int .u8 (wd f 3:Int)]
def bWith (f:Nat->Bool) (x:Nat):Nat->Bool:=fun y=>decide (y=x)||f y
theorem bAt_any (f:Nat->Bool) (x:Nat) (hx:x<32) (w:World):Calls Tryz.prog 129 #[bVal f,.int .i64 (x:Int)] w fun e w'=>e=.returned (.bool (f x))/\Below w.heap.size w w':=by
  unfold bVal;obtain ⟨j,hj,hjx⟩:∃ j,j<8/\x % 8=j:=⟨_,Nat.mod_lt _ (by decide),rfl⟩;have hr:(x:Int) % 8=(j:Int):=by omega
  have e0:=at_word f 0 j hj;have e1:=at_word f 1 j hj;have e2:=at_word f 2 j hj;have e3:=at_word f 3 j hj;generalize wd f 0=a0 at *
  generalize wd f 1=a1 at *
  generalize wd f 2=a2 at *
  generalize wd f 3=a3 at *
  obtain ⟨W,hW⟩:∃ W,w.alloc (.cells #[.int .u8 (a0:Int),.int .u8 (a1:Int),.int .u8 (a2:Int),.int .u8 (a3:Int)] 155)=W:=⟨_,rfl⟩;have HB:Hid (Below w.heap.size w W):=bAe hW;have g0:W.heap[w.heap.size]?=some (.cells #[.int .u8 (a0:Int),.int .u8 (a1:Int),.int .u8 (a2:Int),.int .u8 (a3:Int)] 155 (0,0)):=hAe hW;have c0:=cell_of g0 0;have c1:=cell_of g0 1;have c2:=cell_of g0 2;have c3:=cell_of g0 3;have hq:x / 8=0∨x / 8=1∨x / 8=2∨x / 8=3:=by omega
  clear g0;rcases hq with hq | hq | hq | hq
  · have hQ:(x:Int) / 8=0:=by omega
    have HE:Hid (f x=f (8*0+j)):=congrArg f (by omega);go_enter Tryz.func129,Tryz.ntmps129;go_wp2_with fail
    go_ret;exact ⟨ret_bool (by rw [HE.out];try simp),HB.out⟩
  · have hQ:(x:Int) / 8=1:=by omega
    have HE:Hid (f x=f (8*1+j)):=congrArg f (by omega);go_enter Tryz.func129,Tryz.ntmps129;go_wp2_with fail
    go_ret;exact ⟨ret_bool (by rw [HE.out];try simp),HB.out⟩
  · have hQ:(x:Int) / 8=2:=by omega
    have HE:Hid (f x=f (8*2+j)):=congrArg f (by omega);go_enter Tryz.func129,Tryz.ntmps129;go_wp2_with fail
    go_ret;exact ⟨ret_bool (by rw [HE.out];try simp),HB.out⟩
  · have hQ:(x:Int) / 8=3:=by omega
    have HE:Hid (f x=f (8*3+j)):=congrArg f (by omega);go_enter Tryz.func129,Tryz.ntmps129;go_wp2_with fail
    go_ret;exact ⟨ret_bool (by rw [HE.out];try simp),HB.out⟩
theorem und74:Tryz.prog.underlying 155=some (.array 4 5):=by kernel_rfl
theorem info74:(Tryz.prog.info? 155).map (·.size)=some 4:=by kernel_rfl
theorem set4 {w:World} {N:Nat} {a0 a1 a2 a3:Value} {t:TypeId} (h:w.heap[N]?=some (.cells #[a0,a1,a2,a3] t (0,0))) (b0 b1 b2 b3:Value):((((w.setCell ⟨N,0,none⟩ b0).setCell ⟨N,1,none⟩ b1).setCell ⟨N,2,none⟩ b2).setCell ⟨N,3,none⟩ b3).heap[N]?=some (.cells #[b0,b1,b2,b3] t (0,0)):=
  heap_setCell_same _ N 3 _ t b3 (heap_setCell_same _ N 2 _ t b2 (heap_setCell_same _ N 1 _ t b1 (heap_setCell_same w N 0 _ t b0 h)))
theorem bWith_any (f:Nat->Bool) (x:Nat) (hx:x<32) (w:World):Calls Tryz.prog 180 #[bVal f,.int .i64 (x:Int)] w fun e w'=>e=.returned (bVal (bWith f x))/\Below w.heap.size w w':=by
  obtain ⟨j,hj,hjx⟩:∃ j,j<8/\x % 8=j:=⟨_,Nat.mod_lt _ (by decide),rfl⟩;have hr:(x:Int) % 8=(j:Int):=by omega
  have hq:x / 8=0∨x / 8=1∨x / 8=2∨x / 8=3:=by omega
  have HT:Hid ((2 ^ j:Nat)<256):=two_lt ⟨j,hj⟩;obtain ⟨P,hP⟩:∃ P:Int,((2 ^ j:Nat):Int)=P:=⟨_,rfl⟩;have hsh:(2:Int) ^ j % 256=P:=by
    have h2:=HT.out;rw [show (2:Int) ^ j=((2 ^ j:Nat):Int) by rw [Int.natCast_pow];rfl,<-hP];exact Int.emod_eq_of_lt (Int.natCast_nonneg _) (Int.ofNat_lt.2 h2)
  rcases hq with hq | hq | hq | hq
  · have hQ:(x:Int) / 8=0:=by omega
    have hx8:x=8*0+j:=by omega
    have ho:=or_word f 0 j hj;have hv:bVal (bWith f x)=.agg #[.int .u8 (bits .or .u8 (wd f 0:Int) P),.int .u8 (wd f 1:Int),.int .u8 (wd f 2:Int),.int .u8 (wd f 3:Int)]:=by
      unfold bVal bWith;rw [<-hP,ho,hx8,with_other f 0 1 j hj (by decide),with_other f 0 2 j hj (by decide),with_other f 0 3 j hj (by decide)]
    rw [hv];clear hv ho hx8 hq hjx hP;unfold bVal;generalize wd f 0=a0
    generalize wd f 1=a1
    generalize wd f 2=a2
    generalize wd f 3=a3
    obtain ⟨W,hW⟩:∃ W,(w.alloc (.cells #[.int .u8 (a0:Int),.int .u8 (a1:Int),.int .u8 (a2:Int),.int .u8 (a3:Int)] 155)).alloc (.cells #[.int .u8 0,.int .u8 0,.int .u8 0,.int .u8 0] 155)=W:=⟨_,rfl⟩;have HB:Hid (Below w.heap.size w W):=by rw [<-hW];exact ((Below.refl _ _).alloc (Nat.le_refl _) _).alloc (by simp) _
    have g0:W.heap[w.heap.size]?=some (.cells #[.int .u8 (a0:Int),.int .u8 (a1:Int),.int .u8 (a2:Int),.int .u8 (a3:Int)] 155 (0,0)):=by rw [<-hW,heap_alloc_old (w.alloc _) _ (by simp)];exact heap_alloc_new w _
    have g1:W.heap[w.heap.size+1]?=some (.cells #[.int .u8 0,.int .u8 0,.int .u8 0,.int .u8 0] 155 (0,0)):=by rw [<-hW];exact heap_alloc2_new w _ _
    have c0:=cell_of g0 0;have z0:=frozen_of g0 0;obtain ⟨Y,hY⟩:∃ Y,W.drew.setCell ⟨w.heap.size,0,none⟩ (.int .u8 (bits .or .u8 (a0:Int) P))=Y:=⟨_,rfl⟩;have HBY:Hid (Below w.heap.size w Y):=by rw [<-hY];exact (HB.out.trans ((Below.refl _ _).drew.mono HB.out.size)).setCell (Nat.le_refl _) _
    have y0:Y.heap[w.heap.size]?=some (.cells #[.int .u8 (bits .or .u8 (a0:Int) P),.int .u8 (a1:Int),.int .u8 (a2:Int),.int .u8 (a3:Int)] 155 (0,0)):=by
      rw [<-hY];exact heap_setCell_same _ _ 0 _ 155 _ g0
    have y1:Y.heap[w.heap.size+1]?=some (.cells #[.int .u8 0,.int .u8 0,.int .u8 0,.int .u8 0] 155 (0,0)):=by
      rw [<-hY,heap_setCell_other _ _ _ _ (by simp)];exact g1
    have HY1:Hid (Y.heap[w.heap.size+1]?=some (.cells #[.int .u8 0,.int .u8 0,.int .u8 0,.int .u8 0] 155 (0,0))):=y1;have d0:=cell_of y0 0;have d1:=cell_of y0 1;have d2:=cell_of y0 2;have d3:=cell_of y0 3;have f0:=cell_of y1 0;have f1:=cell_of y1 1;have f2:=cell_of y1 2;have f3:=cell_of y1 3;have zz:∀ i,Y.frozen? ⟨w.heap.size+1,i,none⟩=false:=fun i=>frozen_of y1 i
    clear g0 g1 y0 y1;go_enter Tryz.func180,Tryz.ntmps180;go_upto_region 1 with fail
    try rw [hW]
    clear hW;go_region;try rw [hY]
    clear hY;go_wp2;exact bodyPost_ret (v:=.agg #[.int .u8 (bits .or .u8 (a0:Int) P),.int .u8 (a1:Int),.int .u8 (a2:Int),.int .u8 (a3:Int)]) (results_cell_row Tryz.results180 _ _ (w.heap.size+1) 155 #[.int .u8 (bits .or .u8 (a0:Int) P),.int .u8 (a1:Int),.int .u8 (a2:Int),.int .u8 (a3:Int)] (0,0) _ rfl (set4 HY1.out _ _ _ _) und74 rfl info74) rfl ⟨rfl,(((HBY.out.setCell (by simp) _).setCell (by simp) _).setCell (by simp) _).setCell (by simp) _⟩
  · have hQ:(x:Int) / 8=1:=by omega
    have hx8:x=8*1+j:=by omega
    have ho:=or_word f 1 j hj;have hv:bVal (bWith f x)=.agg #[.int .u8 (wd f 0:Int),.int .u8 (bits .or .u8 (wd f 1:Int) P),.int .u8 (wd f 2:Int),.int .u8 (wd f 3:Int)]:=by
      unfold bVal bWith;rw [<-hP,ho,hx8,with_other f 1 0 j hj (by decide),with_other f 1 2 j hj (by decide),with_other f 1 3 j hj (by decide)]
    rw [hv];clear hv ho hx8 hq hjx hP;unfold bVal;generalize wd f 0=a0
    generalize wd f 1=a1
    generalize wd f 2=a2
    generalize wd f 3=a3
    obtain ⟨W,hW⟩:∃ W,(w.alloc (.cells #[.int .u8 (a0:Int),.int .u8 (a1:Int),.int .u8 (a2:Int),.int .u8 (a3:Int)] 155)).alloc (.cells #[.int .u8 0,.int .u8 0,.int .u8 0,.int .u8 0] 155)=W:=⟨_,rfl⟩;have HB:Hid (Below w.heap.size w W):=by rw [<-hW];exact ((Below.refl _ _).alloc (Nat.le_refl _) _).alloc (by simp) _
    have g0:W.heap[w.heap.size]?=some (.cells #[.int .u8 (a0:Int),.int .u8 (a1:Int),.int .u8 (a2:Int),.int .u8 (a3:Int)] 155 (0,0)):=by rw [<-hW,heap_alloc_old (w.alloc _) _ (by simp)];exact heap_alloc_new w _
    have g1:W.heap[w.heap.size+1]?=some (.cells #[.int .u8 0,.int .u8 0,.int .u8 0,.int .u8 0] 155 (0,0)):=by rw [<-hW];exact heap_alloc2_new w _ _
    have c1:=cell_of g0 1;have z1:=frozen_of g0 1;obtain ⟨Y,hY⟩:∃ Y,W.drew.setCell ⟨w.heap.size,1,none⟩ (.int .u8 (bits .or .u8 (a1:Int) P))=Y:=⟨_,rfl⟩;have HBY:Hid (Below w.heap.size w Y):=by rw [<-hY];exact (HB.out.trans ((Below.refl _ _).drew.mono HB.out.size)).setCell (Nat.le_refl _) _
    have y0:Y.heap[w.heap.size]?=some (.cells #[.int .u8 (a0:Int),.int .u8 (bits .or .u8 (a1:Int) P),.int .u8 (a2:Int),.int .u8 (a3:Int)] 155 (0,0)):=by
      rw [<-hY];exact heap_setCell_same _ _ 1 _ 155 _ g0
    have y1:Y.heap[w.heap.size+1]?=some (.cells #[.int .u8 0,.int .u8 0,.int .u8 0,.int .u8 0] 155 (0,0)):=by
      rw [<-hY,heap_setCell_other _ _ _ _ (by simp)];exact g1
    have HY1:Hid (Y.heap[w.heap.size+1]?=some (.cells #[.int .u8 0,.int .u8 0,.int .u8 0,.int .u8 0] 155 (0,0))):=y1;have d0:=cell_of y0 0;have d1:=cell_of y0 1;have d2:=cell_of y0 2;have d3:=cell_of y0 3;have f0:=cell_of y1 0;have f1:=cell_of y1 1;have f2:=cell_of y1 2;have f3:=cell_of y1 3;have zz:∀ i,Y.frozen? ⟨w.heap.size+1,i,none⟩=false:=fun i=>frozen_of y1 i
    clear g0 g1 y0 y1;go_enter Tryz.func180,Tryz.ntmps180;go_upto_region 1 with fail
    try rw [hW]
    clear hW;go_region;try rw [hY]
    clear hY;go_wp2;exact bodyPost_ret (v:=.agg #[.int .u8 (a0:Int),.int .u8 (bits .or .u8 (a1:Int) P),.int .u8 (a2:Int),.int .u8 (a3:Int)]) (results_cell_row Tryz.results180 _ _ (w.heap.size+1) 155 #[.int .u8 (a0:Int),.int .u8 (bits .or .u8 (a1:Int) P),.int .u8 (a2:Int),.int .u8 (a3:Int)] (0,0) _ rfl (set4 HY1.out _ _ _ _) und74 rfl info74) rfl ⟨rfl,(((HBY.out.setCell (by simp) _).setCell (by simp) _).setCell (by simp) _).setCell (by simp) _⟩
  · have hQ:(x:Int) / 8=2:=by omega
    have hx8:x=8*2+j:=by omega
    have ho:=or_word f 2 j hj;have hv:bVal (bWith f x)=.agg #[.int .u8 (wd f 0:Int),.int .u8 (wd f 1:Int),.int .u8 (bits .or .u8 (wd f 2:Int) P),.int .u8 (wd f 3:Int)]:=by
      unfold bVal bWith;rw [<-hP,ho,hx8,with_other f 2 0 j hj (by decide),with_other f 2 1 j hj (by decide),with_other f 2 3 j hj (by decide)]
    rw [hv];clear hv ho hx8 hq hjx hP;unfold bVal;generalize wd f 0=a0
    generalize wd f 1=a1
    generalize wd f 2=a2
    generalize wd f 3=a3
    obtain ⟨W,hW⟩:∃ W,(w.alloc (.cells #[.int .u8 (a0:Int),.int .u8 (a1:Int),.int .u8 (a2:Int),.int .u8 (a3:Int)] 155)).alloc (.cells #[.int .u8 0,.int .u8 0,.int .u8 0,.int .u8 0] 155)=W:=⟨_,rfl⟩;have HB:Hid (Below w.heap.size w W):=by rw [<-hW];exact ((Below.refl _ _).alloc (Nat.le_refl _) _).alloc (by simp) _
    have g0:W.heap[w.heap.size]?=some (.cells #[.int .u8 (a0:Int),.int .u8 (a1:Int),.int .u8 (a2:Int),.int .u8 (a3:Int)] 155 (0,0)):=by rw [<-hW,heap_alloc_old (w.alloc _) _ (by simp)];exact heap_alloc_new w _
    have g1:W.heap[w.heap.size+1]?=some (.cells #[.int .u8 0,.int .u8 0,.int .u8 0,.int .u8 0] 155 (0,0)):=by rw [<-hW];exact heap_alloc2_new w _ _
    have c2:=cell_of g0 2;have z2:=frozen_of g0 2;obtain ⟨Y,hY⟩:∃ Y,W.drew.setCell ⟨w.heap.size,2,none⟩ (.int .u8 (bits .or .u8 (a2:Int) P))=Y:=⟨_,rfl⟩;have HBY:Hid (Below w.heap.size w Y):=by rw [<-hY];exact (HB.out.trans ((Below.refl _ _).drew.mono HB.out.size)).setCell (Nat.le_refl _) _
    have y0:Y.heap[w.heap.size]?=some (.cells #[.int .u8 (a0:Int),.int .u8 (a1:Int),.int .u8 (bits .or .u8 (a2:Int) P),.int .u8 (a3:Int)] 155 (0,0)):=by
      rw [<-hY];exact heap_setCell_same _ _ 2 _ 155 _ g0
    have y1:Y.heap[w.heap.size+1]?=some (.cells #[.int .u8 0,.int .u8 0,.int .u8 0,.int .u8 0] 155 (0,0)):=by
      rw [<-hY,heap_setCell_other _ _ _ _ (by simp)];exact g1
    have HY1:Hid (Y.heap[w.heap.size+1]?=some (.cells #[.int .u8 0,.int .u8 0,.int .u8 0,.int .u8 0] 155 (0,0))):=y1;have d0:=cell_of y0 0;have d1:=cell_of y0 1;have d2:=cell_of y0 2;have d3:=cell_of y0 3;have f0:=cell_of y1 0;have f1:=cell_of y1 1;have f2:=cell_of y1 2;have f3:=cell_of y1 3;have zz:∀ i,Y.frozen? ⟨w.heap.size+1,i,none⟩=false:=fun i=>frozen_of y1 i
    clear g0 g1 y0 y1;go_enter Tryz.func180,Tryz.ntmps180;go_upto_region 1 with fail
    try rw [hW]
    clear hW;go_region;try rw [hY]
    clear hY;go_wp2;exact bodyPost_ret (v:=.agg #[.int .u8 (a0:Int),.int .u8 (a1:Int),.int .u8 (bits .or .u8 (a2:Int) P),.int .u8 (a3:Int)]) (results_cell_row Tryz.results180 _ _ (w.heap.size+1) 155 #[.int .u8 (a0:Int),.int .u8 (a1:Int),.int .u8 (bits .or .u8 (a2:Int) P),.int .u8 (a3:Int)] (0,0) _ rfl (set4 HY1.out _ _ _ _) und74 rfl info74) rfl ⟨rfl,(((HBY.out.setCell (by simp) _).setCell (by simp) _).setCell (by simp) _).setCell (by simp) _⟩
  · have hQ:(x:Int) / 8=3:=by omega
    have hx8:x=8*3+j:=by omega
    have ho:=or_word f 3 j hj;have hv:bVal (bWith f x)=.agg #[.int .u8 (wd f 0:Int),.int .u8 (wd f 1:Int),.int .u8 (wd f 2:Int),.int .u8 (bits .or .u8 (wd f 3:Int) P)]:=by
      unfold bVal bWith;rw [<-hP,ho,hx8,with_other f 3 0 j hj (by decide),with_other f 3 1 j hj (by decide),with_other f 3 2 j hj (by decide)]
    rw [hv];clear hv ho hx8 hq hjx hP;unfold bVal;generalize wd f 0=a0
    generalize wd f 1=a1
    generalize wd f 2=a2
    generalize wd f 3=a3
    obtain ⟨W,hW⟩:∃ W,(w.alloc (.cells #[.int .u8 (a0:Int),.int .u8 (a1:Int),.int .u8 (a2:Int),.int .u8 (a3:Int)] 155)).alloc (.cells #[.int .u8 0,.int .u8 0,.int .u8 0,.int .u8 0] 155)=W:=⟨_,rfl⟩;have HB:Hid (Below w.heap.size w W):=by rw [<-hW];exact ((Below.refl _ _).alloc (Nat.le_refl _) _).alloc (by simp) _
    have g0:W.heap[w.heap.size]?=some (.cells #[.int .u8 (a0:Int),.int .u8 (a1:Int),.int .u8 (a2:Int),.int .u8 (a3:Int)] 155 (0,0)):=by rw [<-hW,heap_alloc_old (w.alloc _) _ (by simp)];exact heap_alloc_new w _
    have g1:W.heap[w.heap.size+1]?=some (.cells #[.int .u8 0,.int .u8 0,.int .u8 0,.int .u8 0] 155 (0,0)):=by rw [<-hW];exact heap_alloc2_new w _ _
    have c3:=cell_of g0 3;have z3:=frozen_of g0 3;obtain ⟨Y,hY⟩:∃ Y,W.drew.setCell ⟨w.heap.size,3,none⟩ (.int .u8 (bits .or .u8 (a3:Int) P))=Y:=⟨_,rfl⟩;have HBY:Hid (Below w.heap.size w Y):=by rw [<-hY];exact (HB.out.trans ((Below.refl _ _).drew.mono HB.out.size)).setCell (Nat.le_refl _) _
    have y0:Y.heap[w.heap.size]?=some (.cells #[.int .u8 (a0:Int),.int .u8 (a1:Int),.int .u8 (a2:Int),.int .u8 (bits .or .u8 (a3:Int) P)] 155 (0,0)):=by
      rw [<-hY];exact heap_setCell_same _ _ 3 _ 155 _ g0
    have y1:Y.heap[w.heap.size+1]?=some (.cells #[.int .u8 0,.int .u8 0,.int .u8 0,.int .u8 0] 155 (0,0)):=by
      rw [<-hY,heap_setCell_other _ _ _ _ (by simp)];exact g1
    have HY1:Hid (Y.heap[w.heap.size+1]?=some (.cells #[.int .u8 0,.int .u8 0,.int .u8 0,.int .u8 0] 155 (0,0))):=y1;have d0:=cell_of y0 0;have d1:=cell_of y0 1;have d2:=cell_of y0 2;have d3:=cell_of y0 3;have f0:=cell_of y1 0;have f1:=cell_of y1 1;have f2:=cell_of y1 2;have f3:=cell_of y1 3;have zz:∀ i,Y.frozen? ⟨w.heap.size+1,i,none⟩=false:=fun i=>frozen_of y1 i
    clear g0 g1 y0 y1;go_enter Tryz.func180,Tryz.ntmps180;go_upto_region 1 with fail
    try rw [hW]
    clear hW;go_region;try rw [hY]
    clear hY;go_wp2;exact bodyPost_ret (v:=.agg #[.int .u8 (a0:Int),.int .u8 (a1:Int),.int .u8 (a2:Int),.int .u8 (bits .or .u8 (a3:Int) P)]) (results_cell_row Tryz.results180 _ _ (w.heap.size+1) 155 #[.int .u8 (a0:Int),.int .u8 (a1:Int),.int .u8 (a2:Int),.int .u8 (bits .or .u8 (a3:Int) P)] (0,0) _ rfl (set4 HY1.out _ _ _ _) und74 rfl info74) rfl ⟨rfl,(((HBY.out.setCell (by simp) _).setCell (by simp) _).setCell (by simp) _).setCell (by simp) _⟩
end Go.Proofs.YtjnckfchgcmmpaaGreatDoor
