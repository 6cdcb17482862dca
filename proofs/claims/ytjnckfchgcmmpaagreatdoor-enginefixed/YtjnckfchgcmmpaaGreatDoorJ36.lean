import Derived.Test.YtjnckfchgcmmpaaGreatDoorJ05
import Derived.Test.YtjnckfchgcmmpaaGreatDoorJ35
import Derived.Test.YtjnckfchgcmmpaaGreatDoorJ21
namespace Go.Proofs.YtjnckfchgcmmpaaGreatDoor
open Go.RowKit
set_option maxRecDepth 10000
set_option maxHeartbeats 8000000
def canLo (t:Bool) (D:List Dm) (x0:Int) (xs:List Int):Int:=xs.foldl (fun m x=>max m (spLo t (dAt D x))) (spLo t (dAt D x0))
def canHi (t:Bool) (D:List Dm) (x0:Int) (xs:List Int):Int:=xs.foldl (fun m x=>max m (spHi t (dAt D x))) (spHi t (dAt D x0))
def grStep (t:Bool) (D:List Dm) (xs:List Int) (a b:Int) (Q:List Sq) (o:Int):List Sq:=
  if xs.any (rchB t D o a) then sKeepQ t Q o.toNat (-9223372036854775807) b else sKeepQ t (sKeepQ t Q o.toNat (-9223372036854775807) b) o.toNat a 9223372036854775807
def greatQ (t:Bool) (D:List Dm) (y x0:Int) (xs:List Int) (Q:List Sq):Option (List Sq):=
  if canHi t D x0 xs<spLo t (dAt D y)∨spHi t (dAt D y)<canLo t D x0 xs then none
  else some (xs.foldl (grStep t D xs (spLo t (dAt D y)) (spHi t (dAt D y))) (sKeepQ t Q y.toNat (canLo t D x0 xs) (canHi t D x0 xs)))
theorem can_next (f:Int->Int) (xs:List Int) (k:Nat) (hk:k<xs.length) (z:Int):(xs.take (k+1)).foldl (fun m x=>max m (f x)) z=max ((xs.take k).foldl (fun m x=>max m (f x)) z) (f xs[k]):=by
  rw [List.take_succ_eq_append_getElem hk,List.foldl_append];rfl
theorem gr_next (t:Bool) (D:List Dm) (ys xs:List Int) (a b:Int) (Q:List Sq) (k:Nat) (hk:k<xs.length):(xs.take (k+1)).foldl (grStep t D ys a b) Q=grStep t D ys a b ((xs.take k).foldl (grStep t D ys a b) Q) xs[k]:=by
  rw [List.take_succ_eq_append_getElem hk,List.foldl_append];rfl
theorem lt_alloc2 {V:World} {o o2:Obj} {n:Nat} (h:((V.alloc o).alloc o2).heap.size<=n):V.heap.size+1<n:=by simp at h;omega
theorem set2_other {w:World} {N k:Nat} {a b:Value} (h:k≠N):((w.setCell ⟨N,0,none⟩ a).setCell ⟨N,1,none⟩ b).heap[k]?=w.heap[k]?:=by
  rw [heap_setCell_other _ _ _ _ h,heap_setCell_other _ _ _ _ h]
def One (k:Nat) (w:World):Prop:=w.heap[k]?=some (.cells #[.int .i64 0,.int .i64 0] 186 (0,0))
theorem one_in {V w:World} (hb:Below (V.alloc (.cells #[.int .i64 0,.int .i64 0] 186 (0,0))).heap.size (V.alloc (.cells #[.int .i64 0,.int .i64 0] 186 (0,0))) w):One V.heap.size w:=(hb.block _ (by simp)).trans (heap_alloc_new V _)
theorem two_in {V w:World} (hb:Below ((V.alloc (.cells #[.int .i64 0,.int .i64 0] 186 (0,0))).alloc (.cells #[.int .i64 0,.int .i64 0] 186 (0,0))).heap.size ((V.alloc (.cells #[.int .i64 0,.int .i64 0] 186 (0,0))).alloc (.cells #[.int .i64 0,.int .i64 0] 186 (0,0))) w):One V.heap.size w/\One (V.heap.size+1) w:=
  ⟨(hb.block _ (by simp;omega)).trans ((heap_alloc_old (V.alloc _) _ (by simp)).trans (heap_alloc_new V _)),(hb.block _ (by simp)).trans (heap_alloc2_new V _ _)⟩
theorem one_inD {V w:World} (hb:Below (V.alloc (.cells #[.int .i64 0,.int .i64 0] 186 (0,0))).drew.heap.size (V.alloc (.cells #[.int .i64 0,.int .i64 0] 186 (0,0))).drew w):One V.heap.size w:=(hb.block V.heap.size (by show _<(V.alloc _).heap.size;simp)).trans (heap_alloc_new V _)
theorem two_inD {V w:World} (hb:Below ((V.alloc (.cells #[.int .i64 0,.int .i64 0] 186 (0,0))).alloc (.cells #[.int .i64 0,.int .i64 0] 186 (0,0))).drew.heap.size ((V.alloc (.cells #[.int .i64 0,.int .i64 0] 186 (0,0))).alloc (.cells #[.int .i64 0,.int .i64 0] 186 (0,0))).drew w):One V.heap.size w/\One (V.heap.size+1) w:=
  ⟨(hb.block V.heap.size (by show _<((V.alloc _).alloc _).heap.size;simp;omega)).trans ((heap_alloc_old (V.alloc _) _ (by simp)).trans (heap_alloc_new V _)),(hb.block (V.heap.size+1) (by show _<((V.alloc _).alloc _).heap.size;simp)).trans (heap_alloc2_new V _ _)⟩
theorem One.lt {k:Nat} {w:World} (h:One k w):k<w.heap.size:=(hLt h)
theorem One.c0 {k:Nat} {w w':World} (h:One k w) (hb:Below w.heap.size w w'):One k w':=(hb.block _ h.lt).trans h
theorem One.c1 {k:Nat} {w w':World} {o:Obj} (h:One k w) (hb:Below (w.alloc o).heap.size (w.alloc o) w'):One k w':=(hb.block _ (by have:=h.lt;simp;omega)).trans ((heap_alloc_old w _ h.lt).trans h)
def CutR (W:World) (u1 q1 u2 q2:Int) (s7 s8:Value) (wx:World):Prop:=∃ k7 k8,s7=.pointer (some ⟨k7,0,none⟩)/\s8=.pointer (some ⟨k8,0,none⟩)/\Hid (wx.heap[k7]?=some (.cells #[.int .i64 u1,.int .i64 q1] 186 (0,0)))/\Hid (wx.heap[k8]?=some (.cells #[.int .i64 u2,.int .i64 q2] 186 (0,0)))/\Hid (W.heap.size<=k7/\W.heap.size<=k8/\k7≠k8)/\Hid (Below W.heap.size W wx)
section
variable {W w : World} {u1 q1 u2 q2 : Int}
theorem shape_nn (h:Below W.heap.size W w):CutR W u1 q1 u2 q2 (.pointer (some ⟨w.heap.size,0,none⟩)) (.pointer (some ⟨w.heap.size+1,0,none⟩)) ((w.alloc (.cells #[.int .i64 u1,.int .i64 q1] 186)).alloc (.cells #[.int .i64 u2,.int .i64 q2] 186)):=
  ⟨_,_,rfl,rfl,(heap_alloc_old (w.alloc _) _ (by simp)).trans (heap_alloc_new w _),heap_alloc2_new w _ _,⟨h.size,Nat.le_succ_of_le h.size,by omega⟩,bl_alloc (bl_alloc h _) _⟩
theorem shape_nm (h:Below W.heap.size W w):CutR W u1 q1 u2 q2 (.pointer (some ⟨w.heap.size+1,0,none⟩)) (.pointer (some ⟨w.heap.size,0,none⟩)) ((w.alloc (.cells #[.int .i64 u2,.int .i64 q2] 186)).alloc (.cells #[.int .i64 u1,.int .i64 q1] 186)):=
  ⟨_,_,rfl,rfl,heap_alloc2_new w _ _,(heap_alloc_old (w.alloc _) _ (by simp)).trans (heap_alloc_new w _),⟨Nat.le_succ_of_le h.size,h.size,by omega⟩,bl_alloc (bl_alloc h _) _⟩
theorem shape_on {k:Nat} (h:Below W.heap.size W w) (e:One k w) (hk:W.heap.size<=k):CutR W u1 q1 u2 q2 (.pointer (some ⟨k,0,none⟩)) (.pointer (some ⟨w.heap.size,0,none⟩)) (((w.setCell ⟨k,0,none⟩ (.int .i64 u1)).setCell ⟨k,1,none⟩ (.int .i64 q1)).alloc (.cells #[.int .i64 u2,.int .i64 q2] 186)):=by
  have hs:((w.setCell ⟨k,0,none⟩ (.int .i64 u1)).setCell ⟨k,1,none⟩ (.int .i64 q1)).heap.size=w.heap.size:=by simp
  refine ⟨_,_,rfl,rfl,(heap_alloc_old _ _ (by rw [hs];exact e.lt)).trans (set2 e _ _),?_,⟨hk,h.size,by have:=e.lt;omega⟩,bl_alloc ((h.setCell hk _).setCell hk _) _⟩;show _=_;rw [<-hs];exact heap_alloc_new _ _
theorem shape_no {k:Nat} (h:Below W.heap.size W w) (e:One k w) (hk:W.heap.size<=k):CutR W u1 q1 u2 q2 (.pointer (some ⟨w.heap.size,0,none⟩)) (.pointer (some ⟨k,0,none⟩)) (((w.setCell ⟨k,0,none⟩ (.int .i64 u2)).setCell ⟨k,1,none⟩ (.int .i64 q2)).alloc (.cells #[.int .i64 u1,.int .i64 q1] 186)):=by
  have hs:((w.setCell ⟨k,0,none⟩ (.int .i64 u2)).setCell ⟨k,1,none⟩ (.int .i64 q2)).heap.size=w.heap.size:=by simp
  refine ⟨_,_,rfl,rfl,?_,(heap_alloc_old _ _ (by rw [hs];exact e.lt)).trans (set2 e _ _),⟨h.size,hk,by have:=e.lt;omega⟩,bl_alloc ((h.setCell hk _).setCell hk _) _⟩;show _=_;rw [<-hs];exact heap_alloc_new _ _
theorem shape_oo {k j:Nat} (h:Below W.heap.size W w) (e:One k w) (f:One j w) (hk:W.heap.size<=k) (hj:W.heap.size<=j) (hn:k≠j):CutR W u1 q1 u2 q2 (.pointer (some ⟨k,0,none⟩)) (.pointer (some ⟨j,0,none⟩)) ((((w.setCell ⟨k,0,none⟩ (.int .i64 u1)).setCell ⟨k,1,none⟩ (.int .i64 q1)).setCell ⟨j,0,none⟩ (.int .i64 u2)).setCell ⟨j,1,none⟩ (.int .i64 q2)):=
  ⟨_,_,rfl,rfl,(set2_other hn).trans (set2 e _ _),set2 ((set2_other (fun h=>hn h.symm)).trans f) _ _,⟨hk,hj,hn⟩,((((h.setCell hk _).setCell hk _).setCell hj _).setCell hj _)⟩
end
theorem can_in (f:Int->Int) (xs:List Int) (z:Int) (hz:-2000000000<=z/\z<=2000000000) (hf:∀ x∈xs,-2000000000<=f x/\f x<=2000000000):-2000000000<=xs.foldl (fun m x=>max m (f x)) z/\xs.foldl (fun m x=>max m (f x)) z<=2000000000:=by
  induction xs generalizing z with
  | nil=>exact hz
  | cons x xs ih =>
    have h1:=hf x List.mem_cons_self;exact ih (max z (f x)) (by omega) (fun x hx=>hf x (List.mem_cons_of_mem _ hx))
theorem GrC.of {N K8 lp:Nat} {t:Bool} {u q:Int} {w':World} (h1:w'.heap[N]?=some (.cells #[.pointer (some ⟨lp,0,none⟩),.bool t] 198 (0,0))) (h2:w'.heap[K8]?=some (.cells #[.int .i64 u,.int .i64 q] 186 (0,0))):w'.cell? ⟨N,0,none⟩=some (.pointer (some ⟨lp,0,none⟩))/\w'.cell? ⟨N,1,none⟩=some (.bool t)/\w'.cell? ⟨K8,0,none⟩=some (.int .i64 u)/\w'.cell? ⟨K8,1,none⟩=some (.int .i64 q):=
  ⟨cell_of h1 0,cell_of h1 1,cell_of h2 0,cell_of h2 1⟩
theorem great_any (B lp g p:Nat) (nv mv:Value) (s:St) (Q:List Sq) (t:Bool) (w:World) (h:LfQ B lp g p nv mv s Q w) (vx:Value) (xs:List Int) (hv:IntsK B w vx xs) (hx:∀ x∈xs,0<=x/\x<(s.now.length:Int)) (hl:xs.length<=64) (hp:0<xs.length) (y:Nat) (hy:y<s.now.length):Calls Tryz.prog 159 #[sdVal lp t,.int .i64 (y:Int),vx] w (RlOut B lp g p nv mv s (greatQ t s.now (y:Int) xs[0] xs Q) w):=by
  have hBs:=h.size;have hgood:=h.good;obtain ⟨W,hW⟩:∃ W,w.alloc (.cells #[.pointer (some ⟨lp,0,none⟩),.bool t] 198)=W:=⟨_,rfl⟩;have hb0:Below w.heap.size w W:=bAe hW;have g0:W.heap[w.heap.size]?=some (.cells #[.pointer (some ⟨lp,0,none⟩),.bool t] 198 (0,0)):=hAe hW;have hlt0:=(hLt g0);obtain ⟨a,cap,rfl,_⟩:=hv.at.form;have HVs:Hid (∀ w',Kq B w w'->∀ k (hk:k<xs.length),∃ b off,a=some ⟨b,off,none⟩/\w'.cell? ⟨b,off+k,none⟩=some (.int .i64 xs[k])):=fun w' hk k hkl=>by
    obtain ⟨a',c',e1,_,hcell⟩:=hv w' hk;injection e1 with e1 _ _;obtain ⟨b,off,ha,_,hcl⟩:=hcell (by omega);exact ⟨b,off,by rw [e1,ha],hcl k hkl⟩
  obtain ⟨b,off,rfl,hcl⟩:=HVs.out w (Kq.refl _ _) 0 hp;have hlt:b<w.heap.size:=World.block_lt_of_cell? w _ hcl;rw [Nat.add_zero] at hcl;have HV2:Hid (∀ w',Kq B w w'->∀ k (hk:k<xs.length),w'.cell? ⟨b,off+k,none⟩=some (.int .i64 xs[k])):=fun w' hk k hkl=>by
    obtain ⟨b',off',e,hc⟩:=HVs.out w' hk k hkl;injection e with e;injection e with e1 e2 _;subst e1 e2;exact hc
  have HIk:Hid (IntsK B w (.slice (some ⟨b,off,none⟩) xs.length cap) xs):=hv;have HL:Hid (∀ w',Below W.heap.size W w'->LfQ B lp g p nv mv s Q w'):=fun w' hb=>(h.below hb0).below hb
  have HG0:Hid (∀ w',Below W.heap.size W w'->w'.heap[w.heap.size]?=some (.cells #[.pointer (some ⟨lp,0,none⟩),.bool t] 198 (0,0))):=fun w' hb=>(hb.block _ hlt0).trans g0
  have HKW:Hid (∀ w',Below W.heap.size W w'->Kq B w w'):=fun w' hb=>Kq.of_below (hb0.trans (hb.mono hb0.size)) hBs
  obtain ⟨x0,hx0e,hx0⟩:∃ x0:Nat,xs[0]=(x0:Int)/\x0<s.now.length:=⟨xs[0].toNat,by have:=hx xs[0] (List.getElem_mem hp);omega,by have:=hx xs[0] (List.getElem_mem hp);omega⟩;rw [hx0e] at hcl ⊢;have HC:Hid (∀ w',Below W.heap.size W w'->w'.cell? ⟨w.heap.size,0,none⟩=some (.pointer (some ⟨lp,0,none⟩))/\w'.cell? ⟨w.heap.size,1,none⟩=some (.bool t)/\w'.cell? ⟨b,off,none⟩=some (.int .i64 (x0:Int))/\Below W.heap.size W w'):=fun w' hb=>⟨cell_of ((hb.block _ hlt0).trans g0) 0,cell_of ((hb.block _ hlt0).trans g0) 1,((hb0.trans (hb.mono hb0.size)).cell (p:=⟨b,_,none⟩) hlt).trans hcl,hb⟩
  have HB:Hid (Below w.heap.size w W):=hb0;have H1:Hid (∀ (m:Nat),m<s.now.length->∀ w',Below W.heap.size W w'->Calls Tryz.prog 181 #[.agg #[.pointer (some ⟨lp,0,none⟩),.bool t],.int .i64 (m:Int)] w' fun e w2=>e=.returned (.agg #[.int .i64 (spLo t (dAt s.now m)),.int .i64 (spHi t (dAt s.now m))])/\Below w'.heap.size w' w2):=fun m hm w' hb=>by
    rw [dAt_get hm];exact (HL.out w' hb).span t m hm
  have HX:Hid (∀ k (hk:k<xs.length),∃ m:Nat,xs[k]=(m:Int)/\m<s.now.length):=fun k hk=>⟨xs[k].toNat,by have:=hx xs[k] (List.getElem_mem hk);omega,by have:=hx xs[k] (List.getElem_mem hk);omega⟩
  have HXs:Hid (∀ x∈xs,0<=x/\x<(s.now.length:Int)):=hx;have HD:Hid (∀ m:Nat,m<s.now.length->-2000000000<=spLo t (dAt s.now m)/\spLo t (dAt s.now m)<=2000000000/\-2000000000<=spHi t (dAt s.now m)/\spHi t (dAt s.now m)<=2000000000):=fun m hm=>by
    rw [dAt_get hm];exact sp_in t (hgood _ (List.getElem_mem hm))
  have HDx:Hid (∀ x∈xs,-2000000000<=spLo t (dAt s.now x)/\spLo t (dAt s.now x)<=2000000000/\-2000000000<=spHi t (dAt s.now x)/\spHi t (dAt s.now x)<=2000000000):=fun x hxm=>by
    have:=hx x hxm;obtain ⟨m,rfl,hm⟩:∃ m:Nat,x=(m:Int)/\m<s.now.length:=⟨x.toNat,by omega,by omega⟩;exact HD.out m hm
  have hnI:(0:Int)<(xs.length:Int):=by omega
  have HKp:Hid (∀ (m:Nat),m<s.now.length->∀ w' Q' (c d:Int),LfQ B lp g p nv mv s Q' w'->-9223372036854775807<=c->c<=9223372036854775807->-9223372036854775807<=d->d<=9223372036854775807->Calls Tryz.prog 182 #[.agg #[.pointer (some ⟨lp,0,none⟩),.bool t],.int .i64 (m:Int),.agg #[.int .i64 c,.int .i64 d]] w' (KqOut B lp g p nv mv s (sKeepQ t Q' m c d) w')):=fun m hm w' Q' c d hL h1 h2 h3 h4=>hL.sKeep t m hm c d h1 h2 h3 h4
  have HRc:Hid (∀ (x v:Int) w' Q',LfQ B lp g p nv mv s Q' w'->Kq B w w'->Calls Tryz.prog 186 #[.agg #[.pointer (some ⟨lp,0,none⟩),.bool t],.int .i64 x,.slice (some ⟨b,off,none⟩) xs.length cap,.int .i64 v] w' fun e w2=>e=.returned (.bool (xs.any (rchB t s.now x v)))/\Below w'.heap.size w' w2):=fun x v w' Q' hL hk=>reach_any B lp g p nv mv s Q' t w' hL _ xs (hv w' hk) hx hl x v
  have HBsW:Hid (B<=W.heap.size):=Nat.le_trans hBs hb0.size;obtain ⟨u1,hu1⟩:∃ u,spLo t (dAt s.now y)=u:=⟨_,rfl⟩;obtain ⟨q1,hq1⟩:∃ u,spHi t (dAt s.now y)=u:=⟨_,rfl⟩;obtain ⟨u2,hu2⟩:∃ u,spLo t (dAt s.now x0)=u:=⟨_,rfl⟩;obtain ⟨q2,hq2⟩:∃ u,spHi t (dAt s.now x0)=u:=⟨_,rfl⟩;have hdy:=HD.out y hy;have hd0:=HD.out x0 hx0;rw [hu1,hq1] at hdy;rw [hu2,hq2] at hd0;have HY0:=H1.out y hy;have HX0:=H1.out x0 hx0;rw [hu1,hq1] at HY0;rw [hu2,hq2] at HX0;have HYh:Hid (∀ w',Below W.heap.size W w'->Calls Tryz.prog 181 #[.agg #[.pointer (some ⟨lp,0,none⟩),.bool t],.int .i64 (y:Int)] w' fun e w2=>e=.returned (.agg #[.int .i64 u1,.int .i64 q1])/\Below w'.heap.size w' w2):=HY0
  have HXh:Hid (∀ w',Below W.heap.size W w'->Calls Tryz.prog 181 #[.agg #[.pointer (some ⟨lp,0,none⟩),.bool t],.int .i64 (x0:Int)] w' fun e w2=>e=.returned (.agg #[.int .i64 u2,.int .i64 q2])/\Below w'.heap.size w' w2):=HX0;obtain ⟨D,hD⟩:∃ D,s.now=D:=⟨_,rfl⟩;have HR:Hid (greatQ t s.now (y:Int) (x0:Int) xs Q=if xs.foldl (fun m x=>max m (spHi t (dAt D x))) q2<u1∨q1<xs.foldl (fun m x=>max m (spLo t (dAt D x))) u2 then none else some (xs.foldl (grStep t D xs u1 q1) (sKeepQ t Q y (xs.foldl (fun m x=>max m (spLo t (dAt D x))) u2) (xs.foldl (fun m x=>max m (spHi t (dAt D x))) q2)))):=by
    show _=_;unfold greatQ canLo canHi;rw [hu1,hq1,hu2,hq2,hD];rfl
  obtain ⟨R,hR⟩:∃ R,greatQ t s.now (y:Int) (x0:Int) xs Q=R:=⟨_,rfl⟩;rw [hR] at HR ⊢;rw [hD] at H1 HDx HRc HX HKp hy;have HGt:Hid (∀ (a b c d:Int) w',Calls Tryz.prog 185 #[.agg #[.int .i64 a,.int .i64 b],.agg #[.int .i64 c,.int .i64 d]] w' fun e w2=>e=.returned (.agg #[.int .i64 (max a c),.int .i64 (max b d)])/\Below w'.heap.size w' w2):=fun a b c d w'=>greater_any a b c d w'
  clear h hv hx hgood hBs hb0 g0 hlt0 hx0e HY0 HX0 hu1 hq1 hu2 hq2 hR hcl hlt HVs HD hD;unfold sdVal;go_enter Tryz.func159,Tryz.ntmps159;go_wp2_with fail
  go_cut [7,8] from 13 to 74 (fun s7 s8 wx=>CutR W u1 q1 u2 q2 s7 s8 wx)
  case first=>
    go_region_held3 (fun w'=>w'.cell? ⟨w.heap.size,0,none⟩=some (.pointer (some ⟨lp,0,none⟩))/\w'.cell? ⟨w.heap.size,1,none⟩=some (.bool t)/\w'.cell? ⟨b,off,none⟩=some (.int .i64 (x0:Int))/\Below W.heap.size W w')
      ((refine HC.out _ ?_;(repeat (first | exact HB5.out | exact HB4.out | exact (Below.refl _ _).drew | exact And.right (And.right (And.right (by assumption))) | exact Below.refl _ _ | refine bl_alloc ?_ _ | refine Below.drew ?_ | refine Below.setCell (hp:=by first | exact HB5.out.size | exact HB4.out.size | exact Nat.le_refl _ | exact Nat.le_succ _ | exact Nat.le_succ_of_le HB4.out.size | exact Nat.le_succ_of_le HB5.out.size) ?_ _))))
      (first | (go_at_call 181;refine cA (HYh.out _ (And.right (And.right (And.right (by assumption))))) ?_;rintro e w4 ⟨rfl,hb4⟩;(have HB4:Hid (Below W.heap.size W w4):=bl_next (And.right (And.right (And.right (by assumption)))) hb4);(first | (have E0:One W.heap.size w4/\One (W.heap.size+1) w4:=(by with_reducible exact two_inD hb4)) | (have E0:One W.heap.size w4:=(by with_reducible exact one_inD hb4)) | skip);obtain ⟨hc4,hf4⟩:=bcell hb4;(first | (have hz4:W.heap.size+1<w4.heap.size:=lt_alloc2 (V:=W.drew) hb4.size;have hz4':W.heap.size<w4.heap.size:=Nat.lt_of_succ_lt hz4) | (have hz4:W.heap.size<w4.heap.size:=lt_alloc (V:=W.drew) hb4.size;have hz4':W.heap.size<w4.heap.size+1:=Nat.lt_succ_of_lt hz4) | skip)) | (go_at_call 181;refine cA (HXh.out _ (And.right (And.right (And.right (by assumption))))) ?_;rintro e w5 ⟨rfl,hb5⟩;(have HB5:Hid (Below W.heap.size W w5):=bl_next (And.right (And.right (And.right (by assumption)))) hb5);(first | (have E1:One w4.heap.size w5/\One (w4.heap.size+1) w5:=(by with_reducible exact two_in hb5)) | (have E1:One w4.heap.size w5:=(by with_reducible exact one_in hb5)) | skip);(first | (have F0:One W.heap.size w5/\One (W.heap.size+1) w5:=(by with_reducible exact ⟨One.c0 (And.left E0) hb5,One.c0 (And.right E0) hb5⟩)) | (have F0:One W.heap.size w5:=(by with_reducible exact One.c1 E0 hb5)) | (have F0:One W.heap.size w5:=(by with_reducible exact One.c0 E0 hb5)) | skip);obtain ⟨hc5,hf5⟩:=bcell hb5;(first | (have hz5:w4.heap.size+1<w5.heap.size:=lt_alloc2 (V:=w4) hb5.size;have hz5':w4.heap.size<w5.heap.size:=Nat.lt_of_succ_lt hz5) | (have hz5:w4.heap.size<w5.heap.size:=lt_alloc (V:=w4) hb5.size) | skip);(first | (have q5:w4.heap.size<=w5.heap.size:=Nat.le_of_lt (Nat.lt_of_succ_lt (lt_alloc2 (V:=w4) hb5.size))) | (have q5:w4.heap.size<=w5.heap.size:=Nat.le_of_lt (lt_alloc (V:=w4) hb5.size)) | (have q5:w4.heap.size<=w5.heap.size:=hb5.size));(first | (have hz6:W.heap.size+1<w5.heap.size:=Nat.lt_of_lt_of_le hz4 q5;have hz6':W.heap.size<w5.heap.size:=Nat.lt_of_succ_lt hz6) | (have hz6:W.heap.size<w5.heap.size:=Nat.lt_of_lt_of_le hz4 q5) | skip)))
    all_goals (go_wp2_with fail)
    all_goals go_meet
    all_goals first
      | with_reducible exact shape_nn HB5.out
      | with_reducible exact shape_nm HB5.out
      | with_reducible exact shape_on HB5.out F0 (Nat.le_refl _)
      | with_reducible exact shape_on HB5.out E1 HB4.out.size
      | with_reducible exact shape_no HB5.out F0 (Nat.le_refl _)
      | with_reducible exact shape_no HB5.out E1 HB4.out.size
      | with_reducible exact shape_oo HB5.out F0 E1 (Nat.le_refl _) HB4.out.size (Nat.ne_of_lt (One.lt E0))
      | with_reducible exact shape_oo HB5.out E1 F0 HB4.out.size (Nat.le_refl _) (Nat.ne_of_gt (One.lt E0))
      | with_reducible exact shape_oo HB5.out (And.left F0) (And.right F0) (Nat.le_refl _) (Nat.le_succ _) (Nat.ne_of_lt (Nat.lt_succ_self _))
      | with_reducible exact shape_oo HB5.out (And.right F0) (And.left F0) (Nat.le_succ _) (Nat.le_refl _) (Nat.ne_of_gt (Nat.lt_succ_self _))
      | with_reducible exact shape_oo HB5.out (And.left E1) (And.right E1) HB4.out.size (Nat.le_succ_of_le HB4.out.size) (Nat.ne_of_lt (Nat.lt_succ_self _))
      | with_reducible exact shape_oo HB5.out (And.right E1) (And.left E1) (Nat.le_succ_of_le HB4.out.size) HB4.out.size (Nat.ne_of_gt (Nat.lt_succ_self _))
  case rest=>
  obtain ⟨k7,k8,rfl,rfl,H7,H8,HKs,HBx⟩:=hcut;rename World=>wx;clear HYh HXh HC hW;go_wp2_with fail
  go_loopw [23] (fun iv wr=>∃ (k:Nat),iv=.int .i64 (k:Int)/\k<=xs.length/\Hid (wr.heap[k7]?=some (.cells #[.int .i64 u1,.int .i64 q1] 186 (0,0)))/\Hid (wr.heap[k8]?=some (.cells #[.int .i64 ((xs.take k).foldl (fun m x=>max m (spLo t (dAt D x))) u2),.int .i64 ((xs.take k).foldl (fun m x=>max m (spHi t (dAt D x))) q2)] 186 (0,0)))/\Hid (Below W.heap.size W wr)) (fun iv _=>xs.length-(intOf iv).toNat)
  case atStart=>exact ⟨0,rfl,Nat.zero_le _,H7,H8,HBx⟩
  case round=>
  obtain ⟨k,rfl,hk,H7r,H8r,HBr⟩:=hrel
  by_cases hkn:k<xs.length
  · have hkI:(k:Int)<(xs.length:Int):=by omega
    obtain ⟨m,hm,hmn⟩:=HX.out k hkn;have f0:=HV2.out wr (HKW.out wr HBr.out) k hkn;have hn1:=can_next (fun x=>spLo t (dAt D x)) xs k hkn u2;have hn2:=can_next (fun x=>spHi t (dAt D x)) xs k hkn q2;have HSm:=H1.out m hmn;rw [hm] at f0 hn1 hn2;obtain ⟨cl,hcl⟩:∃ c,(xs.take k).foldl (fun m x=>max m (spLo t (dAt D x))) u2=c:=⟨_,rfl⟩;obtain ⟨ch,hch⟩:∃ c,(xs.take k).foldl (fun m x=>max m (spHi t (dAt D x))) q2=c:=⟨_,rfl⟩;obtain ⟨u,hu⟩:∃ c,spLo t (dAt D (m:Int))=c:=⟨_,rfl⟩;obtain ⟨q,hq⟩:∃ c,spHi t (dAt D (m:Int))=c:=⟨_,rfl⟩;rw [hcl] at H8r hn1;rw [hch] at H8r hn2;rw [hu] at HSm hn1;rw [hq] at HSm hn2;have HN:Hid ((xs.take (k+1)).foldl (fun m x=>max m (spLo t (dAt D x))) u2=max cl u/\(xs.take (k+1)).foldl (fun m x=>max m (spHi t (dAt D x))) q2=max ch q):=⟨hn1,hn2⟩
    have HSm':Hid (∀ w',Below W.heap.size W w'->Calls Tryz.prog 181 #[.agg #[.pointer (some ⟨lp,0,none⟩),.bool t],.int .i64 (m:Int)] w' fun e w2=>e=.returned (.agg #[.int .i64 u,.int .i64 q])/\Below w'.heap.size w' w2):=HSm;have HGr:Hid (∀ w',Below w'.heap.size wr w'->True):=fun _ _=>trivial
    have HCq:Hid (∀ w',Below wr.heap.size wr w'->w'.cell? ⟨w.heap.size,0,none⟩=some (.pointer (some ⟨lp,0,none⟩))/\w'.cell? ⟨w.heap.size,1,none⟩=some (.bool t)/\w'.cell? ⟨k8,0,none⟩=some (.int .i64 cl)/\w'.cell? ⟨k8,1,none⟩=some (.int .i64 ch)):=fun w' hb=>by
      have h8:=(hb.block _ (hLt H8r.out)).trans H8r.out;have h0:=HG0.out w' (HBr.out.trans (hb.mono HBr.out.size));exact GrC.of h0 h8
    clear hn1 hn2 hcl hch hu hq HSm HGr hm;go_wp2_with fail
    refine wp_region_T (fun _=>True) (fun w'=>w'.cell? ⟨w.heap.size,0,none⟩=some (.pointer (some ⟨lp,0,none⟩))/\w'.cell? ⟨w.heap.size,1,none⟩=some (.bool t)/\w'.cell? ⟨k8,0,none⟩=some (.int .i64 cl)/\w'.cell? ⟨k8,1,none⟩=some (.int .i64 ch)) [5] (by kernel_rfl) ⟨trivial,HCq.out _ (Below.refl _ _).drew⟩ (fun hHeld=>?_);have HBd:Hid (Below wr.heap.size wr wr.drew):=(Below.refl _ _).drew;generalize wr.drew=U at HBd hHeld ⊢
    refine tA (i:=0) (oi:=⟨some 27,.load 186 (.tmp 8),_,_,_,_⟩) (v:=?v_ad) ?hy_ad (by assumption) ?rest_ad
    case hy_ad=>(intro w hSw;(try dsimp only at hSw);go_simp;try (with_reducible rfl))
    try simp only [Act.put,q1,q2,q3]
    refine tA (i:=1) (oi:=⟨some 28,.load 198 (.tmp 3),_,_,_,_⟩) (v:=?v_ab) ?hy_ab (by assumption) ?rest_ab
    case hy_ab=>(intro w hSw;(try dsimp only at hSw);go_simp;try (with_reducible rfl))
    try simp only [Act.put,q1,q2,q3]
    refine tB (i:=2) (oi:=⟨some 29,.move (.tmp 10),_,_,_,_⟩) (v:=?v_ac) ?hy_ac (by assumption) ?rest_ac
    case hy_ac=>(intro w hSw;(try dsimp only at hSw);go_simp;try (with_reducible rfl))
    try simp only [Act.put,q1,q2,q3]
    refine wpAnyT_one (i:=3) (o:=⟨some 30,.call { callee:=.value (.func 181),args:=#[(.tmp 28),(.tmp 29)],argTypes:=#[198,3] },_,_,_,_⟩) (by kernel_rfl) rfl (fun K hK=>?_);go_simp;refine cA (HSm'.out _ (HBr.out.trans (HBd.out.mono HBr.out.size))) ?_;rintro e w2 ⟨rfl,hb2⟩;go_wp2_with fail
    have HB2:Hid (Below wr.heap.size wr w2):=HBd.out.trans (hb2.mono HBd.out.size);clear hb2 hHeld;have hHeld:=(⟨trivial,HCq.out _ HB2.out⟩:True/\_);refine hK.out _ _ ⟨trivial,fun _=>hHeld.2⟩ ?_;clear hK K;refine wpAnyT_one (i:=4) (o:=⟨some 31,.call { callee:=.value (.func 185),args:=#[(.tmp 27),(.tmp 30)],argTypes:=#[186,186] },_,_,_,_⟩) (by kernel_rfl) rfl (fun K hK=>?_);go_simp;refine cA (HGt.out cl ch u q w2) ?_;rintro e w3 ⟨rfl,hb3⟩;go_wp2_with fail
    have HB3:Hid (Below wr.heap.size wr w3):=HB2.out.trans (hb3.mono HB2.out.size);clear hb3 hHeld;have hHeld:=(⟨trivial,HCq.out _ HB3.out⟩:True/\_);obtain ⟨_,_,_,d0,d1⟩:=hHeld;have hHeld:=(⟨trivial,HCq.out _ HB3.out⟩:True/\_);have h83:w3.heap[k8]?=some (.cells #[.int .i64 cl,.int .i64 ch] 186 (0,0)):=(HB3.out.block _ (hLt H8r.out)).trans H8r.out;have dz:∀ i,w3.frozen? ⟨k8,i,none⟩=false:=frozen_of h83;have H83:Hid (w3.heap[k8]?=some (.cells #[.int .i64 cl,.int .i64 ch] 186 (0,0))):=h83;clear h83;refine hK.out _ _ ⟨trivial,fun _=>hHeld.2⟩ ?_;clear hK K;refine wpAnyT_late (i:=5) (o:=⟨none,.store 186 (.tmp 8) (.tmp 31),_,_,_,_⟩) (by kernel_rfl) rfl (by kernel_rfl) (fun K hK=>?_);go_simp;refine hK.out _ _ ?sh_aa ?rest_aa
    case sh_aa=>((try dsimp only);all_goals trivial)
    clear hK K;try simp only [Act.put,q1,q2,q3]
    refine wpAnyT_done (by kernel_rfl) ?_ _;have HB4:Hid (Below W.heap.size W ((w3.setCell ⟨k8,0,none⟩ (.int .i64 (max cl u))).setCell ⟨k8,1,none⟩ (.int .i64 (max ch q)))):=((HBr.out.trans (HB3.out.mono HBr.out.size)).setCell HKs.out.2.1 _).setCell HKs.out.2.1 _;have H84:Hid (((w3.setCell ⟨k8,0,none⟩ (.int .i64 (max cl u))).setCell ⟨k8,1,none⟩ (.int .i64 (max ch q))).heap[k8]?=some (.cells #[.int .i64 (max cl u),.int .i64 (max ch q)] 186 (0,0))):=set2 H83.out _ _;have H74:Hid (((w3.setCell ⟨k8,0,none⟩ (.int .i64 (max cl u))).setCell ⟨k8,1,none⟩ (.int .i64 (max ch q))).heap[k7]?=some (.cells #[.int .i64 u1,.int .i64 q1] 186 (0,0))):=(set2_other HKs.out.2.2).trans ((HB3.out.block _ (hLt H7r.out)).trans H7r.out);clear hHeld d0 d1 dz;go_wp2_with fail
    go_roundw
    case rel=>exact ⟨k+1,by go_num,hkn,H74,(by show _=_;rw [HN.out.1,HN.out.2];exact H84.out),HB4⟩
    case measure=>simp [intOf];omega
  have hke:k=xs.length:=by omega
  subst hke;have hkI:¬ (xs.length:Int)<(xs.length:Int):=by omega
  rw [List.take_length] at H8r;obtain ⟨cl,hcl⟩:∃ c,xs.foldl (fun m x=>max m (spLo t (dAt D x))) u2=c:=⟨_,rfl⟩;obtain ⟨ch,hch⟩:∃ c,xs.foldl (fun m x=>max m (spHi t (dAt D x))) q2=c:=⟨_,rfl⟩;have hclb:=can_in (fun x=>spLo t (dAt D x)) xs u2 ⟨hd0.1,hd0.2.1⟩ (fun x hx=>⟨(HDx.out x hx).1,(HDx.out x hx).2.1⟩);have hchb:=can_in (fun x=>spHi t (dAt D x)) xs q2 ⟨hd0.2.2.1,hd0.2.2.2⟩ (fun x hx=>⟨(HDx.out x hx).2.2.1,(HDx.out x hx).2.2.2⟩);rw [hcl] at hclb H8r HR;rw [hch] at hchb H8r HR;clear hcl hch;have e80:wr.cell? ⟨k8,0,none⟩=some (.int .i64 cl):=cell_of H8r.out 0;have e81:wr.cell? ⟨k8,1,none⟩=some (.int .i64 ch):=cell_of H8r.out 1;have e70:wr.cell? ⟨k7,0,none⟩=some (.int .i64 u1):=cell_of H7r.out 0;have e71:wr.cell? ⟨k7,1,none⟩=some (.int .i64 q1):=cell_of H7r.out 1
  have e30:wr.cell? ⟨w.heap.size,0,none⟩=some (.pointer (some ⟨lp,0,none⟩)):=cell_of (HG0.out wr HBr.out) 0;have e31:wr.cell? ⟨w.heap.size,1,none⟩=some (.bool t):=cell_of (HG0.out wr HBr.out) 1
  by_cases hf1:ch<u1
  · have HRn:Hid (R=none):=by show _=_;rw [HR.out,if_pos (.inl hf1)]
    go_wp2_with fail
    go_ret;exact ⟨by rw [HRn.out];rfl,(fun Q' h=>by rw [HRn.out] at h;cases h),HKW.out wr HBr.out⟩
  by_cases hf2:q1<cl
  · have HRn:Hid (R=none):=by show _=_;rw [HR.out,if_pos (.inr hf2)]
    go_wp2_with fail
    go_ret;exact ⟨by rw [HRn.out];rfl,(fun Q' h=>by rw [HRn.out] at h;cases h),HKW.out wr HBr.out⟩
  have HRs:Hid (R=some (xs.foldl (grStep t D xs u1 q1) (sKeepQ t Q y cl ch))):=by show _=_;rw [HR.out,if_neg (by omega)]
  obtain ⟨hc1,hc2⟩:=hclb;obtain ⟨hc3,hc4⟩:=hchb;obtain ⟨hd1,hd2,hd3,hd4⟩:=hdy;clear HR hd0;go_wp2_with fail
  refine cA (HKp.out y hy wr Q cl ch (HL.out wr HBr.out) (by omega) (by omega) (by omega) (by omega)) ?_;rintro e wz ⟨rfl,hLz,hkz⟩;have HLz:Hid (LfQ B lp g p nv mv s (sKeepQ t Q y cl ch) wz):=hLz;have HKz:Hid (Kq B w wz):=(HKW.out wr HBr.out).trans hkz;have H7z:Hid (wz.heap[k7]?=some (.cells #[.int .i64 u1,.int .i64 q1] 186 (0,0))):=hkz.block H7r.out (by decide) (by decide);have H3z:Hid (wz.heap[w.heap.size]?=some (.cells #[.pointer (some ⟨lp,0,none⟩),.bool t] 198 (0,0))):=hkz.block (HG0.out wr HBr.out) (by decide) (by decide);clear hLz hkz e80 e81 e70 e71 e30 e31;go_wp2_with fail
  go_loopw [51] (fun iv wr=>∃ (k:Nat),iv=.int .i64 (k:Int)/\k<=xs.length/\Hid (LfQ B lp g p nv mv s ((xs.take k).foldl (grStep t D xs u1 q1) (sKeepQ t Q y cl ch)) wr)/\Hid (Kq B wz wr)) (fun iv _=>xs.length-(intOf iv).toNat)
  case atStart=>exact ⟨0,rfl,Nat.zero_le _,HLz,Kq.refl _ _⟩
  case round=>
  obtain ⟨k,rfl,hk2,HLr,HKr⟩:=hrel;rename World=>wq
  by_cases hkn2:k<xs.length
  · have hkI2:(k:Int)<(xs.length:Int):=by omega
    obtain ⟨m,hm,hmn⟩:=HX.out k hkn2;have f0:=HV2.out wq (HKz.out.trans HKr.out) k hkn2;have hnx:=gr_next t D xs xs u1 q1 (sKeepQ t Q y cl ch) k hkn2;rw [hm] at f0 hnx;unfold grStep at hnx;rw [Int.toNat_natCast] at hnx;obtain ⟨Qk,hQk⟩:∃ c,(xs.take k).foldl (grStep t D xs u1 q1) (sKeepQ t Q y cl ch)=c:=⟨_,rfl⟩;have hQk2:(xs.take k).foldl (fun Q o=>if xs.any (rchB t D o u1) then sKeepQ t Q o.toNat (-9223372036854775807) q1 else sKeepQ t (sKeepQ t Q o.toNat (-9223372036854775807) q1) o.toNat u1 9223372036854775807) (sKeepQ t Q y cl ch)=Qk:=hQk;rw [hQk] at HLr;have HN:Hid ((xs.take (k+1)).foldl (grStep t D xs u1 q1) (sKeepQ t Q y cl ch)=if xs.any (rchB t D (m:Int) u1) then sKeepQ t Qk m (-9223372036854775807) q1 else sKeepQ t (sKeepQ t Qk m (-9223372036854775807) q1) m u1 9223372036854775807):=by
      show _=_;rw [<-hQk];exact hnx
    have H7q:Hid (wq.heap[k7]?=some (.cells #[.int .i64 u1,.int .i64 q1] 186 (0,0))):=HKr.out.block H7z.out (by decide) (by decide);have H3q:Hid (wq.heap[w.heap.size]?=some (.cells #[.pointer (some ⟨lp,0,none⟩),.bool t] 198 (0,0))):=HKr.out.block H3z.out (by decide) (by decide);have HKk:=HKp.out m hmn;have HKk':Hid (∀ (w':World) (Q':List Sq) (c d:Int),LfQ B lp g p nv mv s Q' w'->-9223372036854775807<=c->c<=9223372036854775807->-9223372036854775807<=d->d<=9223372036854775807->Calls Tryz.prog 182 #[.agg #[.pointer (some ⟨lp,0,none⟩),.bool t],.int .i64 (m:Int),.agg #[.int .i64 c,.int .i64 d]] w' (KqOut B lp g p nv mv s (sKeepQ t Q' m c d) w')):=HKk
    have HUp:Hid (∀ w',Calls Tryz.prog 183 #[.int .i64 q1] w' fun e w2=>e=.returned (.agg #[.int .i64 (-9223372036854775807),.int .i64 q1])/\Below w'.heap.size w' w2):=fun w'=>upTo_any q1 w'
    have HFr:Hid (∀ w',Calls Tryz.prog 184 #[.int .i64 u1] w' fun e w2=>e=.returned (.agg #[.int .i64 u1,.int .i64 9223372036854775807])/\Below w'.heap.size w' w2):=fun w'=>fromB_any u1 w'
    have HLd:Hid (LfQ B lp g p nv mv s Qk wq.drew):=HLr.out.below (Below.refl _ _).drew;have HKd:Hid (Kq B wq wq.drew):=Kq.of_below (Below.refl _ _).drew HLr.out.size;clear hnx hQk hQk2 HKk hm;go_wp2_with fail
    clear f0;go_cut [] from 55 to 74 (fun wx=>Hid (LfQ B lp g p nv mv s (sKeepQ t Qk m (-9223372036854775807) q1) wx)/\Hid (Kq B wq wx))
    case first=>
      go_region_held3 (fun w'=>w'.cell? ⟨w.heap.size,0,none⟩=some (.pointer (some ⟨lp,0,none⟩))/\w'.cell? ⟨w.heap.size,1,none⟩=some (.bool t)/\w'.cell? ⟨k7,0,none⟩=some (.int .i64 u1)/\w'.cell? ⟨k7,1,none⟩=some (.int .i64 q1))
        (first | exact AmC.of H3q.out H7q.out HK5.out | exact AmC.of H3q.out H7q.out HK4.out | exact AmC.of H3q.out H7q.out HKd.out)
        (first | (go_at_call 183;refine cA (HUp.out _) ?_;rintro e w4 ⟨rfl,hb4⟩;(have HL4:Hid (LfQ B lp g p nv mv s Qk w4):=HLd.out.below hb4);(have HK4:Hid (Kq B wq w4):=HKd.out.next hb4 HLd.out.size);clear hb4) | (go_at_call 182;refine cA (HKk'.out w4 Qk (-9223372036854775807) q1 HL4.out (by omega) (by omega) (by omega) (by omega)) ?_;rintro e w5 ⟨rfl,hL5,hk5⟩;(have HL5:Hid (LfQ B lp g p nv mv s (sKeepQ t Qk m (-9223372036854775807) q1) w5):=hL5);(have HK5:Hid (Kq B wq w5):=HK4.out.trans hk5);clear hL5 hk5))
      go_wp2_with fail
      go_meet;exact ⟨HL5,HK5⟩
    case rest=>
    obtain ⟨HLx,HKx⟩:=hcut;rename World=>wx2;have e30:wx2.cell? ⟨w.heap.size,0,none⟩=some (.pointer (some ⟨lp,0,none⟩)):=cell_of (HKx.out.block H3q.out (by decide) (by decide)) 0;have e31:wx2.cell? ⟨w.heap.size,1,none⟩=some (.bool t):=cell_of (HKx.out.block H3q.out (by decide) (by decide)) 1;have e70:wx2.cell? ⟨k7,0,none⟩=some (.int .i64 u1):=cell_of (HKx.out.block H7q.out (by decide) (by decide)) 0;have HRq:=HRc.out (m:Int) u1 wx2 _ HLx.out ((HKz.out.trans HKr.out).trans HKx.out);obtain ⟨r,hr⟩:∃ r,xs.any (rchB t D (m:Int) u1)=r:=⟨_,rfl⟩;rw [hr] at HRq HN;have HRq':Hid (Calls Tryz.prog 186 #[.agg #[.pointer (some ⟨lp,0,none⟩),.bool t],.int .i64 (m:Int),.slice (some ⟨b,off,none⟩) xs.length cap,.int .i64 u1] wx2 fun e w2=>e=.returned (.bool r)/\Below wx2.heap.size wx2 w2):=HRq;clear hr HRq;go_wp2_with fail
    refine cA HRq'.out ?_;rintro e w6 ⟨rfl,hb6⟩;have HL6:Hid (LfQ B lp g p nv mv s (sKeepQ t Qk m (-9223372036854775807) q1) w6):=HLx.out.below hb6;have HK6:Hid (Kq B wq w6):=HKx.out.next hb6 HLx.out.size;clear hb6 e30 e31 e70
    cases r with
    | true =>
      have HN2:Hid ((xs.take (k+1)).foldl (grStep t D xs u1 q1) (sKeepQ t Q y cl ch)=sKeepQ t Qk m (-9223372036854775807) q1):=HN.out.trans (if_pos rfl);go_wp2_with fail
      go_roundw
      case rel=>exact ⟨k+1,by go_num,hkn2,(by show LfQ _ _ _ _ _ _ _ _ _;rw [HN2.out];exact HL6.out),HKr.out.trans HK6.out⟩
      case measure=>simp [intOf];omega
    | false =>
      have HN2:Hid ((xs.take (k+1)).foldl (grStep t D xs u1 q1) (sKeepQ t Q y cl ch)=sKeepQ t (sKeepQ t Qk m (-9223372036854775807) q1) m u1 9223372036854775807):=HN.out.trans (if_neg (by simp));have HLe:Hid (LfQ B lp g p nv mv s (sKeepQ t Qk m (-9223372036854775807) q1) w6.drew):=HL6.out.below (Below.refl _ _).drew;have HKe:Hid (Kq B wq w6.drew):=HK6.out.next (Below.refl _ _).drew HL6.out.size;go_wp2_with fail
      go_region_held3 (fun w'=>w'.cell? ⟨w.heap.size,0,none⟩=some (.pointer (some ⟨lp,0,none⟩))/\w'.cell? ⟨w.heap.size,1,none⟩=some (.bool t)/\w'.cell? ⟨k7,0,none⟩=some (.int .i64 u1)/\w'.cell? ⟨k7,1,none⟩=some (.int .i64 q1))
        (first | exact AmC.of H3q.out H7q.out HK8.out | exact AmC.of H3q.out H7q.out HK7.out | exact AmC.of H3q.out H7q.out HKe.out)
        (first | (go_at_call 184;refine cA (HFr.out _) ?_;rintro e w7 ⟨rfl,hb7⟩;(have HL7:Hid (LfQ B lp g p nv mv s (sKeepQ t Qk m (-9223372036854775807) q1) w7):=HLe.out.below hb7);(have HK7:Hid (Kq B wq w7):=HKe.out.next hb7 HLe.out.size);clear hb7) | (go_at_call 182;refine cA (HKk'.out w7 _ u1 9223372036854775807 HL7.out (by omega) (by omega) (by omega) (by omega)) ?_;rintro e w8 ⟨rfl,hL8,hk8⟩;(have HL8:Hid (LfQ B lp g p nv mv s (sKeepQ t (sKeepQ t Qk m (-9223372036854775807) q1) m u1 9223372036854775807) w8):=hL8);(have HK8:Hid (Kq B wq w8):=HK7.out.trans hk8);clear hL8 hk8))
      go_wp2_with fail
      go_roundw
      case rel=>exact ⟨k+1,by go_num,hkn2,(by show LfQ _ _ _ _ _ _ _ _ _;rw [HN2.out];exact HL8.out),HKr.out.trans HK8.out⟩
      case measure=>simp [intOf];omega
  · have hke:k=xs.length:=by omega
    subst hke;have HLf:Hid (LfQ B lp g p nv mv s (xs.foldl (grStep t D xs u1 q1) (sKeepQ t Q y cl ch)) wq):=by have:=HLr.out;rw [List.take_length] at this;exact this
    go_wp2_with fail
    go_ret;refine ⟨by rw [HRs.out];rfl,(fun Q' h=>?_),HKz.out.trans HKr.out⟩;rw [HRs.out] at h;injection h with h;rw [<-h];exact HLf.out
def maxQ (t:Bool) (D:List Dm) (c:Md.Cn) (Q:List Sq):Option (List Sq):=greatQ t D c.y (c.xs.headD 0) c.xs Q
theorem headD_get {l:List Int} (h:0<l.length):l.headD 0=l[0]:=by
  cases l with
  | nil=>simp at h
  | cons a l=>rfl
theorem MxC.of {N B:Nat} {a0 a1 a2 a3 a4 a5 a6 a7 a8 a9:Value} {X w':World} (h:X.heap[N]?=some (.cells #[a0,a1,a2,a3,a4,a5,a6,a7,a8,a9] 56 (0,0))) (hk:Kq B X w'):w'.cell? ⟨N,6,none⟩=some a6/\w'.cell? ⟨N,7,none⟩=some a7:=by
  have h:=hk.block h (by decide) (by decide);exact ⟨cell_of h 6,cell_of h 7⟩
theorem max_any (B lp g p:Nat) (nv mv:Value) (s:St) (Q:List Sq) (w:World) (h:LfQ B lp g p nv mv s Q w) (c:Md.Cn) (vt vx vb vr:Value) (hC:CnK B w c vt vx vb vr) (hy:0<=c.y/\c.y<(s.now.length:Int)) (hx:∀ x∈c.xs,0<=x/\x<(s.now.length:Int)) (hl:c.xs.length<=64) (hp:0<c.xs.length):Calls Tryz.prog 135 #[.pointer (some ⟨lp,0,none⟩),cnVal c vt vx vb vr] w (RlOut B lp g p nv mv s (maxQ false s.now c Q) w):=by
  have hBs:=h.size;obtain ⟨y,hye,hyn⟩:∃ y:Nat,c.y=(y:Int)/\y<s.now.length:=⟨c.y.toNat,by omega,by omega⟩;obtain ⟨W,hW⟩:∃ W,w.alloc (.cells #[.int .i64 c.kind,.int .i64 c.op,vt,.int .i64 c.k,.int .i64 c.v,.int .i64 c.x,.int .i64 (y:Int),vx,vb,vr] 56)=W:=⟨_,rfl⟩;have hb0:Below w.heap.size w W:=bAe hW;have g0:W.heap[w.heap.size]?=some (.cells #[.int .i64 c.kind,.int .i64 c.op,vt,.int .i64 c.k,.int .i64 c.v,.int .i64 c.x,.int .i64 (y:Int),vx,vb,vr] 56 (0,0)):=hAe hW;have HBs:Hid (B<=W.heap.size):=Nat.le_trans hBs hb0.size;have HLW:Hid (LfQ B lp g p nv mv s Q W):=h.below hb0;have HKW:Hid (Kq B w W):=Kq.of_below hb0 hBs;have HG:Hid (∀ w',Kq B W w'->w'.cell? ⟨w.heap.size,6,none⟩=some (.int .i64 (y:Int))/\w'.cell? ⟨w.heap.size,7,none⟩=some vx):=fun w' hk=>MxC.of g0 hk
  have HIx:Hid (IntsK B W vx c.xs):=hC.xs.kq HKW.out;have HU:Hid (∀ w',Calls Tryz.prog 150 #[.pointer (some ⟨lp,0,none⟩)] w' fun e w2=>e=.returned (.agg #[.pointer (some ⟨lp,0,none⟩),.bool false])/\Below w'.heap.size w' w2):=fun w'=>upright_any lp w'
  have HGr:Hid (∀ w',Below W.heap.size W w'->Calls Tryz.prog 159 #[.agg #[.pointer (some ⟨lp,0,none⟩),.bool false],.int .i64 (y:Int),vx] w' (RlOut B lp g p nv mv s (maxQ false s.now c Q) w')):=fun w' hb=>by
    have:=great_any B lp g p nv mv s Q false w' (HLW.out.below hb) vx c.xs (HIx.out.kq (Kq.of_below hb HBs.out)) hx hl hp y hyn;have he:maxQ false s.now c Q=greatQ false s.now (y:Int) c.xs[0] c.xs Q:=by unfold maxQ;rw [hye,headD_get hp]
    rw [he];exact this
  obtain ⟨R,hR⟩:∃ R,maxQ false s.now c Q=R:=⟨_,rfl⟩;rw [hR] at HGr ⊢;have hcv:cnVal c vt vx vb vr=.agg #[.int .i64 c.kind,.int .i64 c.op,vt,.int .i64 c.k,.int .i64 c.v,.int .i64 c.x,.int .i64 (y:Int),vx,vb,vr]:=by unfold cnVal;rw [hye]
  rw [hcv];clear h hC hy hx hl hp hBs hb0 g0 hye hyn hR hcv HIx;have HKd:Hid (Below W.heap.size W W.drew):=(Below.refl _ _).drew;go_enter Tryz.func135,Tryz.ntmps135;go_wp2_with fail
  go_region_held3 (fun w'=>w'.cell? ⟨w.heap.size,6,none⟩=some (.int .i64 (y:Int))/\w'.cell? ⟨w.heap.size,7,none⟩=some vx)
    (first | exact HG.out _ HK5.out | exact HG.out _ (Kq.of_below HB4.out HBs.out) | exact HG.out _ (Kq.of_below HKd.out HBs.out))
    (first | (go_at_call 150;refine cA (HU.out _) ?_;rintro e w4 ⟨rfl,hb4⟩;(have HB4:Hid (Below W.heap.size W w4):=bl_next HKd.out hb4);clear hb4) | (go_at_call 159;refine cA (HGr.out _ HB4.out) ?_;rintro e w5 ⟨rfl,hq5,hk5⟩;(have HQ5:Hid (∀ Q',R=some Q'->LfQ B lp g p nv mv s Q' w5):=hq5);(have HK5:Hid (Kq B W w5):=(Kq.of_below HB4.out HBs.out).trans hk5);clear hq5 hk5))
  go_wp2_with fail
  go_ret;exact ⟨rfl,HQ5.out,HKW.out.trans HK5.out⟩
theorem min_any (B lp g p:Nat) (nv mv:Value) (s:St) (Q:List Sq) (w:World) (h:LfQ B lp g p nv mv s Q w) (c:Md.Cn) (vt vx vb vr:Value) (hC:CnK B w c vt vx vb vr) (hy:0<=c.y/\c.y<(s.now.length:Int)) (hx:∀ x∈c.xs,0<=x/\x<(s.now.length:Int)) (hl:c.xs.length<=64) (hp:0<c.xs.length):Calls Tryz.prog 136 #[.pointer (some ⟨lp,0,none⟩),cnVal c vt vx vb vr] w (RlOut B lp g p nv mv s (maxQ true s.now c Q) w):=by
  have hBs:=h.size;obtain ⟨y,hye,hyn⟩:∃ y:Nat,c.y=(y:Int)/\y<s.now.length:=⟨c.y.toNat,by omega,by omega⟩;obtain ⟨W,hW⟩:∃ W,w.alloc (.cells #[.int .i64 c.kind,.int .i64 c.op,vt,.int .i64 c.k,.int .i64 c.v,.int .i64 c.x,.int .i64 (y:Int),vx,vb,vr] 56)=W:=⟨_,rfl⟩;have hb0:Below w.heap.size w W:=bAe hW;have g0:W.heap[w.heap.size]?=some (.cells #[.int .i64 c.kind,.int .i64 c.op,vt,.int .i64 c.k,.int .i64 c.v,.int .i64 c.x,.int .i64 (y:Int),vx,vb,vr] 56 (0,0)):=hAe hW;have HBs:Hid (B<=W.heap.size):=Nat.le_trans hBs hb0.size;have HLW:Hid (LfQ B lp g p nv mv s Q W):=h.below hb0;have HKW:Hid (Kq B w W):=Kq.of_below hb0 hBs;have HG:Hid (∀ w',Kq B W w'->w'.cell? ⟨w.heap.size,6,none⟩=some (.int .i64 (y:Int))/\w'.cell? ⟨w.heap.size,7,none⟩=some vx):=fun w' hk=>MxC.of g0 hk
  have HIx:Hid (IntsK B W vx c.xs):=hC.xs.kq HKW.out;have HU:Hid (∀ w',Calls Tryz.prog 152 #[.pointer (some ⟨lp,0,none⟩)] w' fun e w2=>e=.returned (.agg #[.pointer (some ⟨lp,0,none⟩),.bool true])/\Below w'.heap.size w' w2):=fun w'=>turnedL_any lp w'
  have HGr:Hid (∀ w',Below W.heap.size W w'->Calls Tryz.prog 159 #[.agg #[.pointer (some ⟨lp,0,none⟩),.bool true],.int .i64 (y:Int),vx] w' (RlOut B lp g p nv mv s (maxQ true s.now c Q) w')):=fun w' hb=>by
    have:=great_any B lp g p nv mv s Q true w' (HLW.out.below hb) vx c.xs (HIx.out.kq (Kq.of_below hb HBs.out)) hx hl hp y hyn;have he:maxQ true s.now c Q=greatQ true s.now (y:Int) c.xs[0] c.xs Q:=by unfold maxQ;rw [hye,headD_get hp]
    rw [he];exact this
  obtain ⟨R,hR⟩:∃ R,maxQ true s.now c Q=R:=⟨_,rfl⟩;rw [hR] at HGr ⊢;have hcv:cnVal c vt vx vb vr=.agg #[.int .i64 c.kind,.int .i64 c.op,vt,.int .i64 c.k,.int .i64 c.v,.int .i64 c.x,.int .i64 (y:Int),vx,vb,vr]:=by unfold cnVal;rw [hye]
  rw [hcv];clear h hC hy hx hl hp hBs hb0 g0 hye hyn hR hcv HIx;have HKd:Hid (Below W.heap.size W W.drew):=(Below.refl _ _).drew;go_enter Tryz.func136,Tryz.ntmps136;go_wp2_with fail
  go_region_held3 (fun w'=>w'.cell? ⟨w.heap.size,6,none⟩=some (.int .i64 (y:Int))/\w'.cell? ⟨w.heap.size,7,none⟩=some vx)
    (first | exact HG.out _ HK5.out | exact HG.out _ (Kq.of_below HB4.out HBs.out) | exact HG.out _ (Kq.of_below HKd.out HBs.out))
    (first | (go_at_call 152;refine cA (HU.out _) ?_;rintro e w4 ⟨rfl,hb4⟩;(have HB4:Hid (Below W.heap.size W w4):=bl_next HKd.out hb4);clear hb4) | (go_at_call 159;refine cA (HGr.out _ HB4.out) ?_;rintro e w5 ⟨rfl,hq5,hk5⟩;(have HQ5:Hid (∀ Q',R=some Q'->LfQ B lp g p nv mv s Q' w5):=hq5);(have HK5:Hid (Kq B W w5):=(Kq.of_below HB4.out HBs.out).trans hk5);clear hq5 hk5))
  go_wp2_with fail
  go_ret;exact ⟨rfl,HQ5.out,HKW.out.trans HK5.out⟩
def c0 (c:Md.Cn):Md.Cn:=if c.kind=1 then { c with k:=0 } else c
def nm32:ByteArray:={ data:=#[65,66,67,68,69,70,71,72,73,74,75,76,77,78,79,80,81,82,83,84,85,86,87,88,89,90,97,98,99,100,101,102] }
def nmV (j:Nat):Md.Vr:=⟨nm32.extract j (j+1),0,0⟩
def stM (c:Md.Cn) (n:Nat):Md.Mo:=⟨(List.range n).map nmV,[c0 c],false,[]⟩
theorem c0_at {w:World} {c:Md.Cn} {vt vx vb vr:Value} (h:CnAt w c vt vx vb vr):CnAt w (c0 c) vt vx vb vr:=by
  unfold c0
  split
  · exact ⟨h.t,h.x,h.xcap,h.b,h.r⟩
  · exact h
theorem c0_k (c:Md.Cn):(c0 c).kind=c.kind/\(c0 c).op=c.op/\(c0 c).v=c.v/\(c0 c).x=c.x/\(c0 c).y=c.y/\(c0 c).k=if c.kind=1 then 0 else c.k:=by
  unfold c0
  split <;> exact ⟨rfl,rfl,rfl,rfl,rfl,rfl⟩
theorem und22y:Tryz.prog.underlying 22=some (.slice 51):=by kernel_rfl
theorem info60:(Tryz.prog.info? 51).map (fun i=>(i.zero,i.size,i.bytes))=some (some (.agg #[.string ByteArray.empty,.int .i64 0,.int .i64 0]),3,32):=by kernel_rfl
def vZ:Nat->Array Value
  | 0=>#[]
  | n+1=>madeCells #[.string ByteArray.empty,.int .i64 0,.int .i64 0] ((n+1)*3)
theorem vZ_eq (n:Nat):vZ n=madeCells #[.string ByteArray.empty,.int .i64 0,.int .i64 0] (n*3):=by cases n;simp [vZ,madeCells];rfl
theorem makeW (n:Nat) (hn:n<=1000) (w:World):(Instr.makeSlice 22 (.int .i64 (n:Int)) (.int .i64 (n:Int))).run Tryz.prog w=.ok (.slice (some ⟨w.heap.size,0,none⟩) n n) (w.alloc (.cells (vZ n) 51)):=by
  obtain ⟨i,hi,hz,hs,hbb⟩:=info_of info60;have hr:=run_make (P:=Tryz.prog) w 22 51 i _ und22y hi hz .i64 .i64 (n:Int) (n:Int) (by omega) (by omega) (by rw [hbb];omega) (by omega);rw [hs,Int.toNat_natCast] at hr;rw [vZ_eq];exact hr
def StR (w:World) (n:Nat) (cs:Array Value) (s5:Value) (wy:World):Prop:=∃ V C M,s5=.pointer (some ⟨M,0,none⟩)/\Hid (wy.heap[V]?=some (.cells (vZ n) 51 (0,0)))/\Hid (wy.heap[C]?=some (.cells cs 56 (0,0)))/\Hid (wy.heap[M]?=some (.cells #[.slice (some ⟨V,0,none⟩) n n,.slice (some ⟨C,0,none⟩) 1 1,.bool false,.slice none 0 0] 26 (0,0)))/\Hid (w.heap.size<=V/\w.heap.size<=M)/\Hid (Below w.heap.size w wy)
theorem al3 {w wx:World} {a b d:Obj} (h:Below w.heap.size w wx):(((wx.alloc a).alloc b).alloc d).drew.heap[wx.heap.size]?=some a/\(((wx.alloc a).alloc b).alloc d).drew.heap[wx.heap.size+1]?=some b/\(((wx.alloc a).alloc b).alloc d).drew.heap[wx.heap.size+1+1]?=some d/\Below w.heap.size w (((wx.alloc a).alloc b).alloc d).drew:=by
  have h1:=h.size;refine ⟨?_,?_,?_,?_⟩
  · show (((wx.alloc a).alloc b).alloc d).heap[wx.heap.size]?=some a
    rw [heap_alloc_old ((wx.alloc a).alloc b) d (by simp;omega)];exact heap_alloc2_old wx a b
  · show (((wx.alloc a).alloc b).alloc d).heap[wx.heap.size+1]?=some b
    rw [heap_alloc_old ((wx.alloc a).alloc b) d (by simp)];exact heap_alloc2_new wx a b
  · show (((wx.alloc a).alloc b).alloc d).heap[wx.heap.size+1+1]?=some d
    have:=heap_alloc_new ((wx.alloc a).alloc b) d;simpa using this
  · exact (((h.alloc h1 a).alloc (by simp;omega) b).alloc (by simp;omega) d).drew
def NmAt (wr:World) (V n k:Nat):Prop:=∃ cur,wr.heap[V]?=some (.cells cur 51 (0,0))/\∀ j,j<n->cur[j*3]?=some (.string (if j<k then (nmV j).name else ByteArray.empty))/\cur[j*3+1]?=some (.int .i64 0)/\cur[j*3+2]?=some (.int .i64 0)
theorem vZ_get {n j r:Nat} (hj:j<n) (hr:r<3):(vZ n)[j*3+r]?=some ((#[.string ByteArray.empty,.int .i64 0,.int .i64 0]:Array Value)[r]!):=by
  rw [vZ_eq];unfold madeCells;rw [Array.getElem?_map,Array.getElem?_range,if_pos (by omega)];show some ((#[.string ByteArray.empty,.int .i64 0,.int .i64 0]:Array Value)[(j*3+r) % 3]!)=_;rw [show (j*3+r) % 3=r by omega]
theorem NmAt.zero {wr:World} {V n:Nat} (h:wr.heap[V]?=some (.cells (vZ n) 51 (0,0))):NmAt wr V n 0:=
  ⟨_,h,fun j hj=>⟨by rw [if_neg (Nat.not_lt_zero _)];exact vZ_get (r:=0) hj (by omega),vZ_get (r:=1) hj (by omega),vZ_get (r:=2) hj (by omega)⟩⟩
theorem NmAt.next {wr:World} {V n k:Nat} (h:NmAt wr V n k) (hk:k<n):NmAt (wr.setCell ⟨V,k*3,none⟩ (.string (nmV k).name)) V n (k+1):=by
  obtain ⟨cur,h1,h2⟩:=h;refine ⟨_,heap_setCell_same _ _ _ _ _ _ h1,fun j hj=>?_⟩;obtain ⟨e0,e1,e2⟩:=h2 j hj;have hsz:k*3<cur.size:=(Array.getElem?_eq_some_iff.1 (h2 k hk).1).1;refine ⟨?_,?_,?_⟩
  · rw [Array.getElem?_setIfInBounds]
    by_cases hjk:k*3=j*3
    · have:k=j:=by omega
      subst this;rw [if_pos rfl,if_pos hsz,if_pos (by omega)]
    · rw [if_neg hjk,e0]
      by_cases hl:j<k
      · rw [if_pos hl,if_pos (by omega)]
      · rw [if_neg hl,if_neg (by omega)]
  · rw [Array.getElem?_setIfInBounds,if_neg (by omega)]
    exact e1
  · rw [Array.getElem?_setIfInBounds,if_neg (by omega)]
    exact e2
theorem NmAt.cell {wr:World} {V n k j:Nat} (h:NmAt wr V n k) (hj:j<n):wr.cell? ⟨V,j*3,none⟩=some (.string (if j<k then (nmV j).name else ByteArray.empty))/\wr.frozen? ⟨V,j*3,none⟩=false:=by
  obtain ⟨cur,h1,h2⟩:=h;exact ⟨(cell_of h1 _).trans (h2 j hj).1,frozen_of h1 _⟩
theorem NmAt.vars {wr:World} {V n:Nat} (h:NmAt wr V n n) (hn:n<=32):VarsAt wr (.slice (some ⟨V,0,none⟩) n n) ((List.range n).map nmV):=by
  obtain ⟨cur,h1,h2⟩:=h;refine ⟨_,n,by rw [List.length_map,List.length_range],by rw [List.length_map,List.length_range];unfold maxLen;omega,fun x hx=>?_,fun _=>⟨V,0,rfl,(hLt h1),fun j hj=>?_⟩⟩
  · obtain ⟨j,_,rfl⟩:=List.mem_map.1 hx
    show (nm32.extract j (j+1)).size<=maxLen;rw [ByteArray.size_extract];unfold maxLen;omega
  · rw [List.length_map,List.length_range] at hj
    obtain ⟨e0,e1,e2⟩:=h2 j hj;rw [List.getElem_map,List.getElem_range,Nat.zero_add,cell_of h1,cell_of h1,cell_of h1];rw [if_pos hj] at e0;exact ⟨e0,e1,e2⟩
theorem cons_one {wr:World} {C:Nat} {c:Md.Cn} {vt vx vb vr:Value} {k0:Int} (hC:CnAt wr c vt vx vb vr) (hk:k0=(if c.kind=1 then 0 else c.k)) (h:wr.heap[C]?=some (.cells #[.int .i64 c.kind,.int .i64 c.op,vt,.int .i64 k0,.int .i64 c.v,.int .i64 c.x,.int .i64 c.y,vx,vb,vr] 56 (0,0))):ConsAt wr (.slice (some ⟨C,0,none⟩) 1 1) [c0 c]:=by
  refine ⟨_,1,rfl,by unfold maxLen;simp,fun _=>⟨C,0,rfl,(hLt h),fun j hj=>?_⟩⟩;have hj0:j=0:=by simp at hj;omega
  subst hj0;refine ⟨vt,vx,vb,vr,c0_at hC,?_⟩;obtain ⟨e1,e2,e3,e4,e5,e6⟩:=c0_k c;show CnCells wr C (0+0*10) (c0 c) vt vx vb vr;unfold CnCells;rw [e1,e2,e3,e4,e5,e6,<-hk];exact ⟨cell_of h 0,cell_of h 1,cell_of h 2,cell_of h 3,cell_of h 4,cell_of h 5,cell_of h 6,cell_of h 7,cell_of h 8,cell_of h 9⟩
theorem mayStand_any (c:Md.Cn) (vt vx vb vr:Value) (n:Nat) (w:World) (hC:CnAt w c vt vx vb vr) (hn:n<=32):Calls Tryz.prog 114 #[cnVal c vt vx vb vr,.int .i64 (n:Int)] w fun e w'=>e=.returned (.bool (decide ((Md.check (stM c n)).2=0)))/\Below w.heap.size w w':=by
  obtain ⟨W,hW⟩:∃ W,w.alloc (.cells #[.int .i64 c.kind,.int .i64 c.op,vt,.int .i64 c.k,.int .i64 c.v,.int .i64 c.x,.int .i64 c.y,vx,vb,vr] 56)=W:=⟨_,rfl⟩;have hb0:Below w.heap.size w W:=bAe hW;have g0:W.heap[w.heap.size]?=some (.cells #[.int .i64 c.kind,.int .i64 c.op,vt,.int .i64 c.k,.int .i64 c.v,.int .i64 c.x,.int .i64 c.y,vx,vb,vr] 56 (0,0)):=hAe hW;have HG0:Hid (W.heap[w.heap.size]?=some (.cells #[.int .i64 c.kind,.int .i64 c.op,vt,.int .i64 c.k,.int .i64 c.v,.int .i64 c.x,.int .i64 c.y,vx,vb,vr] 56 (0,0))):=g0;have HB0:Hid (Below w.heap.size w W):=hb0;have HC:Hid (CnAt w c vt vx vb vr):=hC;have d0:W.cell? ⟨w.heap.size,0,none⟩=some (.int .i64 c.kind):=cell_of g0 0;have d3:W.cell? ⟨w.heap.size,3,none⟩=some (.int .i64 c.k):=cell_of g0 3
  have dz:W.frozen? ⟨w.heap.size,3,none⟩=false:=frozen_of g0 3;have hcv:cnVal c vt vx vb vr=.agg #[.int .i64 c.kind,.int .i64 c.op,vt,.int .i64 c.k,.int .i64 c.v,.int .i64 c.x,.int .i64 c.y,vx,vb,vr]:=rfl;rw [hcv];obtain ⟨k0,hk0⟩:∃ k0,k0=(if c.kind=1 then 0 else c.k):=⟨_,rfl⟩;have HK0:Hid (k0=(if c.kind=1 then 0 else c.k)):=hk0;clear hcv hC hb0 g0 hk0;go_enter Tryz.func114,Tryz.ntmps114;go_upto_if 11 with fail
  go_cut [] from 11 to 40 (fun wx=>Hid (wx.heap[w.heap.size]?=some (.cells #[.int .i64 c.kind,.int .i64 c.op,vt,.int .i64 k0,.int .i64 c.v,.int .i64 c.x,.int .i64 c.y,vx,vb,vr] 56 (0,0)))/\Hid (Below w.heap.size w wx))
  case first=>
    by_cases hk:c.kind=1
    · have e1:(c.kind==1)=true:=by simpa using hk
      go_wp2_with fail
      go_meet;refine ⟨?_,HB0.out.setCell (Nat.le_refl _) _⟩;show _=_;rw [heap_setCell_same _ _ _ _ _ _ HG0.out,HK0.out,if_pos hk];rfl
    · have e1:(c.kind==1)=false:=by simpa using hk
      go_wp2_with fail
      go_meet;refine ⟨?_,HB0⟩;show _=_;rw [HK0.out,if_neg hk];exact HG0.out
  case rest=>
  obtain ⟨HX,HBx⟩:=hcut;rename World=>wx;go_upto_region 3 with fail
  have hmk:=makeW n (by omega);go_cut [5] from 13 to 40 (fun s5 wy=>StR w n #[.int .i64 c.kind,.int .i64 c.op,vt,.int .i64 k0,.int .i64 c.v,.int .i64 c.x,.int .i64 c.y,vx,vb,vr] s5 wy)
  case first=>
    have hz:=(hLt HX.out);have x0:wx.cell? ⟨w.heap.size,0,none⟩=some (.int .i64 c.kind):=cell_of HX.out 0;have x1:wx.cell? ⟨w.heap.size,1,none⟩=some (.int .i64 c.op):=cell_of HX.out 1;have x2:wx.cell? ⟨w.heap.size,2,none⟩=some vt:=cell_of HX.out 2;have x3:wx.cell? ⟨w.heap.size,3,none⟩=some (.int .i64 k0):=cell_of HX.out 3;have x4:wx.cell? ⟨w.heap.size,4,none⟩=some (.int .i64 c.v):=cell_of HX.out 4;have x5:wx.cell? ⟨w.heap.size,5,none⟩=some (.int .i64 c.x):=cell_of HX.out 5;have x6:wx.cell? ⟨w.heap.size,6,none⟩=some (.int .i64 c.y):=cell_of HX.out 6;have x7:wx.cell? ⟨w.heap.size,7,none⟩=some vx:=cell_of HX.out 7;have x8:wx.cell? ⟨w.heap.size,8,none⟩=some vb:=cell_of HX.out 8;have x9:wx.cell? ⟨w.heap.size,9,none⟩=some vr:=cell_of HX.out 9;clear d0 d3 dz hW HG0 HB0 HC HX;have hbx:=HBx.out
    have hsx:=hbx.size;go_region;all_goals (go_wp2_with fail;go_meet;unfold StR);all_goals first
      | exact ⟨_,_,_,rfl,(al3 hbx).1,(al3 hbx).2.1,(al3 hbx).2.2.1,⟨by omega,by omega⟩,(al3 hbx).2.2.2⟩
      | exact ⟨_,_,_,rfl,(al3 hbx).1,(al3 hbx).2.2.1,(al3 hbx).2.1,⟨by omega,by omega⟩,(al3 hbx).2.2.2⟩
      | exact ⟨_,_,_,rfl,(al3 hbx).2.1,(al3 hbx).1,(al3 hbx).2.2.1,⟨by omega,by omega⟩,(al3 hbx).2.2.2⟩
      | exact ⟨_,_,_,rfl,(al3 hbx).2.1,(al3 hbx).2.2.1,(al3 hbx).1,⟨by omega,by omega⟩,(al3 hbx).2.2.2⟩
      | exact ⟨_,_,_,rfl,(al3 hbx).2.2.1,(al3 hbx).1,(al3 hbx).2.1,⟨by omega,by omega⟩,(al3 hbx).2.2.2⟩
      | exact ⟨_,_,_,rfl,(al3 hbx).2.2.1,(al3 hbx).2.1,(al3 hbx).1,⟨by omega,by omega⟩,(al3 hbx).2.2.2⟩
  case rest=>
  obtain ⟨V,C,M,rfl,HV,HCc,HM,HLe,HBy⟩:=hcut;rename World=>wy;have m0:wy.cell? ⟨M,0,none⟩=some (.slice (some ⟨V,0,none⟩) n n):=cell_of HM.out 0;clear hmk d0 d3 dz hW HG0 HB0 HX HBx;have hVC:V≠C:=fun e=>by
    have h1:=HV.out;rw [e,HCc.out] at h1;injection h1 with h1;injection h1 with _ h2 _;exact absurd h2 (by decide)
  have hVM:V≠M:=fun e=>by
    have h1:=HV.out;rw [e,HM.out] at h1;injection h1 with h1;injection h1 with _ h2 _;exact absurd h2 (by decide)
  go_wp2_with fail
  clear m0;go_loopw [21] (fun iv wr=>∃ (k:Nat),iv=.int .i64 (k:Int)/\k<=n/\Hid (NmAt wr V n k)/\Hid (wr.heap[C]?=some (.cells #[.int .i64 c.kind,.int .i64 c.op,vt,.int .i64 k0,.int .i64 c.v,.int .i64 c.x,.int .i64 c.y,vx,vb,vr] 56 (0,0)))/\Hid (wr.heap[M]?=some (.cells #[.slice (some ⟨V,0,none⟩) n n,.slice (some ⟨C,0,none⟩) 1 1,.bool false,.slice none 0 0] 26 (0,0)))/\Hid (Below w.heap.size w wr)) (fun iv _=>n-(intOf iv).toNat)
  case atStart=>exact ⟨0,rfl,Nat.zero_le _,NmAt.zero HV.out,HCc,HM,HBy⟩
  case round=>
  obtain ⟨k,rfl,hk,HNm,HCr,HMr,HBr⟩:=hrel;clear HV HCc HM HBy
  by_cases hkn:k<n
  · have hkI:(k:Int)<(n:Int):=by omega
    have m0:wr.cell? ⟨M,0,none⟩=some (.slice (some ⟨V,0,none⟩) n n):=cell_of HMr.out 0;obtain ⟨v0,dz⟩:=HNm.out.cell hkn;have hsl:∀ w',(Instr.slice 9 (.string { data:=#[65,66,67,68,69,70,71,72,73,74,75,76,77,78,79,80,81,82,83,84,85,86,87,88,89,90,97,98,99,100,101,102] }) (some (.int .i64 (k:Int))) (some (.int .i64 ((k:Int)+1))) none).run Tryz.prog w'=.ok (.string (nmV k).name) w':=fun w'=>by
      rw [run_slice_string_if _ _ _ _ _ _ _ (by kernel_rfl),if_pos (by constructor;omega;show (k:Int)+1<=32;omega),if_pos (by omega)];rfl
    have hw1:IntKind.i64.wrap ((k:Int)+1)=(k:Int)+1:=wrap_ok (by omega) (by omega);go_wp2_with fail
    go_region;all_goals go_wp2_with fail
    exact ⟨⟨k+1,by go_num,hkn,(show NmAt _ _ _ _ from HNm.out.next hkn),(show _=_ from (heap_setCell_other _ _ _ _ hVC.symm).trans HCr.out),(show _=_ from (heap_setCell_other _ _ _ _ hVM.symm).trans HMr.out),(HBr.out.setCell HLe.out.1 _).drew⟩,by simp [intOf];omega⟩
  · have hke:k=n:=by omega
    subst hke;have hkI:¬ (k:Int)<(k:Int):=by omega
    have m0:=box4 HMr.out;have HMo:Hid (MoAt wr (stM c k) (.slice (some ⟨V,0,none⟩) k k) (.slice (some ⟨C,0,none⟩) 1 1) (.slice none 0 0)):=
      { v:=HNm.out.vars hn
        vcap:=fun a n cp h=>by injection h with _ h1 h2;omega
        c:=cons_one (HC.out.below HBr.out) HK0.out HCr.out
        g:=⟨none,0,rfl,Nat.zero_le _,fun h=>absurd h (Nat.not_lt_zero _)⟩ }
    have HCk:Hid (Calls Tryz.prog 5 #[.agg #[.slice (some ⟨V,0,none⟩) k k,.slice (some ⟨C,0,none⟩) 1 1,.bool false,.slice none 0 0]] wr fun e w'=>e=.returned (.tuple #[.int .i64 (Md.check (stM c k)).1,.int .i64 (Md.check (stM c k)).2])/\Below wr.heap.size wr w'):=check_any (stM c k) _ _ _ wr HMo.out;obtain ⟨⟨m0,m1,m2,m3⟩,_⟩:=m0;clear HMo HNm HCr HMr;obtain ⟨r1,hr1⟩:∃ r,(Md.check (stM c k)).1=r:=⟨_,rfl⟩;obtain ⟨r2,hr2⟩:∃ r,(Md.check (stM c k)).2=r:=⟨_,rfl⟩;rw [hr1,hr2] at HCk;have HR2:Hid ((Md.check (stM c k)).2=r2):=hr2;clear hr1 hr2;go_wp2_with (first | (go_at_call 5;refine cA HCk.out ?_;rintro e w5 ⟨rfl,hb5⟩));go_ret
    exact ⟨ret_bool (by rw [HR2.out];by_cases h:r2=0 <;> simp [h]),HBr.out.trans (hb5.mono HBr.out.size)⟩
theorem someQ_ts {Q:List Sq} {n:Nat} (h:∀ q∈Q,q.ts.length<=n) (x:Nat) (t:Int->Bool):∀ q∈someQ Q x t,q.ts.length<=n+1:=fun q hq=>by
  unfold someQ at hq
  split at hq
  · rename_i s hs
    rcases List.mem_or_eq_of_mem_set hq with hq | rfl
    · exact Nat.le_succ_of_le (h q hq)
    · have:=h s (List.mem_of_getElem? hs)
      simp;omega
  · exact Nat.le_succ_of_le (h q hq)
theorem allDiff_any (lp:Nat) (c:Md.Cn) (vt vx vb vr:Value) (w:World):Calls Tryz.prog 133 #[.pointer (some ⟨lp,0,none⟩),cnVal c vt vx vb vr] w fun e w'=>e=.returned (.bool true)/\Below w.heap.size w w':=by
  unfold cnVal;go_enter Tryz.func133,Tryz.ntmps133;go_wp2_with fail
  go_ret;exact ⟨rfl,(Below.refl _ _).alloc (Nat.le_refl _) _⟩
theorem ne1_any (k5 N:Nat) (y kk v:Int) (a0 a1 a2 a4 a5 a6 a7 a8 a9:Value) (w:World) (h5:w.heap[k5]?=some (.cells #[.int .i64 y] 3 (0,0))) (hN:w.heap[N]?=some (.cells #[a0,a1,a2,.int .i64 kk,a4,a5,a6,a7,a8,a9] 56 (0,0))) (hy:-4000000000<=y/\y<=4000000000) (hk:-4000000000<=kk/\kk<=4000000000):Calls Tryz.prog 155 #[.int .i64 v,.pointer (some ⟨k5,0,none⟩),.pointer (some ⟨N,0,none⟩)] w fun e w'=>e=.returned (.bool (v != y+kk))/\Below w.heap.size w w':=by
  have c0:w.cell? ⟨k5,0,none⟩=some (.int .i64 y):=cell_of h5 0;have c3:w.cell? ⟨N,3,none⟩=some (.int .i64 kk):=cell_of hN 3;have e:wrap64 (y+kk)=y+kk:=wrap_64 (by omega) (by omega);clear h5 hN;go_enter Tryz.func155,Tryz.ntmps155;go_wp2_with fail
  go_ret;exact ⟨rfl,Below.refl _ _⟩
theorem ne2_any (k5 N:Nat) (y kk v:Int) (a0 a1 a2 a4 a5 a6 a7 a8 a9:Value) (w:World) (h5:w.heap[k5]?=some (.cells #[.int .i64 y] 3 (0,0))) (hN:w.heap[N]?=some (.cells #[a0,a1,a2,.int .i64 kk,a4,a5,a6,a7,a8,a9] 56 (0,0))) (hy:-4000000000<=y/\y<=4000000000) (hk:-4000000000<=kk/\kk<=4000000000):Calls Tryz.prog 156 #[.int .i64 v,.pointer (some ⟨k5,0,none⟩),.pointer (some ⟨N,0,none⟩)] w fun e w'=>e=.returned (.bool (v != y-kk))/\Below w.heap.size w w':=by
  have c0:w.cell? ⟨k5,0,none⟩=some (.int .i64 y):=cell_of h5 0;have c3:w.cell? ⟨N,3,none⟩=some (.int .i64 kk):=cell_of hN 3;have e:wrap64 (y-kk)=y-kk:=wrap_64 (by omega) (by omega);clear h5 hN;go_enter Tryz.func156,Tryz.ntmps156;go_wp2_with fail
  go_ret;exact ⟨rfl,Below.refl _ _⟩
theorem enters84:Enters Tryz.prog 155:=enters_of Tryz.func155 (by kernel_rfl) rfl
theorem enters85:Enters Tryz.prog 156:=enters_of Tryz.func156 (by kernel_rfl) rfl
def neQ (D:List Dm) (c:Md.Cn) (Q:List Sq):Option (List Sq):=
  if c.x=c.y then (if c.k=0 then none else some Q)
  else some (if (dAt D c.x).one then someQ (if (dAt D c.y).one then someQ Q c.x.toNat (fun v=>v != (dAt D c.y).lo+c.k) else Q) c.y.toNat (fun v=>v != (dAt D c.x).lo-c.k) else (if (dAt D c.y).one then someQ Q c.x.toNat (fun v=>v != (dAt D c.y).lo+c.k) else Q))
theorem neRule_any (B lp g p:Nat) (nv mv:Value) (s:St) (Q:List Sq) (w:World) (h:LfQ B lp g p nv mv s Q w) (hts:∀ q∈Q,q.ts.length<=1000) (c:Md.Cn) (vt vx vb vr:Value) (hx:0<=c.x/\c.x<(s.now.length:Int)) (hy:0<=c.y/\c.y<(s.now.length:Int)) (hk:-1000000000<=c.k/\c.k<=1000000000):Calls Tryz.prog 132 #[.pointer (some ⟨lp,0,none⟩),cnVal c vt vx vb vr] w (RlOut B lp g p nv mv s (neQ s.now c Q) w):=by
  have hBs:=h.size;obtain ⟨x,hxe,hxn⟩:∃ x:Nat,c.x=(x:Int)/\x<s.now.length:=⟨c.x.toNat,by omega,by omega⟩;obtain ⟨y,hye,hyn⟩:∃ y:Nat,c.y=(y:Int)/\y<s.now.length:=⟨c.y.toNat,by omega,by omega⟩;have hgx:=h.good s.now[x] (List.getElem_mem hxn);have hgy:=h.good s.now[y] (List.getElem_mem hyn);have hlx:=Dm.lo_in hgx;have hly:=Dm.lo_in hgy;have HQ:Hid (neQ s.now c Q=if (x:Int)=(y:Int) then (if c.k=0 then none else some Q) else some (if s.now[x].one then someQ (if s.now[y].one then someQ Q x (fun v=>v != s.now[y].lo+c.k) else Q) y (fun v=>v != s.now[x].lo-c.k) else (if s.now[y].one then someQ Q x (fun v=>v != s.now[y].lo+c.k) else Q))):=by
    show _=_;unfold neQ;rw [hxe,hye,dAt_get hxn,dAt_get hyn,Int.toNat_natCast,Int.toNat_natCast]
  obtain ⟨W,hW⟩:∃ W,w.alloc (.cells #[.int .i64 c.kind,.int .i64 c.op,vt,.int .i64 c.k,.int .i64 c.v,.int .i64 (x:Int),.int .i64 (y:Int),vx,vb,vr] 56)=W:=⟨_,rfl⟩;have hb0:Below w.heap.size w W:=bAe hW;have g0:W.heap[w.heap.size]?=some (.cells #[.int .i64 c.kind,.int .i64 c.op,vt,.int .i64 c.k,.int .i64 c.v,.int .i64 (x:Int),.int .i64 (y:Int),vx,vb,vr] 56 (0,0)):=hAe hW;have HG:Hid (∀ w',Kq B W w'->w'.heap[w.heap.size]?=some (.cells #[.int .i64 c.kind,.int .i64 c.op,vt,.int .i64 c.k,.int .i64 c.v,.int .i64 (x:Int),.int .i64 (y:Int),vx,vb,vr] 56 (0,0))):=fun w' hk=>hk.block g0 (by decide) (by decide)
  have HLW:Hid (LfQ B lp g p nv mv s Q W):=h.below hb0;have HKW:Hid (Kq B w W):=Kq.of_below hb0 hBs;have HOx:Hid (∀ w' Q',LfQ B lp g p nv mv s Q' w'->Calls Tryz.prog 153 #[.pointer (some ⟨lp,0,none⟩),.int .i64 (x:Int)] w' fun e w2=>e=.returned (.tuple #[.int .i64 (oneV s.now[x]),.bool s.now[x].one])/\Below w'.heap.size w' w2):=fun w' Q' hL=>hL.one x hxn
  have HOy:Hid (∀ w' Q',LfQ B lp g p nv mv s Q' w'->Calls Tryz.prog 153 #[.pointer (some ⟨lp,0,none⟩),.int .i64 (y:Int)] w' fun e w2=>e=.returned (.tuple #[.int .i64 (oneV s.now[y]),.bool s.now[y].one])/\Below w'.heap.size w' w2):=fun w' Q' hL=>hL.one y hyn
  have HSx:Hid (∀ w' Q' fn caps t,LfQ B lp g p nv mv s Q' w'->TestIs B w' (.func (.func fn) #[] caps) t->(∀ q∈Q',q.ts.length<=100000)->Calls Tryz.prog 154 #[.pointer (some ⟨lp,0,none⟩),.int .i64 (x:Int),.func (.func fn) #[] caps] w' (KqOut B lp g p nv mv s (someQ Q' x t) w')):=fun w' Q' fn caps t hL hT hl=>hL.some x hxn fn caps t hT hl
  have HSy:Hid (∀ w' Q' fn caps t,LfQ B lp g p nv mv s Q' w'->TestIs B w' (.func (.func fn) #[] caps) t->(∀ q∈Q',q.ts.length<=100000)->Calls Tryz.prog 154 #[.pointer (some ⟨lp,0,none⟩),.int .i64 (y:Int),.func (.func fn) #[] caps] w' (KqOut B lp g p nv mv s (someQ Q' y t) w')):=fun w' Q' fn caps t hL hT hl=>hL.some y hyn fn caps t hT hl
  have HT1:Hid (∀ w' (k5:Nat) (v:Int),Kq B W w'->w'.heap[k5]?=some (.cells #[.int .i64 v] 3 (0,0))->-4000000000<=v/\v<=4000000000->TestIs B w' (.func (.func 155) #[] #[.pointer (some ⟨k5,0,none⟩),.pointer (some ⟨w.heap.size,0,none⟩)]) (fun u=>u != v+c.k)):=fun w' k5 v hK h5 hv=>⟨155,_,rfl,enters84,fun w2 hk2 u _ _=>ne1_any k5 w.heap.size v c.k u _ _ _ _ _ _ _ _ _ w2 (hk2.block h5 (by decide) (by decide)) (HG.out w2 (hK.trans hk2)) hv (by omega)⟩
  have HT2:Hid (∀ w' (k5:Nat) (v:Int),Kq B W w'->w'.heap[k5]?=some (.cells #[.int .i64 v] 3 (0,0))->-4000000000<=v/\v<=4000000000->TestIs B w' (.func (.func 156) #[] #[.pointer (some ⟨k5,0,none⟩),.pointer (some ⟨w.heap.size,0,none⟩)]) (fun u=>u != v-c.k)):=fun w' k5 v hK h5 hv=>⟨156,_,rfl,enters85,fun w2 hk2 u _ _=>ne2_any k5 w.heap.size v c.k u _ _ _ _ _ _ _ _ _ w2 (hk2.block h5 (by decide) (by decide)) (HG.out w2 (hK.trans hk2)) hv (by omega)⟩
  have HVx:Hid (oneV s.now[x]=if s.now[x].one then s.now[x].lo else 0):=rfl;have HVy:Hid (oneV s.now[y]=if s.now[y].one then s.now[y].lo else 0):=rfl;have HTs:Hid (∀ q∈Q,q.ts.length<=1000):=hts;obtain ⟨dx,hdx⟩:∃ d,s.now[x]=d:=⟨_,rfl⟩;obtain ⟨dy,hdy⟩:∃ d,s.now[y]=d:=⟨_,rfl⟩;rw [hdx] at HQ HOx HVx hlx;rw [hdy] at HQ HOy HVy hly;obtain ⟨R,hR⟩:∃ R,neQ s.now c Q=R:=⟨_,rfl⟩;rw [hR] at HQ ⊢;obtain ⟨ox,hox⟩:∃ d,dx.one=d:=⟨_,rfl⟩;obtain ⟨oy,hoy⟩:∃ d,dy.one=d:=⟨_,rfl⟩;rw [hox] at HOx HVx HQ;rw [hoy] at HOy HVy HQ;obtain ⟨zx,hzx⟩:∃ d,oneV dx=d:=⟨_,rfl⟩;obtain ⟨zy,hzy⟩:∃ d,oneV dy=d:=⟨_,rfl⟩;rw [hzx] at HOx HVx;rw [hzy] at HOy HVy;obtain ⟨lx,hlxe⟩:∃ d,dx.lo=d:=⟨_,rfl⟩;obtain ⟨ly,hlye⟩:∃ d,dy.lo=d:=⟨_,rfl⟩;rw [hlxe] at HVx HQ hlx;rw [hlye] at HVy HQ hly
  have c3:W.cell? ⟨w.heap.size,3,none⟩=some (.int .i64 c.k):=cell_of g0 3;have c5:W.cell? ⟨w.heap.size,5,none⟩=some (.int .i64 (x:Int)):=cell_of g0 5;have c6:W.cell? ⟨w.heap.size,6,none⟩=some (.int .i64 (y:Int)):=cell_of g0 6;have HBs:Hid (B<=W.heap.size):=Nat.le_trans hBs hb0.size;have hcv:cnVal c vt vx vb vr=.agg #[.int .i64 c.kind,.int .i64 c.op,vt,.int .i64 c.k,.int .i64 c.v,.int .i64 (x:Int),.int .i64 (y:Int),vx,vb,vr]:=by unfold cnVal;rw [hxe,hye]
  rw [hcv];clear h hts hx hy hBs hb0 g0 hxe hye hgx hgy hR hdx hdy hox hoy hzx hzy hlxe hlye hxn hyn hcv
  by_cases hxy:(x:Int)=(y:Int)
  · have exy:((x:Int)==(y:Int))=true:=by simpa using hxy
    by_cases hk0:c.k=0
    · have ek:(c.k != 0)=false:=by simp [hk0]
      have HRn:Hid (R=none):=by show _=_;rw [HQ.out,if_pos hxy,if_pos hk0]
      clear hxy hk0;go_enter Tryz.func132,Tryz.ntmps132;go_wp2_with fail
      go_ret;exact ⟨by rw [HRn.out];rfl,(fun Q' h=>by rw [HRn.out] at h;cases h),HKW.out⟩
    · have ek:(c.k != 0)=true:=by simpa using hk0
      have HRn:Hid (R=some Q):=by show _=_;rw [HQ.out,if_pos hxy,if_neg hk0]
      clear hxy hk0;go_enter Tryz.func132,Tryz.ntmps132;go_wp2_with fail
      go_ret;exact ⟨by rw [HRn.out];rfl,(fun Q' h=>by rw [HRn.out] at h;injection h with h;rw [<-h];exact HLW.out),HKW.out⟩
  have exy:((x:Int)==(y:Int))=false:=by simpa using hxy
  obtain ⟨Q1,hQ1⟩:∃ Q1,(if oy then someQ Q x (fun v=>v != ly+c.k) else Q)=Q1:=⟨_,rfl⟩;have HR1:Hid (R=some (if ox then someQ Q1 y (fun v=>v != lx-c.k) else Q1)):=by show _=_;rw [HQ.out,if_neg hxy,hQ1]
  have HT1b:Hid (∀ q∈Q1,q.ts.length<=1001):=by
    show ∀ q∈Q1,_;rw [<-hQ1]
    split
    · exact someQ_ts HTs.out x _
    · exact fun q hq=>Nat.le_succ_of_le (HTs.out q hq)
  have HQ1:Hid ((if oy then someQ Q x (fun v=>v != ly+c.k) else Q)=Q1):=hQ1;clear hxy HQ hQ1;go_enter Tryz.func132,Tryz.ntmps132;go_wp2_with fail
  refine cA (HOy.out W Q HLW.out) ?_;rintro e w1 ⟨rfl,hb1⟩;obtain ⟨X,hX⟩:∃ X,w1.alloc (.cells #[.int .i64 zy] 3)=X:=⟨_,rfl⟩;have hbX:Below W.heap.size W X:=by rw [<-hX];exact bl_alloc hb1 _
  have HLX:Hid (LfQ B lp g p nv mv s Q X):=HLW.out.below hbX;have HKX:Hid (Kq B W X):=Kq.of_below hbX HBs.out;have HGX:Hid (X.heap[w1.heap.size]?=some (.cells #[.int .i64 zy] 3 (0,0))):=by show _=_;rw [<-hX];exact heap_alloc_new w1 _
  clear hb1 hbX c3 c5 c6 hW;go_upto_if 24 with fail
  try rw [hX]
  clear hX;go_cut [] from 25 to 42 (fun wx=>Hid (LfQ B lp g p nv mv s Q1 wx)/\Hid (Kq B W wx))
  case first=>
    have x5:X.cell? ⟨w.heap.size,5,none⟩=some (.int .i64 (x:Int)):=cell_of (HG.out X HKX.out) 5
    cases oy with
    | false =>
      have HQf:Hid (Q=Q1):=HQ1.out;go_wp2_with fail
      go_meet;exact ⟨(by show LfQ _ _ _ _ _ _ _ _ _;rw [<-HQf.out];exact HLX.out),HKX⟩
    | true =>
      have HQf:Hid (someQ Q x (fun v=>v != ly+c.k)=Q1):=HQ1.out;have hzl:zy=ly:=HVy.out;subst hzl;go_wp2_with fail
      refine cA (HSx.out X Q 155 #[.pointer (some ⟨w1.heap.size,0,none⟩),.pointer (some ⟨w.heap.size,0,none⟩)] _ HLX.out (HT1.out X _ zy HKX.out HGX.out (by omega)) (fun q hq=>Nat.le_trans (HTs.out q hq) (by omega))) ?_;rintro e w3 ⟨rfl,hL3,hk3⟩;have HL3:Hid (LfQ B lp g p nv mv s Q1 w3):=by show LfQ _ _ _ _ _ _ _ _ _;rw [<-HQf.out];exact hL3
      have HK3:Hid (Kq B W w3):=HKX.out.trans hk3;clear hL3 hk3;go_wp2_with fail
      go_meet;exact ⟨HL3,HK3⟩
  case rest=>
  obtain ⟨HLx,HKx⟩:=hcut;rename World=>wx;have x5:wx.cell? ⟨w.heap.size,5,none⟩=some (.int .i64 (x:Int)):=cell_of (HG.out wx HKx.out) 5;go_wp2_with fail
  refine cA (HOx.out wx Q1 HLx.out) ?_;rintro e w4 ⟨rfl,hb4⟩;obtain ⟨Y,hY⟩:∃ X,w4.alloc (.cells #[.int .i64 zx] 3)=X:=⟨_,rfl⟩;have hbY:Below wx.heap.size wx Y:=by rw [<-hY];exact bl_alloc hb4 _
  have HLY:Hid (LfQ B lp g p nv mv s Q1 Y):=HLx.out.below hbY;have HKY:Hid (Kq B W Y):=HKx.out.next hbY HLx.out.size;have HGY:Hid (Y.heap[w4.heap.size]?=some (.cells #[.int .i64 zx] 3 (0,0))):=by show _=_;rw [<-hY];exact heap_alloc_new w4 _
  have y6:Y.cell? ⟨w.heap.size,6,none⟩=some (.int .i64 (y:Int)):=cell_of (HG.out Y HKY.out) 6;clear hb4 hbY x5
  cases ox with
  | false =>
    have HRf:Hid (R=some Q1):=HR1.out;go_wp2_with fail
    try rw [hY]
    go_ret;exact ⟨by rw [HRf.out];rfl,(fun Q' h=>by rw [HRf.out] at h;injection h with h;rw [<-h];exact HLY.out),HKW.out.trans HKY.out⟩
  | true =>
    have HRf:Hid (R=some (someQ Q1 y (fun v=>v != lx-c.k))):=HR1.out;have hzl:zx=lx:=HVx.out;subst hzl;go_wp2_with fail
    try rw [hY]
    refine cA (HSy.out Y Q1 156 #[.pointer (some ⟨w4.heap.size,0,none⟩),.pointer (some ⟨w.heap.size,0,none⟩)] _ HLY.out (HT2.out Y _ zx HKY.out HGY.out (by omega)) (fun q hq=>Nat.le_trans (HT1b.out q hq) (by omega))) ?_;rintro e w5 ⟨rfl,hL5,hk5⟩;have HL5:Hid (LfQ B lp g p nv mv s (someQ Q1 y (fun v=>v != zx-c.k)) w5):=hL5;have HK5:Hid (Kq B W w5):=HKY.out.trans hk5;clear hL5 hk5;go_wp2_with fail
    go_ret;exact ⟨by rw [HRf.out];rfl,(fun Q' h=>by rw [HRf.out] at h;injection h with h;rw [<-h];exact HL5.out),HKW.out.trans HK5.out⟩
end Go.Proofs.YtjnckfchgcmmpaaGreatDoor
