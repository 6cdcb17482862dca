import Derived.Test.YtjnckfchgcmmpaaGreatDoorJ05
import Derived.Test.YtjnckfchgcmmpaaGreatDoorJ39
import Derived.Test.YtjnckfchgcmmpaaGreatDoorJ37
import Derived.Test.YtjnckfchgcmmpaaGreatDoorJ26
import Derived.Test.YtjnckfchgcmmpaaGreatDoorJ34
import Derived.Test.YtjnckfchgcmmpaaGreatDoorJ35
import Derived.Test.YtjnckfchgcmmpaaGreatDoorJ31
import Derived.Test.YtjnckfchgcmmpaaGreatDoorJ21
import Derived.Test.YtjnckfchgcmmpaaGreatDoorJ36
import Derived.Test.YtjnckfchgcmmpaaGreatDoorJ38
namespace Go.Proofs.YtjnckfchgcmmpaaGreatDoor
open Go.RowKit
set_option maxRecDepth 10000
set_option maxHeartbeats 8000000
theorem cells10 {w:World} {N:Nat} {a0 a1 a2 a3 a4 a5 a6 a7 a8 a9:Value} {t:TypeId} (h:w.heap[N]?=some (.cells #[a0,a1,a2,a3,a4,a5,a6,a7,a8,a9] t (0,0))):w.cell? ⟨N,0,none⟩=some a0/\w.cell? ⟨N,1,none⟩=some a1/\w.cell? ⟨N,2,none⟩=some a2/\w.cell? ⟨N,3,none⟩=some a3/\w.cell? ⟨N,4,none⟩=some a4/\w.cell? ⟨N,5,none⟩=some a5/\w.cell? ⟨N,6,none⟩=some a6/\w.cell? ⟨N,7,none⟩=some a7/\w.cell? ⟨N,8,none⟩=some a8/\w.cell? ⟨N,9,none⟩=some a9:=
  ⟨cell_of h 0,cell_of h 1,cell_of h 2,cell_of h 3,cell_of h 4,cell_of h 5,cell_of h 6,cell_of h 7,cell_of h 8,cell_of h 9⟩
theorem set13 {w:World} {N:Nat} {a0 a1 a2 a3 a4 a5 a6 a7 a8 a9 a10 a11 a12:Value} {t:TypeId} (h:w.heap[N]?=some (.cells #[a0,a1,a2,a3,a4,a5,a6,a7,a8,a9,a10,a11,a12] t (0,0))) (b0 b1 b2 b3 b4 b5 b6 b7 b8 b9 b10 b11 b12:Value):(((((((((((((w.setCell ⟨N,0,none⟩ b0).setCell ⟨N,1,none⟩ b1).setCell ⟨N,2,none⟩ b2).setCell ⟨N,3,none⟩ b3).setCell ⟨N,4,none⟩ b4).setCell ⟨N,5,none⟩ b5).setCell ⟨N,6,none⟩ b6).setCell ⟨N,7,none⟩ b7).setCell ⟨N,8,none⟩ b8).setCell ⟨N,9,none⟩ b9).setCell ⟨N,10,none⟩ b10).setCell ⟨N,11,none⟩ b11).setCell ⟨N,12,none⟩ b12).heap[N]?=some (.cells #[b0,b1,b2,b3,b4,b5,b6,b7,b8,b9,b10,b11,b12] t (0,0)):=by
  have h0:=heap_setCell_same _ N 0 _ t b0 h;simp only [List.setIfInBounds_toArray,List.set_cons_zero] at h0;have h1:=heap_setCell_same _ N 1 _ t b1 h0;simp only [List.setIfInBounds_toArray,List.set_cons_zero,List.set_cons_succ] at h1;have h2:=heap_setCell_same _ N 2 _ t b2 h1;simp only [List.setIfInBounds_toArray,List.set_cons_zero,List.set_cons_succ] at h2;have h3:=heap_setCell_same _ N 3 _ t b3 h2;simp only [List.setIfInBounds_toArray,List.set_cons_zero,List.set_cons_succ] at h3;have h4:=heap_setCell_same _ N 4 _ t b4 h3;simp only [List.setIfInBounds_toArray,List.set_cons_zero,List.set_cons_succ] at h4;have h5:=heap_setCell_same _ N 5 _ t b5 h4;simp only [List.setIfInBounds_toArray,List.set_cons_zero,List.set_cons_succ] at h5;have h6:=heap_setCell_same _ N 6 _ t b6 h5
  simp only [List.setIfInBounds_toArray,List.set_cons_zero,List.set_cons_succ] at h6;have h7:=heap_setCell_same _ N 7 _ t b7 h6;simp only [List.setIfInBounds_toArray,List.set_cons_zero,List.set_cons_succ] at h7;have h8:=heap_setCell_same _ N 8 _ t b8 h7;simp only [List.setIfInBounds_toArray,List.set_cons_zero,List.set_cons_succ] at h8;have h9:=heap_setCell_same _ N 9 _ t b9 h8;simp only [List.setIfInBounds_toArray,List.set_cons_zero,List.set_cons_succ] at h9;have h10:=heap_setCell_same _ N 10 _ t b10 h9;simp only [List.setIfInBounds_toArray,List.set_cons_zero,List.set_cons_succ] at h10;have h11:=heap_setCell_same _ N 11 _ t b11 h10;simp only [List.setIfInBounds_toArray,List.set_cons_zero,List.set_cons_succ] at h11;have h12:=heap_setCell_same _ N 12 _ t b12 h11;simp only [List.setIfInBounds_toArray,List.set_cons_zero,List.set_cons_succ] at h12
  exact h12
def egC (k:Int):Nat:=if k=3 then 76 else 78
def egB (k:Int):Nat:=if k=3 then 77 else 79
def egK (k:Int):Value:=.agg #[.func (.func (egC k)) #[] #[],.func (.func (egB k)) #[] #[]]
def ruCells (c:Md.Cn) (vt vx vb vr:Value) (pl:Int):List Value:=[.func (.func (egC c.kind)) #[] #[],.func (.func (egB c.kind)) #[] #[],.int .i64 c.kind,.int .i64 c.op,vt,.int .i64 c.k,.int .i64 c.v,.int .i64 c.x,.int .i64 c.y,vx,vb,vr,.int .i64 pl]
def ruVal (c:Md.Cn) (vt vx vb vr:Value) (pl:Int):Value:=.agg #[.func (.func (egC c.kind)) #[] #[],.func (.func (egB c.kind)) #[] #[],.int .i64 c.kind,.int .i64 c.op,vt,.int .i64 c.k,.int .i64 c.v,.int .i64 c.x,.int .i64 c.y,vx,vb,vr,.int .i64 pl]
theorem egKind_any (c:Md.Cn) (vt vx vb vr:Value) (w:World):Calls Tryz.prog 56 #[cnVal c vt vx vb vr] w fun e w'=>e=.returned (egK c.kind)/\Below w.heap.size w w':=by
  unfold cnVal
  by_cases hk:c.kind=3
  · have e1:egK c.kind=.agg #[.func (.func 76) #[] #[],.func (.func 77) #[] #[]]:=by simp [egK,egC,egB,hk]
    rw [e1];go_enter Tryz.func56,Tryz.ntmps56;go_wp2_with fail
    exact bodyPost_ret (by simp [results,Tryz.results56,go_sem];try rfl) rfl ⟨rfl,((Below.refl _ _).alloc (Nat.le_refl _) _).alloc (by simp) _⟩
  · have e1:egK c.kind=.agg #[.func (.func 78) #[] #[],.func (.func 79) #[] #[]]:=by simp [egK,egC,egB,hk]
    rw [e1];go_enter Tryz.func56,Tryz.ntmps56;go_wp2_with fail
    exact bodyPost_ret (by simp [results,Tryz.results56,go_sem];try rfl) rfl ⟨rfl,((Below.refl _ _).alloc (Nat.le_refl _) _).alloc (by simp) _⟩
theorem egRule_any (c:Md.Cn) (vt vx vb vr:Value) (pl:Int) (w:World) (ta xa ba ra:Option Addr) (tn tc xn xc bn bc rn rc:Nat) (et:vt=.slice ta tn tc) (ex:vx=.slice xa xn xc) (eb:vb=.slice ba bn bc) (er:vr=.slice ra rn rc):Calls Tryz.prog 27 #[cnVal c vt vx vb vr,.int .i64 pl] w fun e w'=>e=.returned (ruVal c vt vx vb vr pl)/\Below w.heap.size w w':=by
  subst et ex eb er;obtain ⟨vt,hvt⟩:∃ vt,vt=Value.slice ta tn tc:=⟨_,rfl⟩;obtain ⟨W,hW⟩:∃ W,w.alloc (.cells #[.int .i64 c.kind,.int .i64 c.op,.slice ta tn tc,.int .i64 c.k,.int .i64 c.v,.int .i64 c.x,.int .i64 c.y,.slice xa xn xc,.slice ba bn bc,.slice ra rn rc] 56)=W:=⟨_,rfl⟩;obtain ⟨V,hV⟩:∃ V,W.alloc (.cells #[.nilFunc,.nilFunc,.int .i64 0,.int .i64 0,.slice none 0 0,.int .i64 0,.int .i64 0,.int .i64 0,.int .i64 0,.slice none 0 0,.slice none 0 0,.slice none 0 0,.int .i64 0] 89)=V:=⟨_,rfl⟩;have hb0:Below w.heap.size w W:=bAe hW;have hb1:Below W.heap.size W V:=bAe hV;have g0:W.heap[w.heap.size]?=some (.cells #[.int .i64 c.kind,.int .i64 c.op,.slice ta tn tc,.int .i64 c.k,.int .i64 c.v,.int .i64 c.x,.int .i64 c.y,.slice xa xn xc,.slice ba bn bc,.slice ra rn rc] 56 (0,0)):=hAe hW
  have g1:V.heap[W.heap.size]?=some (.cells #[.nilFunc,.nilFunc,.int .i64 0,.int .i64 0,.slice none 0 0,.int .i64 0,.int .i64 0,.int .i64 0,.int .i64 0,.slice none 0 0,.slice none 0 0,.slice none 0 0,.int .i64 0] 89 (0,0)):=hAe hV;have hbw:Below w.heap.size w V:=bl_next hb0 hb1;have g0V:=(hb1.block _ (hLt g0)).trans g0;have HN:Hid (∀ w',Below V.heap.size V w'->w'.heap[W.heap.size]?=some (.cells #[.nilFunc,.nilFunc,.int .i64 0,.int .i64 0,.slice none 0 0,.int .i64 0,.int .i64 0,.int .i64 0,.int .i64 0,.slice none 0 0,.slice none 0 0,.slice none 0 0,.int .i64 0] 89 (0,0))):=fun w' hb=>(hb.block _ (hLt g1)).trans g1
  have HCn:Hid (∀ w',Below V.heap.size V w'->w'.heap[w.heap.size]?=some (.cells #[.int .i64 c.kind,.int .i64 c.op,.slice ta tn tc,.int .i64 c.k,.int .i64 c.v,.int .i64 c.x,.int .i64 c.y,.slice xa xn xc,.slice ba bn bc,.slice ra rn rc] 56 (0,0))):=fun w' hb=>(hb.block _ (hLt g0V)).trans g0V
  have HKd:Hid (∀ w',Calls Tryz.prog 56 #[.agg #[.int .i64 c.kind,.int .i64 c.op,.slice ta tn tc,.int .i64 c.k,.int .i64 c.v,.int .i64 c.x,.int .i64 c.y,.slice xa xn xc,.slice ba bn bc,.slice ra rn rc]] w' fun e w2=>e=.returned (.agg #[.func (.func (egC c.kind)) #[] #[],.func (.func (egB c.kind)) #[] #[]])/\Below w'.heap.size w' w2):=fun w'=>egKind_any c _ _ _ _ w'
  have HBw:Hid (Below w.heap.size w V):=hbw;have HWl:Hid (w.heap.size<=W.heap.size):=hb0.size;unfold cnVal ruVal;clear g0 g1 hb0 hb1 hbw g0V hvt vt;go_enter Tryz.func27,Tryz.ntmps27;go_upto_region 1 with fail
  try rw [hW]
  try rw [hV]
  clear hW hV;have HC0:Hid (∀ w',Below V.heap.size V w'->w'.cell? ⟨w.heap.size,0,none⟩=some (.int .i64 c.kind)/\w'.cell? ⟨w.heap.size,1,none⟩=some (.int .i64 c.op)/\w'.cell? ⟨w.heap.size,2,none⟩=some (.slice ta tn tc)/\w'.cell? ⟨w.heap.size,3,none⟩=some (.int .i64 c.k)/\w'.cell? ⟨w.heap.size,4,none⟩=some (.int .i64 c.v)/\w'.cell? ⟨w.heap.size,5,none⟩=some (.int .i64 c.x)/\w'.cell? ⟨w.heap.size,6,none⟩=some (.int .i64 c.y)/\w'.cell? ⟨w.heap.size,7,none⟩=some (.slice xa xn xc)/\w'.cell? ⟨w.heap.size,8,none⟩=some (.slice ba bn bc)/\w'.cell? ⟨w.heap.size,9,none⟩=some (.slice ra rn rc)):=fun w' hb=>cells10 (HCn.out w' hb)
  refine wp_region_T (fun _=>True) (fun w'=>w'.cell? ⟨w.heap.size,0,none⟩=some (.int .i64 c.kind)/\w'.cell? ⟨w.heap.size,1,none⟩=some (.int .i64 c.op)/\w'.cell? ⟨w.heap.size,2,none⟩=some (.slice ta tn tc)/\w'.cell? ⟨w.heap.size,3,none⟩=some (.int .i64 c.k)/\w'.cell? ⟨w.heap.size,4,none⟩=some (.int .i64 c.v)/\w'.cell? ⟨w.heap.size,5,none⟩=some (.int .i64 c.x)/\w'.cell? ⟨w.heap.size,6,none⟩=some (.int .i64 c.y)/\w'.cell? ⟨w.heap.size,7,none⟩=some (.slice xa xn xc)/\w'.cell? ⟨w.heap.size,8,none⟩=some (.slice ba bn bc)/\w'.cell? ⟨w.heap.size,9,none⟩=some (.slice ra rn rc)) [5] (by kernel_rfl) ⟨trivial,HC0.out _ (Below.refl _ _).drew⟩ (fun hHeld=>?_);refine tA (i:=0) (oi:=⟨some 5,.load 56 (.tmp 2),_,_,_,_⟩) (v:=?v_aa) ?hy_aa (by assumption) ?rest_aa
  case hy_aa=>(intro w hSw;(try dsimp only at hSw);go_simp;try (with_reducible rfl))
  try simp only [Act.put,q1,q2,q3]
  refine tA (i:=2) (oi:=⟨some 7,.load 56 (.tmp 2),_,_,_,_⟩) (v:=?v_ac) ?hy_ac (by assumption) ?rest_ac
  case hy_ac=>(intro w hSw;(try dsimp only at hSw);go_simp;try (with_reducible rfl))
  try simp only [Act.put,q1,q2,q3]
  refine tB (i:=3) (oi:=⟨some 8,.move (.tmp 1),_,_,_,_⟩) (v:=?v_ae) ?hy_ae (by assumption) ?rest_ae
  case hy_ae=>(intro w hSw;(try dsimp only at hSw);go_simp;try (with_reducible rfl))
  try simp only [Act.put,q1,q2,q3]
  refine wpAnyT_one (i:=1) (o:=⟨some 6,.call { callee:=.value (.func 56),args:=#[(.tmp 5)],argTypes:=#[56] },_,_,_,_⟩) (by kernel_rfl) rfl (fun K hK=>?_);go_simp;refine cA (HKd.out _) ?_;rintro e w1 ⟨rfl,hb1⟩;go_wp2_with fail
  have hb1':Below V.heap.size V w1:=(Below.refl _ _).drew.trans hb1;clear hHeld;have hHeld:True/\_:=⟨trivial,HC0.out _ hb1'⟩;refine hK.out _ _ ⟨trivial,fun _=>hHeld.2⟩ ?_;clear hK K;have g1:=HN.out w1 hb1';have hz:∀ i,w1.frozen? ⟨W.heap.size,i,none⟩=false:=fun i=>by simp [World.frozen?,g1]
  have hzz:w1.frozen? ⟨W.heap.size,0,none⟩=false/\w1.frozen? ⟨W.heap.size,1,none⟩=false/\w1.frozen? ⟨W.heap.size,2,none⟩=false/\w1.frozen? ⟨W.heap.size,3,none⟩=false/\w1.frozen? ⟨W.heap.size,4,none⟩=false/\w1.frozen? ⟨W.heap.size,5,none⟩=false/\w1.frozen? ⟨W.heap.size,6,none⟩=false/\w1.frozen? ⟨W.heap.size,7,none⟩=false/\w1.frozen? ⟨W.heap.size,8,none⟩=false/\w1.frozen? ⟨W.heap.size,9,none⟩=false/\w1.frozen? ⟨W.heap.size,10,none⟩=false/\w1.frozen? ⟨W.heap.size,11,none⟩=false/\w1.frozen? ⟨W.heap.size,12,none⟩=false:=⟨hz _,hz _,hz _,hz _,hz _,hz _,hz _,hz _,hz _,hz _,hz _,hz _,hz _⟩
  obtain ⟨u0,u1,u2,u3,u4,u5,u6,u7,u8,u9,u10,u11,u12⟩:_/\_/\_/\_/\_/\_/\_/\_/\_/\_/\_/\_/\_:=⟨cell_of g1 0,cell_of g1 1,cell_of g1 2,cell_of g1 3,cell_of g1 4,cell_of g1 5,cell_of g1 6,cell_of g1 7,cell_of g1 8,cell_of g1 9,cell_of g1 10,cell_of g1 11,cell_of g1 12⟩;obtain ⟨f0,f1,f2,f3,f4,f5,f6,f7,f8,f9,f10,f11,f12⟩:=hzz;refine tB (i:=4) (oi:=⟨some 9,.build 89 #[(0,(.tmp 6)),(1,(.tmp 7)),(2,(.tmp 8))],_,_,_,_⟩) (v:=?v_ab) ?hy_ab (by assumption) ?rest_ab
  case hy_ab=>(intro w hSw;(try dsimp only at hSw);go_simp;try (with_reducible rfl))
  try simp only [Act.put,q1,q2,q3]
  refine wpAnyT_late (i:=5) (o:=⟨none,.store 89 (.tmp 4) (.tmp 9),_,_,_,_⟩) (by kernel_rfl) rfl (by kernel_rfl) (fun K hK=>?_);go_simp;refine hK.out _ _ ?sh_ad ?rest_ad
  case sh_ad=>((try dsimp only);all_goals trivial)
  clear hK K;try simp only [Act.put,q1,q2,q3]
  refine wpAnyT_done (by kernel_rfl) ?_ _;obtain ⟨Z,hZ⟩:∃ Z,(((((((((((((w1.setCell ⟨W.heap.size,0,none⟩ (.func (.func (egC c.kind)) #[] #[])).setCell ⟨W.heap.size,1,none⟩ (.func (.func (egB c.kind)) #[] #[])).setCell ⟨W.heap.size,2,none⟩ (.int .i64 c.kind)).setCell ⟨W.heap.size,3,none⟩ (.int .i64 c.op)).setCell ⟨W.heap.size,4,none⟩ (.slice ta tn tc)).setCell ⟨W.heap.size,5,none⟩ (.int .i64 c.k)).setCell ⟨W.heap.size,6,none⟩ (.int .i64 c.v)).setCell ⟨W.heap.size,7,none⟩ (.int .i64 c.x)).setCell ⟨W.heap.size,8,none⟩ (.int .i64 c.y)).setCell ⟨W.heap.size,9,none⟩ (.slice xa xn xc)).setCell ⟨W.heap.size,10,none⟩ (.slice ba bn bc)).setCell ⟨W.heap.size,11,none⟩ (.slice ra rn rc)).setCell ⟨W.heap.size,12,none⟩ (.int .i64 pl))=Z:=⟨_,rfl⟩
  have gZ:Z.heap[W.heap.size]?=some (.cells #[.func (.func (egC c.kind)) #[] #[],.func (.func (egB c.kind)) #[] #[],.int .i64 c.kind,.int .i64 c.op,.slice ta tn tc,.int .i64 c.k,.int .i64 c.v,.int .i64 c.x,.int .i64 c.y,.slice xa xn xc,.slice ba bn bc,.slice ra rn rc,.int .i64 pl] 89 (0,0)):=by
    rw [<-hZ];exact set13 g1 _ _ _ _ _ _ _ _ _ _ _ _ _
  have hbZ:Below w.heap.size w Z:=by
    have hb:Below w.heap.size w w1:=HBw.out.trans (hb1'.mono HBw.out.size);rw [<-hZ];exact ((((((((((((hb.setCell HWl.out _).setCell HWl.out _).setCell HWl.out _).setCell HWl.out _).setCell HWl.out _).setCell HWl.out _).setCell HWl.out _).setCell HWl.out _).setCell HWl.out _).setCell HWl.out _).setCell HWl.out _).setCell HWl.out _).setCell HWl.out _
  rw [hZ];obtain ⟨k0,k1,k2,k3,k4,k5,k6,k7,k8,k9,k10,k11,k12⟩:_/\_/\_/\_/\_/\_/\_/\_/\_/\_/\_/\_/\_:=⟨cell_of gZ 0,cell_of gZ 1,cell_of gZ 2,cell_of gZ 3,cell_of gZ 4,cell_of gZ 5,cell_of gZ 6,cell_of gZ 7,cell_of gZ 8,cell_of gZ 9,cell_of gZ 10,cell_of gZ 11,cell_of gZ 12⟩;clear hZ gZ hHeld hb1 hb1' u0 u1 u2 u3 u4 u5 u6 u7 u8 u9 u10 u11 u12 f0 f1 f2 f3 f4 f5 f6 f7 f8 f9 f10 f11 f12 g1 hz;go_wp2_with fail
  exact bodyPost_ret (by simp [results,Tryz.results27,go_sem,k0,k1,k2,k3,k4,k5,k6,k7,k8,k9,k10,k11,k12];try rfl) rfl ⟨rfl,hbZ⟩
end Go.Proofs.YtjnckfchgcmmpaaGreatDoor
namespace Go.Proofs.YtjnckfchgcmmpaaGreatDoor
open Go.RowKit
structure Tl where
  con:Int
  k:Int
  x:Int
  v:Int
  lo:Int
  hi:Int
  a:Option Addr
  n:Nat
  cp:Nat
def Tl.cells (t:Tl):List Value:=[.int .i64 t.con,.int .i64 t.k,.int .i64 t.x,.int .i64 t.v,.int .i64 t.lo,.int .i64 t.hi,.slice t.a t.n t.cp]
def tls (T:List Tl):List Value:=T.flatMap Tl.cells
theorem tls_append (T U:List Tl):tls (T++U)=tls T++tls U:=by simp [tls]
theorem tls_one (t:Tl):tls [t]=t.cells:=by simp [tls]
theorem tls_get (T:List Tl) (j i:Nat) (hj:j<T.length) (hi:i<7):(tls T)[j*7+i]?=T[j].cells[i]?:=by
  induction T generalizing j with
  | nil=>exact absurd hj (by simp)
  | cons t T ih =>
    have e:tls (t :: T)=t.cells++tls T:=by simp [tls]
    have hl:t.cells.length=7:=rfl;rw [e]
    cases j with
    | zero=>rw [List.getElem?_append_left (by omega)];simp
    | succ j =>
      rw [List.getElem?_append_right (by omega),hl];have h2:=ih j (by simpa using hj);have e2:(j+1)*7+i-7=j*7+i:=by omega
      rw [e2,h2];rfl
theorem tl_one (t:Tl):∀ u∈t.cells,u.oneCell'=true:=by
  intro u hu;simp only [Tl.cells,List.mem_cons,List.not_mem_nil,or_false] at hu
  rcases hu with rfl | rfl | rfl | rfl | rfl | rfl | rfl <;> rfl
def TdOut (T:List Tl) (ok:Bool) (w:World) (e:Ending) (w':World):Prop:=∃ v,e=.returned (.tuple #[v,.bool ok])/\w'.ownsRow w.heap.size 60 7 v T.length (tls T)/\Below w.heap.size w w'
def plT (c:Ct):Tl:=⟨0,c.k,c.x,c.v,0,0,none,0,0⟩
theorem infoCause:(Tryz.prog.info? 60).map (fun i=>(i.zero,i.size,i.bytes))=some (some (.agg #[.int .i64 0,.int .i64 0,.int .i64 0,.int .i64 0,.int .i64 0,.int .i64 0,.slice none 0 0]),7,72):=by kernel_rfl
theorem und43:Tryz.prog.underlying 43=some (.slice 60):=by kernel_rfl
theorem egOwn_slice {w:World} {B:Nat} {e:TypeId} {size:Nat} {v:Value} {n:Nat} {xs:List Value} (h:w.ownsRow B e size v n xs):∃ a cap,v=.slice a n cap/\n<=cap:=by
  rcases own_cells h with ⟨rfl,h0⟩ | ⟨g,cap,rfl,_,_,hc,_⟩
  · exact ⟨none,0,by rw [h0],by omega⟩
  · exact ⟨_,cap,rfl,hc⟩
end Go.Proofs.YtjnckfchgcmmpaaGreatDoor
namespace Go.Proofs.YtjnckfchgcmmpaaGreatDoor
open Go.RowKit
set_option maxRecDepth 10000
set_option maxHeartbeats 8000000
def Sq.kept (q:Sq) (vs:List Int):List Int:=vs.filter q.has
def Sq.gone (q:Sq) (x:Int) (vs:List Int):List Ct:=(vs.filter fun v=>!q.has v).map fun v=>⟨3,x,v⟩
def Sq.cutsL (q:Sq) (x:Int) (vs:List Int):List Ct:=if (q.ts.length==0&&decide (0<(q.kept vs).length))=true then endsL x vs (q.kept vs) else q.gone x vs
theorem kept_next (q:Sq) (vs:List Int) (k:Nat) (hk:k<vs.length):q.kept (vs.take (k+1))=q.kept (vs.take k)++(if q.has vs[k] then [vs[k]] else []):=by
  unfold Sq.kept;rw [List.take_succ_eq_append_getElem hk,List.filter_append]
  congr 1
  by_cases h:q.has vs[k]=true
  · simp [h]
  · simp [h]
theorem gone_next (q:Sq) (x:Int) (vs:List Int) (k:Nat) (hk:k<vs.length):q.gone x (vs.take (k+1))=q.gone x (vs.take k)++(if q.has vs[k] then [] else [⟨3,x,vs[k]⟩]):=by
  unfold Sq.gone;rw [List.take_succ_eq_append_getElem hk,List.filter_append,List.map_append]
  congr 1
  by_cases h:q.has vs[k]=true
  · simp [h]
  · simp [h]
theorem kept_len (q:Sq) (vs:List Int):(q.kept vs).length<=vs.length:=List.length_filter_le _ _
theorem gone_len (q:Sq) (x:Int) (vs:List Int):(q.gone x vs).length<=vs.length:=by
  unfold Sq.gone;rw [List.length_map];exact List.length_filter_le _ _
theorem own_apart {w:World} {B B':Nat} {e e':TypeId} {s s':Nat} {v v':Value} {n n':Nat} {xs xs':List Value} (h:w.ownsRow B e s v n xs) (h':w.ownsRow B' e' s' v' n' xs') (hne:e≠e') (g:Nat) (h1:v.ownBlock=some g) (h2:v'.ownBlock=some g):False:=by
  rcases h.2 with ⟨rfl,_⟩ | ⟨q,cap,cur,rfl,_,hc,_⟩
  · cases h1
  rcases h'.2 with ⟨rfl,_⟩ | ⟨q',cap',cur',rfl,_,hc',_⟩
  · cases h2
  injection h1 with h1;injection h2 with h2
  replace h1:q=g:=h1
  replace h2:q'=g:=h2
  subst h1;rw [h2,hc] at hc';injection hc' with hc';injection hc' with _ e2 _;exact hne e2
theorem staysCuts_any (B:Nat) (q:Sq) (tv:Value) (fs:List Value) (x:Int) (vv:Value) (vs:List Int) (w:World) (ho:w.ownsRow B 93 1 tv q.ts.length fs) (ht:TestsAt B w fs q.ts) (hB:B<=w.heap.size) (hl:q.ts.length<=9223372036854775807) (hv:IntsAt w vv vs) (hvl:vs.length<=1000) (hvb:∀ v∈vs,-2000000000<=v/\v<=2000000000):Calls Tryz.prog 142 #[stVal q.lo q.hi tv,.int .i64 x,vv] w (CsOut (q.cutsL x vs) w):=by
  obtain ⟨ta,tc,rfl⟩:=own_slice ho;obtain ⟨va,vc,rfl,hvm,hvc⟩:=hv;obtain ⟨W,hW⟩:∃ W,w.alloc (.cells #[.int .i64 q.lo,.int .i64 q.hi,.slice ta q.ts.length tc] 190)=W:=⟨_,rfl⟩;have hb0:Below w.heap.size w W:=bAe hW;have g0:W.heap[w.heap.size]?=some (.cells #[.int .i64 q.lo,.int .i64 q.hi,.slice ta q.ts.length tc] 190 (0,0)):=hAe hW;have hlt0:=(hLt g0);have HC:Hid (∀ w',Below W.heap.size W w'->w'.cell? ⟨w.heap.size,0,none⟩=some (.int .i64 q.lo)/\w'.cell? ⟨w.heap.size,1,none⟩=some (.int .i64 q.hi)/\w'.cell? ⟨w.heap.size,2,none⟩=some (.slice ta q.ts.length tc)):=fun w' hb=>⟨cell_of ((hb.block _ hlt0).trans g0) 0,cell_of ((hb.block _ hlt0).trans g0) 1,cell_of ((hb.block _ hlt0).trans g0) 2⟩
  have HV:Hid (∀ k (hk:k<vs.length) w',Below W.heap.size W w'->∃ b off,va=some ⟨b,off,none⟩/\w'.cell? ⟨b,off+k,none⟩=some (.int .i64 vs[k])):=fun k hk w' hb=>by
    obtain ⟨b,off,rfl,hlt,hcl⟩:=hvc (by omega);exact ⟨b,off,rfl,((hb0.trans (hb.mono hb0.size)).cell (p:=⟨b,_,none⟩) hlt).trans (hcl k hk)⟩
  have HIv:Hid (∀ w',Below W.heap.size W w'->IntsAt w' (.slice va vs.length vc) vs):=fun w' hb=>IntsAt.below (w:=w) ⟨va,vc,rfl,hvm,hvc⟩ (hb0.trans (hb.mono hb0.size))
  have HH:Hid (∀ (v:Int) w',-2000000000<=v->v<=2000000000->Below W.heap.size W w'->Calls Tryz.prog 168 #[.agg #[.int .i64 q.lo,.int .i64 q.hi,.slice ta q.ts.length tc],.int .i64 v] w' fun e w2=>e=.returned (.bool (q.has v))/\Below w'.heap.size w' w2):=fun v w' h1 h2 hb=>by
    have hbw:=hb0.trans (hb.mono hb0.size);exact has_max B q.lo q.hi _ q.ts fs v w' (own_below ho hbw) (ht.kq (Kq.of_below hbw hB)) (Nat.le_trans hB hbw.size) hl h1 h2
  have HIs:Hid (∀ w',Calls Tryz.prog 140 #[.agg #[.int .i64 q.lo,.int .i64 q.hi,.slice ta q.ts.length tc]] w' fun e w2=>e=.returned (.bool (q.ts.length==0))/\Below w'.heap.size w' w2):=fun w'=>isI_any q.lo q.hi ta q.ts.length tc w'
  have HB:Hid (Below w.heap.size w W):=hb0;have HVb:Hid (∀ v∈vs,-2000000000<=v/\v<=2000000000):=hvb;have HCut:Hid (q.cutsL x vs=if (q.ts.length==0&&decide (0<(q.kept vs).length))=true then endsL x vs (q.kept vs) else q.gone x vs):=rfl;obtain ⟨tn,htn⟩:∃ n,q.ts.length=n:=⟨_,rfl⟩;rw [htn] at HC HH HIs HCut hW ⊢;obtain ⟨R,hR⟩:∃ R,q.cutsL x vs=R:=⟨_,rfl⟩;rw [hR] at HCut ⊢;clear ho ht hB hl hvc hb0 g0 hlt0 hvb htn hR hvm;unfold stVal;go_enter Tryz.func142,Tryz.ntmps142;go_wp2_with fail
  go_loopw [7,8,13] (fun kv gv iv wr=>∃ (k:Nat),iv=.int .i64 (k:Int)/\k<=vs.length/\Hid (wr.ownsRow W.heap.size 3 1 kv (q.kept (vs.take k)).length ((q.kept (vs.take k)).map (.int .i64)))/\Hid (wr.ownsRow W.heap.size 41 3 gv (q.gone x (vs.take k)).length (cts (q.gone x (vs.take k))))/\Hid (Below W.heap.size W wr)) (fun _ _ iv _=>vs.length-(intOf iv).toNat)
  case atStart=>exact ⟨0,rfl,Nat.zero_le _,World.ownsRow_nil _ _ _ _,World.ownsRow_nil _ _ _ _,Below.refl _ _⟩
  case round=>
  obtain ⟨k,rfl,hk,HKr,HGr,HBr⟩:=hrel;clear hW;obtain ⟨ka,kc,rfl⟩:=own_slice HKr.out;obtain ⟨ga,gc,rfl⟩:=own_slice HGr.out
  by_cases hkn:k<vs.length
  · have hkI:(k:Int)<(vs.length:Int):=by omega
    obtain ⟨b,off,rfl,f0⟩:=HV.out k hkn wr HBr.out;obtain ⟨x0,x1,x2⟩:=HC.out wr HBr.out;have hb1:=HVb.out vs[k] (List.getElem_mem hkn);have n1:=kept_next q vs k hkn;have n2:=gone_next q x vs k hkn;have hl1:(q.kept (vs.take k)).length<=1000:=Nat.le_trans (kept_len _ _) (Nat.le_trans (by rw [List.length_take];exact Nat.min_le_right _ _) hvl);have hl2:(q.gone x (vs.take k)).length<=1000:=Nat.le_trans (gone_len _ _ _) (Nat.le_trans (by rw [List.length_take];exact Nat.min_le_right _ _) hvl);have HHk:=HH.out vs[k] wr hb1.1 hb1.2 HBr.out;obtain ⟨v,hv⟩:∃ v,vs[k]=v:=⟨_,rfl⟩;rw [hv] at f0 n1 n2 HHk;obtain ⟨r,hr⟩:∃ r,q.has v=r:=⟨_,rfl⟩;rw [hr] at n1 n2 HHk;obtain ⟨KL,hKL⟩:∃ l,q.kept (vs.take k)=l:=⟨_,rfl⟩;obtain ⟨GL,hGL⟩:∃ l,q.gone x (vs.take k)=l:=⟨_,rfl⟩;rw [hKL] at n1 HKr hl1 ⊢;rw [hGL] at n2 HGr hl2 ⊢
    have HN1:Hid (q.kept (vs.take (k+1))=KL++(if r then [v] else [])):=n1;have HN2:Hid (q.gone x (vs.take (k+1))=GL++(if r then [] else [⟨3,x,v⟩])):=n2;have HHk':Hid (Calls Tryz.prog 168 #[.agg #[.int .i64 q.lo,.int .i64 q.hi,.slice ta tn tc],.int .i64 v] wr fun e w2=>e=.returned (.bool r)/\Below wr.heap.size wr w2):=HHk;clear n1 n2 hv hr hKL hGL HHk hb1;go_wp2_with fail
    refine cA HHk'.out ?_;rintro e w1 ⟨rfl,hb1⟩;have HK1:Hid (w1.ownsRow W.heap.size 3 1 (.slice ka KL.length kc) KL.length (KL.map (.int .i64))):=own_below HKr.out hb1;have HG1:Hid (w1.ownsRow W.heap.size 41 3 (.slice ga GL.length gc) GL.length (cts GL)):=own_below HGr.out hb1;have HB1:Hid (Below W.heap.size W w1):=bl_next HBr.out hb1;clear hb1 x0 x1 x2 f0
    cases r with
    | true =>
      go_wp2_with (at_builtin;refine append_one w1 (.int .i64 v) rfl _ _ 27 3 (.int .i64 0) 8 rfl und28 info3 rfl W.heap.size _ _ _ (by rfl) HK1.out rfl _ rfl (by rfl) (by unfold maxLen;omega) (by omega) HB1.out.size ?_;intro v2 w2 ho2 hg2 hn2);have HK2:Hid (w2.ownsRow W.heap.size 3 1 v2 (q.kept (vs.take (k+1))).length ((q.kept (vs.take (k+1))).map (.int .i64))):=by
        show World.ownsRow _ _ _ _ _ _ _;rw [HN1.out,List.length_append,List.map_append];exact ho2
      have HB2:Hid (Below W.heap.size W w2):=(HB1.out.alloc HB1.out.size _).grown hg2 (by have:=HB1.out.size;simp;omega) (fun g hg=>(HK1.out.lt g hg).1);have HG2:Hid (w2.ownsRow W.heap.size 41 3 (.slice ga GL.length gc) (q.gone x (vs.take (k+1))).length (cts (q.gone x (vs.take (k+1))))):=by
        show World.ownsRow _ _ _ _ _ _ _;rw [HN2.out];simp only [if_true,List.append_nil];have h1:=own_below HG1.out ((Below.refl w1.heap.size w1).alloc (Nat.le_refl _) (.cells #[.int .i64 v] 3));exact row_kept h1 (fun g hg=>hg2.block g (h1.lt g hg).2 (fun e=>own_apart HK1.out HG1.out (by decide) g e.symm hg))
      clear ho2 hg2 hn2;go_wp2_with fail
      go_roundw
      case rel=>exact ⟨k+1,by go_num,hkn,HK2,HG2,HB2⟩
      case measure=>simp [intOf];omega
    | false =>
      go_wp2_with (at_builtin;refine append_els w1 [.int .i64 3,.int .i64 x,.int .i64 v] 3 rfl (by decide) rfl (.tmp 24) (.tmp 28) 140 41 (.agg #[.int .i64 0,.int .i64 0,.int .i64 0]) 24 rfl und27w info46 rfl W.heap.size _ _ _ (by rfl) HG1.out (one3 _ _ _) _ rfl (by rfl) (by unfold maxLen;omega) (by omega) HB1.out.size ?_;intro v2 w2 ho2 hg2 hn2);have HG2:Hid (w2.ownsRow W.heap.size 41 3 v2 (q.gone x (vs.take (k+1))).length (cts (q.gone x (vs.take (k+1))))):=by
        show World.ownsRow _ _ _ _ _ _ _;rw [HN2.out,List.length_append,cts_append];exact ho2
      have HB2:Hid (Below W.heap.size W w2):=(HB1.out.alloc HB1.out.size _).grown hg2 (by have:=HB1.out.size;simp;omega) (fun g hg=>(HG1.out.lt g hg).1);have HK2:Hid (w2.ownsRow W.heap.size 3 1 (.slice ka KL.length kc) (q.kept (vs.take (k+1))).length ((q.kept (vs.take (k+1))).map (.int .i64))):=by
        show World.ownsRow _ _ _ _ _ _ _;rw [HN1.out];simp only [Bool.false_eq_true,if_false,List.append_nil];have h1:=own_below HK1.out ((Below.refl w1.heap.size w1).alloc (Nat.le_refl _) (.cells #[.int .i64 3,.int .i64 x,.int .i64 v] 41));exact row_kept h1 (fun g hg=>hg2.block g (h1.lt g hg).2 (fun e=>own_apart HK1.out HG1.out (by decide) g hg e.symm))
      clear ho2 hg2 hn2;go_wp2_with fail
      go_roundw
      case rel=>exact ⟨k+1,by go_num,hkn,HK2,HG2,HB2⟩
      case measure=>simp [intOf];omega
  have hke:k=vs.length:=by omega
  subst hke;have hkI:¬ (vs.length:Int)<(vs.length:Int):=by omega
  rw [List.take_length] at HKr HGr ⊢;obtain ⟨KL,hKL⟩:∃ l,q.kept vs=l:=⟨_,rfl⟩;have hkl:=kept_len q vs;rw [hKL] at HKr HCut hkl ⊢;have HIk:Hid (IntsAt wr (.slice ka KL.length kc) KL):=own_ints' HKr.out (by unfold maxLen;omega);obtain ⟨x0,x1,x2⟩:=HC.out wr HBr.out;clear hKL;go_wp2_with fail
  refine cA (HIs.out wr) ?_;rintro e w1 ⟨rfl,hb1⟩;have HB1:Hid (Below W.heap.size W w1):=bl_next HBr.out hb1;have HG1:Hid (w1.ownsRow W.heap.size 41 3 (.slice ga (q.gone x vs).length gc) (q.gone x vs).length (cts (q.gone x vs))):=own_below HGr.out hb1;have HI1:Hid (IntsAt w1 (.slice ka KL.length kc) KL):=HIk.out.below hb1;clear hb1 x0 x1 x2
  by_cases ht0:tn=0
  · have e0:(tn==0)=true:=by simpa using ht0
    by_cases hk0:0<KL.length
    · have hk0I:(0:Int)<(KL.length:Int):=by omega
      have HRf:Hid (R=endsL x vs KL):=by show _=_;rw [HCut.out,if_pos (by rw [e0];simpa using hk0)]
      have HEn:Hid (Calls Tryz.prog 169 #[.int .i64 x,.slice va vs.length vc,.slice ka KL.length kc] w1 (CsOut (endsL x vs KL) w1)):=ends_any x _ _ vs KL w1 (HIv.out w1 HB1.out) HI1.out (by omega) hk0 hvl (by omega);clear ht0;go_wp2_with fail
      refine cA HEn.out ?_;rintro e w2 ⟨v2,rfl,ho2,hb2⟩;have HO2:Hid (w2.ownsRow w1.heap.size 41 3 v2 (endsL x vs KL).length (cts (endsL x vs KL))):=ho2;have HB2:Hid (Below W.heap.size W w2):=bl_next HB1.out hb2;clear ho2 hb2;go_wp2_with fail
      go_ret;rw [HRf.out];exact ⟨_,rfl,own_less HO2.out (Nat.le_trans HB.out.size HB1.out.size),HB.out.trans (HB2.out.mono HB.out.size)⟩
    · have hk0I:¬ (0:Int)<(KL.length:Int):=by omega
      have HRf:Hid (R=q.gone x vs):=by show _=_;rw [HCut.out,if_neg (by simpa using fun _=>hk0)]
      clear ht0;go_wp2_with fail
      go_ret;rw [HRf.out];exact ⟨_,rfl,own_less HG1.out HB.out.size,HB.out.trans (HB1.out.mono HB.out.size)⟩
  · have e0:(tn==0)=false:=by simpa using ht0
    have HRf:Hid (R=q.gone x vs):=by show _=_;rw [HCut.out,e0];rfl
    clear ht0;go_wp2_with fail
    go_ret;rw [HRf.out];exact ⟨_,rfl,own_less HG1.out HB.out.size,HB.out.trans (HB1.out.mono HB.out.size)⟩
def passB (q:Sq) (d:Dm):Bool:=(q.ts.length==0)&&(inB q.lo q.hi d.lo&&inB q.lo q.hi d.hi)
def cutOf (Q:List Sq) (D:List Dm) (k:Nat):List Ct:=match Q[k]?,D[k]? with
  | some q,some d=>if passB q d then [] else q.cutsL (k:Int) d.all
  | _,_=>[]
def cutsUpto (Q:List Sq) (D:List Dm):Nat->List Ct
  | 0=>[]
  | k+1=>cutsUpto Q D k++cutOf Q D k
theorem cutOf_eq {Q:List Sq} {D:List Dm} {k:Nat} (h1:k<Q.length) (h2:k<D.length):cutOf Q D k=if passB Q[k] D[k] then [] else Q[k].cutsL (k:Int) D[k].all:=by
  unfold cutOf;rw [List.getElem?_eq_getElem h1,List.getElem?_eq_getElem h2]
theorem dAll_in {d:Dm} (h:d.Ok):∀ v∈d.all,-2000000000<=v/\v<=2000000000:=fun v hv=>by
  unfold Dm.all dAll dVals at hv;rw [List.mem_filter,List.mem_map] at hv;obtain ⟨⟨j,hj,rfl⟩,_⟩:=hv;have h1:=List.mem_range.1 hj;have:=dN_le d.a d.b;have:=bLow_lo d.a d.b;have:=h.f1;have:=h.f2;omega
theorem dAll_len (d:Dm):d.all.length<=96:=Nat.le_trans (dVals_len _ _ _ _) (dN_le _ _)
theorem endsL_len (x:Int) (vs kept:List Int):(endsL x vs kept).length<=2:=by
  unfold endsL;rw [List.length_append]
  split <;> split <;> simp
theorem cutsL_len (q:Sq) (x:Int) (vs:List Int):(q.cutsL x vs).length<=vs.length+2:=by
  unfold Sq.cutsL
  split
  · have:=endsL_len x vs (q.kept vs);omega
  · have:=gone_len q x vs;omega
theorem cutOf_len (Q:List Sq) (D:List Dm) (k:Nat):(cutOf Q D k).length<=98:=by
  unfold cutOf
  split
  · split
    · simp
    · rename_i q d _ _ _
      have:=cutsL_len q (k:Int) d.all;have:=dAll_len d;omega
  · simp
theorem cutsUpto_len (Q:List Sq) (D:List Dm) (k:Nat):(cutsUpto Q D k).length<=98*k:=by
  induction k with
  | zero=>simp [cutsUpto]
  | succ k ih =>
    have:=cutOf_len Q D k;show (cutsUpto Q D k++cutOf Q D k).length<=_;rw [List.length_append];omega
theorem own_type3 {w:World} {B:Nat} {e t:TypeId} {sz:Nat} {v:Value} {n:Nat} {xs:List Value} {k:Nat} {cs:Array Value} {f:Nat × Nat} (h:w.ownsRow B e sz v n xs) (hk:w.heap[k]?=some (.cells cs t f)) (hne:t≠e):v.ownBlock≠some k:=fun ho=>by
  rcases h.2 with ⟨rfl,_⟩ | ⟨q,cap,cur,rfl,_,hc,_⟩
  · cases ho
  · injection ho with ho
    subst ho;rw [hk] at hc;injection hc with hc;injection hc with _ e2 _;exact hne e2
theorem cts_src {w:World} {B:Nat} {v:Value} {L:List Ct} (h:w.ownsRow B 41 3 v L.length (cts L)):SrcAt w v L.length 3 (cts L):=by
  have h1:∀ u∈cts L,u.oneCell'=true:=by
    intro u hu;unfold cts at hu;rw [List.mem_flatMap] at hu;obtain ⟨d,_,hu⟩:=hu;simp only [Ct.cells,List.mem_cons,List.not_mem_nil,or_false] at hu
    rcases hu with rfl | rfl | rfl <;> rfl
  rcases h.2 with ⟨rfl,hn⟩ | ⟨g,cap,cur,rfl,_,e3,_,_,_,e7⟩
  · exact ⟨none,0,by rw [hn],by rw [cts_len],h1,(fun _=>hn),fun ad ha=>by cases ha⟩
  · refine ⟨_,cap,rfl,by rw [cts_len],h1,(fun hn=>by cases hn),fun ad ha j u hj=>?_⟩
    injection ha with ha;subst ha;rw [addr_none,Nat.zero_add,cell_of e3];have hj2:j<L.length*3:=by
      have:=(List.getElem?_eq_some_iff.1 hj).1
      rwa [cts_len] at this
    have:(cur.toList.take (L.length*3))[j]?=some u:=by rw [e7];exact hj
    rw [List.getElem?_take,if_pos hj2] at this;simpa using this
theorem leftCuts_any (B lp g p:Nat) (nv mv:Value) (s:St) (S:List Sv) (w:World) (h:LfAt B lp g p nv mv s S w) (hts:∀ q∈S,q.ts.length<=9223372036854775807):Calls Tryz.prog 117 #[.pointer (some ⟨lp,0,none⟩)] w (CsOut (cutsUpto (S.map Sv.q) s.now S.length) w):=by
  have hn:S.length<=32:=by rw [h.len];obtain ⟨_,h1⟩:=h.st;exact h1.n32
  have hgood:=h.good;have c1:w.cell? ⟨lp,1,none⟩=some (.slice (some ⟨g,0,none⟩) S.length S.length):=cell_of h.box 1;have HL:Hid (∀ w',Below w.heap.size w w'->LfAt B lp g p nv mv s S w'):=fun w' hb=>h.below hb
  have HX:Hid (∀ k,k<S.length->k<s.now.length):=fun k hk=>by rw [<-h.len];exact hk
  have HGo:Hid (∀ d∈s.now,d.Ok):=hgood;have HTs:Hid (∀ q∈S,q.ts.length<=9223372036854775807):=hts;clear h hgood hts;go_enter Tryz.func117,Tryz.ntmps117;go_wp2_with fail
  clear c1;go_loopw [3,11] (fun ov iv wr=>∃ (k:Nat),iv=.int .i64 (k:Int)/\k<=S.length/\Hid (wr.ownsRow w.heap.size 41 3 ov (cutsUpto (S.map Sv.q) s.now k).length (cts (cutsUpto (S.map Sv.q) s.now k)))/\Hid (Below w.heap.size w wr)) (fun _ iv _=>S.length-(intOf iv).toNat)
  case atStart=>exact ⟨0,rfl,Nat.zero_le _,World.ownsRow_nil _ _ _ _,Below.refl _ _⟩
  case round=>
  obtain ⟨k,rfl,hk,HO,HBr⟩:=hrel;obtain ⟨oa,oc,rfl⟩:=own_slice HO.out
  by_cases hkn:k<S.length
  · have hkI:(k:Int)<(S.length:Int):=by omega
    have hkD:=HX.out k hkn;obtain ⟨f0,f1,f2⟩:=(HL.out wr HBr.out).cell k hkn;have hok:=HGo.out s.now[k] (List.getElem_mem hkD);have hco:cutsUpto (S.map Sv.q) s.now (k+1)=cutsUpto (S.map Sv.q) s.now k++(if passB S[k].q s.now[k] then [] else S[k].q.cutsL (k:Int) s.now[k].all):=by
      show cutsUpto (S.map Sv.q) s.now k++cutOf (S.map Sv.q) s.now k=_;rw [cutOf_eq (by rw [List.length_map];exact hkn) hkD,List.getElem_map]
    have hlen:=cutsUpto_len (S.map Sv.q) s.now k;obtain ⟨fs,hofs,htfs⟩:=(HL.out wr HBr.out).tests k hkn;have hlt:=HTs.out S[k] (List.getElem_mem hkn);have HLo:Hid (∀ w',Below wr.heap.size wr w'->Calls Tryz.prog 119 #[.pointer (some ⟨p,0,none⟩),.int .i64 (k:Int)] w' fun e w2=>e=.returned (.int .i64 s.now[k].lo)/\Below w'.heap.size w' w2):=fun w' hb=>((HL.out wr HBr.out).below hb).los k hkD (Below.refl _ _)
    have HHi:Hid (∀ w',Below wr.heap.size wr w'->Calls Tryz.prog 120 #[.pointer (some ⟨p,0,none⟩),.int .i64 (k:Int)] w' fun e w2=>e=.returned (.int .i64 s.now[k].hi)/\Below w'.heap.size w' w2):=fun w' hb=>((HL.out wr HBr.out).below hb).his k hkD (Below.refl _ _)
    have HVl:Hid (∀ w',Below wr.heap.size wr w'->Calls Tryz.prog 17 #[.pointer (some ⟨p,0,none⟩),.int .i64 (k:Int)] w' (VsOut s.now[k].all w')):=fun w' hb=>((HL.out wr HBr.out).below hb).vals k hkD (Below.refl _ _)
    have hal:=dAll_len s.now[k];have hai:=dAll_in hok;have HBs:Hid (B<=wr.heap.size):=(HL.out wr HBr.out).size;have HLc:Hid (∀ w',Below wr.heap.size wr w'->w'.cell? ⟨lp,0,none⟩=some (.pointer (some ⟨p,0,none⟩))):=fun w' hb=>cell_of ((HL.out wr HBr.out).below hb).box 0
    obtain ⟨q,hq⟩:∃ q,S[k].q=q:=⟨_,rfl⟩;have hqlo:S[k].lo=q.lo:=by rw [<-hq];rfl
    have hqhi:S[k].hi=q.hi:=by rw [<-hq];rfl
    have hqts:S[k].ts=q.ts:=by rw [<-hq];rfl
    rw [hqlo] at f0;rw [hqhi] at f1;rw [hqts] at hofs htfs hlt;rw [hq] at hco;obtain ⟨ta,tc,htv⟩:=own_slice hofs;rw [htv] at f2 hofs;obtain ⟨d,hd⟩:∃ d,s.now[k]=d:=⟨_,rfl⟩;rw [hd] at hco HLo HHi HVl hal hai;obtain ⟨CL,hCL⟩:∃ l,cutsUpto (S.map Sv.q) s.now k=l:=⟨_,rfl⟩;rw [hCL] at hco HO hlen ⊢;have HN:Hid (cutsUpto (S.map Sv.q) s.now (k+1)=CL++(if passB q d then [] else q.cutsL (k:Int) d.all)):=hco;have HSc:Hid (∀ (w':World) (vv:Value),Below wr.heap.size wr w'->IntsAt w' vv d.all->Calls Tryz.prog 142 #[.agg #[.int .i64 q.lo,.int .i64 q.hi,.slice ta q.ts.length tc],.int .i64 (k:Int),vv] w' (CsOut (q.cutsL (k:Int) d.all) w')):=fun w' vv hb hi=>staysCuts_any B q _ fs (k:Int) vv d.all w' (own_below hofs hb) (htfs.kq (Kq.of_below hb HBs.out)) (Nat.le_trans HBs.out hb.size) hlt hi (by omega) hai
    have HIs:Hid (∀ w',Calls Tryz.prog 140 #[.agg #[.int .i64 q.lo,.int .i64 q.hi,.slice ta q.ts.length tc]] w' fun e w2=>e=.returned (.bool (q.ts.length==0))/\Below w'.heap.size w' w2):=fun w'=>isI_any q.lo q.hi ta q.ts.length tc w'
    have HWi:Hid (∀ (v:Int) w',Calls Tryz.prog 141 #[.agg #[.int .i64 q.lo,.int .i64 q.hi],.int .i64 v] w' fun e w2=>e=.returned (.bool (inB q.lo q.hi v))/\Below w'.heap.size w' w2):=fun v w'=>withinB_any q.lo q.hi v w'
    obtain ⟨V,hV⟩:∃ V,wr.alloc (.cells #[.int .i64 q.lo,.int .i64 q.hi,.slice ta q.ts.length tc] 190)=V:=⟨_,rfl⟩;have hbV:Below wr.heap.size wr V:=bAe hV;have gV:V.heap[wr.heap.size]?=some (.cells #[.int .i64 q.lo,.int .i64 q.hi,.slice ta q.ts.length tc] 190 (0,0)):=hAe hV;have hltV:=(hLt gV);have HC:Hid (∀ w',Below V.heap.size V w'->w'.cell? ⟨wr.heap.size,0,none⟩=some (.int .i64 q.lo)/\w'.cell? ⟨wr.heap.size,1,none⟩=some (.int .i64 q.hi)/\w'.cell? ⟨wr.heap.size,2,none⟩=some (.slice ta q.ts.length tc)/\w'.cell? ⟨lp,0,none⟩=some (.pointer (some ⟨p,0,none⟩))):=fun w' hb=>⟨cell_of ((hb.block _ hltV).trans gV) 0,cell_of ((hb.block _ hltV).trans gV) 1,cell_of ((hb.block _ hltV).trans gV) 2,HLc.out w' (hbV.trans (hb.mono hbV.size))⟩
    have HBV:Hid (Below wr.heap.size wr V):=hbV;have HKeep:Hid (∀ w3 w4,Below V.heap.size V w3->w3.ownsRow w.heap.size 41 3 (.slice oa CL.length oc) CL.length (cts CL)->w3.grownBy w4 (Value.slice oa CL.length oc).ownBlock->w4.cell? ⟨wr.heap.size,0,none⟩=some (.int .i64 q.lo)/\w4.cell? ⟨wr.heap.size,1,none⟩=some (.int .i64 q.hi)/\w4.cell? ⟨wr.heap.size,2,none⟩=some (.slice ta q.ts.length tc)/\w4.cell? ⟨lp,0,none⟩=some (.pointer (some ⟨p,0,none⟩))):=fun w3 w4 hb ho hg=>by
      have b1:=(hb.block _ hltV).trans gV;have b2:=((HL.out wr HBr.out).below (hbV.trans (hb.mono hbV.size))).box;have k1:w4.heap[wr.heap.size]?=_:=(hg.block _ (hLt b1) (fun e=>own_type3 ho b1 (by decide) e.symm)).trans b1;have k2:w4.heap[lp]?=_:=(hg.block _ (hLt b2) (fun e=>own_type3 ho b2 (by decide) e.symm)).trans b2;exact ⟨cell_of k1 0,cell_of k1 1,cell_of k1 2,cell_of k2 0⟩
    obtain ⟨il,hil⟩:∃ b,inB q.lo q.hi d.lo=b:=⟨_,rfl⟩;obtain ⟨ih,hih⟩:∃ b,inB q.lo q.hi d.hi=b:=⟨_,rfl⟩;obtain ⟨i0,hi0⟩:∃ b,(q.ts.length==0)=b:=⟨_,rfl⟩;obtain ⟨dl,hdl⟩:∃ b,d.lo=b:=⟨_,rfl⟩;obtain ⟨dh,hdh⟩:∃ b,d.hi=b:=⟨_,rfl⟩;have HW1:=HWi.out dl;have HW2:=HWi.out dh;rw [hdl] at HLo hil;rw [hdh] at HHi hih;rw [hil] at HW1;rw [hih] at HW2;rw [hi0] at HIs;have HW1':Hid (∀ w',Calls Tryz.prog 141 #[.agg #[.int .i64 q.lo,.int .i64 q.hi],.int .i64 dl] w' fun e w2=>e=.returned (.bool il)/\Below w'.heap.size w' w2):=HW1;have HW2':Hid (∀ w',Calls Tryz.prog 141 #[.agg #[.int .i64 q.lo,.int .i64 q.hi],.int .i64 dh] w' fun e w2=>e=.returned (.bool ih)/\Below w'.heap.size w' w2):=HW2;have HPs:Hid (passB q d=(i0&&(il&&ih))):=by show _=_;unfold passB;rw [hdl,hdh,hil,hih,hi0]
    clear hbV gV hltV hco hCL hq hqlo hqhi hqts htv hd hil hih hi0 hdl hdh HW1 HW2 HWi hofs htfs hlt hok hai;go_wp2_with fail
    try rw [hV]
    clear hV f0 f1 f2;have HBd:Hid (Below V.heap.size V V.drew):=(Below.refl _ _).drew;go_cut [42] from 16 to 54 (fun s42 wx=>s42=.bool (!(i0&&(il&&ih)))/\Hid (Below V.heap.size V wx))
    case first=>
      cases i0 with
      | false =>
        refine wp_region_T (fun w'=>w'.cell? ⟨wr.heap.size,0,none⟩=some (.int .i64 q.lo)/\w'.cell? ⟨wr.heap.size,1,none⟩=some (.int .i64 q.hi)/\w'.cell? ⟨wr.heap.size,2,none⟩=some (.slice ta q.ts.length tc)/\w'.cell? ⟨lp,0,none⟩=some (.pointer (some ⟨p,0,none⟩))) (fun _=>True) [] (by kernel_rfl) ⟨HC.out _ HBd.out,trivial⟩ (fun hHeld=>?_);refine tB (i:=0) (oi:=⟨some 16,.load 190 (.tmp 5),_,_,_,_⟩) (v:=?v_ag) ?hy_ag (by assumption) ?rest_ag
        case hy_ag=>(intro w hSw;(try dsimp only at hSw);go_simp;try (with_reducible rfl))
        try simp only [Act.put,q1,q2,q3]
        refine wpAnyT_one (i:=1) (o:=⟨some 17,.call { callee:=.value (.func 140),args:=#[(.tmp 16)],argTypes:=#[190] },_,_,_,_⟩) (by kernel_rfl) rfl (fun K hK=>?_);go_simp;refine cA (HIs.out _) ?_;rintro e w2 ⟨rfl,hb2⟩;go_wp2_with fail
        have HB2:Hid (Below V.heap.size V w2):=HBd.out.trans hb2;clear hb2 hHeld;have hHeld:=(⟨HC.out _ HB2.out,trivial⟩:_/\True);refine hK.out _ _ ⟨hHeld.1,fun _=>trivial⟩ ?_;clear hK K;refine tB (i:=2) (oi:=⟨some 18,.unOp .not 4 (.tmp 17),_,_,_,_⟩) (v:=?v_ab) ?hy_ab (by assumption) ?rest_ab
        case hy_ab=>(intro w hSw;(try dsimp only at hSw);go_simp;try (with_reducible rfl))
        try simp only [Act.put,q1,q2,q3]
        refine tB (i:=3) (oi:=⟨some 19,.move (.tmp 18),_,_,_,_⟩) (v:=?v_am) ?hy_am (by assumption) ?rest_am
        case hy_am=>(intro w hSw;(try dsimp only at hSw);go_simp;try (with_reducible rfl))
        try simp only [Act.put,q1,q2,q3]
        refine tO (i:=4) (oi:=⟨some 20,.fieldAddr 190 (.tmp 5) 0,_,_,_,_⟩) (by assumption) ?rest_ap;try simp only [Act.put,q1,q2,q3]
        refine tO (i:=5) (oi:=⟨some 21,.load 186 (.tmp 20),_,_,_,_⟩) (by assumption) ?rest_ay;try simp only [Act.put,q1,q2,q3]
        refine tO (i:=6) (oi:=⟨some 22,.move (.tmp 0),_,_,_,_⟩) (by assumption) ?rest_ax;try simp only [Act.put,q1,q2,q3]
        refine tO (i:=7) (oi:=⟨some 23,.nilCheck (.tmp 22),_,_,_,_⟩) (by assumption) ?rest_ak;try simp only [Act.put,q1,q2,q3]
        refine tO (i:=8) (oi:=⟨some 24,.fieldAddr 184 (.tmp 23) 0,_,_,_,_⟩) (by assumption) ?rest_ao;try simp only [Act.put,q1,q2,q3]
        refine tO (i:=9) (oi:=⟨some 25,.load 32 (.tmp 24),_,_,_,_⟩) (by assumption) ?rest_ah;try simp only [Act.put,q1,q2,q3]
        refine tO (i:=10) (oi:=⟨some 26,.move (.tmp 4),_,_,_,_⟩) (by assumption) ?rest_bc;try simp only [Act.put,q1,q2,q3]
        refine tO (i:=11) (oi:=⟨some 27,.call { callee:=.value (.func 119),args:=#[(.tmp 25),(.tmp 26)],argTypes:=#[32,3] },_,_,_,_⟩) (by assumption) ?rest_a7;try simp only [Act.put,q1,q2,q3]
        refine tO (i:=12) (oi:=⟨some 28,.call { callee:=.value (.func 141),args:=#[(.tmp 21),(.tmp 27)],argTypes:=#[186,3] },_,_,_,_⟩) (by assumption) ?rest_bv;try simp only [Act.put,q1,q2,q3]
        refine tO (i:=13) (oi:=⟨some 29,.unOp .not 4 (.tmp 28),_,_,_,_⟩) (by assumption) ?rest_bg;try simp only [Act.put,q1,q2,q3]
        refine tB (i:=14) (oi:=⟨some 30,.pick (.tmp 19) ((.const (.bool true))) (.tmp 29),_,_,_,_⟩) (v:=?v_bq) ?hy_bq (by assumption) ?rest_bq
        case hy_bq=>(intro w hSw;(try dsimp only at hSw);go_simp;try (with_reducible rfl))
        try simp only [Act.put,q1,q2,q3]
        refine tB (i:=15) (oi:=⟨some 31,.move (.tmp 30),_,_,_,_⟩) (v:=?v_bw) ?hy_bw (by assumption) ?rest_bw
        case hy_bw=>(intro w hSw;(try dsimp only at hSw);go_simp;try (with_reducible rfl))
        try simp only [Act.put,q1,q2,q3]
        refine tO (i:=16) (oi:=⟨some 32,.fieldAddr 190 (.tmp 5) 0,_,_,_,_⟩) (by assumption) ?rest_bu;try simp only [Act.put,q1,q2,q3]
        refine tO (i:=17) (oi:=⟨some 33,.load 186 (.tmp 32),_,_,_,_⟩) (by assumption) ?rest_bh;try simp only [Act.put,q1,q2,q3]
        refine tO (i:=18) (oi:=⟨some 34,.move (.tmp 0),_,_,_,_⟩) (by assumption) ?rest_ba;try simp only [Act.put,q1,q2,q3]
        refine tO (i:=19) (oi:=⟨some 35,.nilCheck (.tmp 34),_,_,_,_⟩) (by assumption) ?rest_bt;try simp only [Act.put,q1,q2,q3]
        refine tO (i:=20) (oi:=⟨some 36,.fieldAddr 184 (.tmp 35) 0,_,_,_,_⟩) (by assumption) ?rest_br;try simp only [Act.put,q1,q2,q3]
        refine tO (i:=21) (oi:=⟨some 37,.load 32 (.tmp 36),_,_,_,_⟩) (by assumption) ?rest_a0;try simp only [Act.put,q1,q2,q3]
        refine tO (i:=22) (oi:=⟨some 38,.move (.tmp 4),_,_,_,_⟩) (by assumption) ?rest_a3;try simp only [Act.put,q1,q2,q3]
        refine tO (i:=23) (oi:=⟨some 39,.call { callee:=.value (.func 120),args:=#[(.tmp 37),(.tmp 38)],argTypes:=#[32,3] },_,_,_,_⟩) (by assumption) ?rest_bj;try simp only [Act.put,q1,q2,q3]
        refine tO (i:=24) (oi:=⟨some 40,.call { callee:=.value (.func 141),args:=#[(.tmp 33),(.tmp 39)],argTypes:=#[186,3] },_,_,_,_⟩) (by assumption) ?rest_a5;try simp only [Act.put,q1,q2,q3]
        refine tO (i:=25) (oi:=⟨some 41,.unOp .not 4 (.tmp 40),_,_,_,_⟩) (by assumption) ?rest_a9;try simp only [Act.put,q1,q2,q3]
        refine tB (i:=26) (oi:=⟨some 42,.pick (.tmp 31) ((.const (.bool true))) (.tmp 41),_,_,_,_⟩) (v:=?v_bo) ?hy_bo (by assumption) ?rest_bo
        case hy_bo=>(intro w hSw;(try dsimp only at hSw);go_simp;try (with_reducible rfl))
        try simp only [Act.put,q1,q2,q3]
        refine wpAnyT_done (by kernel_rfl) ?_ _;go_wp2_with fail
        go_meet;exact ⟨rfl,HB2⟩
      | true=>
      cases il with
      | false =>
        refine wp_region_T (fun w'=>w'.cell? ⟨wr.heap.size,0,none⟩=some (.int .i64 q.lo)/\w'.cell? ⟨wr.heap.size,1,none⟩=some (.int .i64 q.hi)/\w'.cell? ⟨wr.heap.size,2,none⟩=some (.slice ta q.ts.length tc)/\w'.cell? ⟨lp,0,none⟩=some (.pointer (some ⟨p,0,none⟩))) (fun _=>True) [] (by kernel_rfl) ⟨HC.out _ HBd.out,trivial⟩ (fun hHeld=>?_);refine tB (i:=0) (oi:=⟨some 16,.load 190 (.tmp 5),_,_,_,_⟩) (v:=?v_aw) ?hy_aw (by assumption) ?rest_aw
        case hy_aw=>(intro w hSw;(try dsimp only at hSw);go_simp;try (with_reducible rfl))
        try simp only [Act.put,q1,q2,q3]
        refine wpAnyT_one (i:=1) (o:=⟨some 17,.call { callee:=.value (.func 140),args:=#[(.tmp 16)],argTypes:=#[190] },_,_,_,_⟩) (by kernel_rfl) rfl (fun K hK=>?_);go_simp;refine cA (HIs.out _) ?_;rintro e w2 ⟨rfl,hb2⟩;go_wp2_with fail
        have HB2:Hid (Below V.heap.size V w2):=HBd.out.trans hb2;clear hb2 hHeld;have hHeld:=(⟨HC.out _ HB2.out,trivial⟩:_/\True);refine hK.out _ _ ⟨hHeld.1,fun _=>trivial⟩ ?_;clear hK K;refine tB (i:=2) (oi:=⟨some 18,.unOp .not 4 (.tmp 17),_,_,_,_⟩) (v:=?v_av) ?hy_av (by assumption) ?rest_av
        case hy_av=>(intro w hSw;(try dsimp only at hSw);go_simp;try (with_reducible rfl))
        try simp only [Act.put,q1,q2,q3]
        refine tB (i:=3) (oi:=⟨some 19,.move (.tmp 18),_,_,_,_⟩) (v:=?v_au) ?hy_au (by assumption) ?rest_au
        case hy_au=>(intro w hSw;(try dsimp only at hSw);go_simp;try (with_reducible rfl))
        try simp only [Act.put,q1,q2,q3]
        refine tB (i:=4) (oi:=⟨some 20,.fieldAddr 190 (.tmp 5) 0,_,_,_,_⟩) (v:=?v_as) ?hy_as (by assumption) ?rest_as
        case hy_as=>(intro w hSw;(try dsimp only at hSw);go_simp;try (with_reducible rfl))
        try simp only [Act.put,q1,q2,q3]
        refine tB (i:=5) (oi:=⟨some 21,.load 186 (.tmp 20),_,_,_,_⟩) (v:=?v_ae) ?hy_ae (by assumption) ?rest_ae
        case hy_ae=>(intro w hSw;(try dsimp only at hSw);go_simp;try (with_reducible rfl))
        try simp only [Act.put,q1,q2,q3]
        refine tB (i:=6) (oi:=⟨some 22,.move (.tmp 0),_,_,_,_⟩) (v:=?v_az) ?hy_az (by assumption) ?rest_az
        case hy_az=>(intro w hSw;(try dsimp only at hSw);go_simp;try (with_reducible rfl))
        try simp only [Act.put,q1,q2,q3]
        refine tB (i:=7) (oi:=⟨some 23,.nilCheck (.tmp 22),_,_,_,_⟩) (v:=?v_ai) ?hy_ai (by assumption) ?rest_ai
        case hy_ai=>(intro w hSw;(try dsimp only at hSw);go_simp;try (with_reducible rfl))
        try simp only [Act.put,q1,q2,q3]
        refine tB (i:=8) (oi:=⟨some 24,.fieldAddr 184 (.tmp 23) 0,_,_,_,_⟩) (v:=?v_ar) ?hy_ar (by assumption) ?rest_ar
        case hy_ar=>(intro w hSw;(try dsimp only at hSw);go_simp;try (with_reducible rfl))
        try simp only [Act.put,q1,q2,q3]
        refine tB (i:=9) (oi:=⟨some 25,.load 32 (.tmp 24),_,_,_,_⟩) (v:=?v_aq) ?hy_aq (by assumption) ?rest_aq
        case hy_aq=>(intro w hSw;(try dsimp only at hSw);go_simp;try (with_reducible rfl))
        try simp only [Act.put,q1,q2,q3]
        refine tB (i:=10) (oi:=⟨some 26,.move (.tmp 4),_,_,_,_⟩) (v:=?v_bs) ?hy_bs (by assumption) ?rest_bs
        case hy_bs=>(intro w hSw;(try dsimp only at hSw);go_simp;try (with_reducible rfl))
        try simp only [Act.put,q1,q2,q3]
        refine wpAnyT_one (i:=11) (o:=⟨some 27,.call { callee:=.value (.func 119),args:=#[(.tmp 25),(.tmp 26)],argTypes:=#[32,3] },_,_,_,_⟩) (by kernel_rfl) rfl (fun K hK=>?_);go_simp;refine cA (HLo.out _ (HBV.out.trans (HB2.out.mono HBV.out.size))) ?_;rintro e w3 ⟨rfl,hb3⟩;go_wp2_with fail
        have HB3:Hid (Below V.heap.size V w3):=bl_next HB2.out hb3;clear hb3 hHeld;have hHeld:=(⟨HC.out _ HB3.out,trivial⟩:_/\True);refine hK.out _ _ ⟨hHeld.1,fun _=>trivial⟩ ?_;clear hK K;refine wpAnyT_one (i:=12) (o:=⟨some 28,.call { callee:=.value (.func 141),args:=#[(.tmp 21),(.tmp 27)],argTypes:=#[186,3] },_,_,_,_⟩) (by kernel_rfl) rfl (fun K hK=>?_);go_simp;refine cA (HW1'.out _) ?_;rintro e w4 ⟨rfl,hb4⟩;go_wp2_with fail
        have HB4:Hid (Below V.heap.size V w4):=bl_next HB3.out hb4;clear hb4 hHeld;have hHeld:=(⟨HC.out _ HB4.out,trivial⟩:_/\True);refine hK.out _ _ ⟨hHeld.1,fun _=>trivial⟩ ?_;clear hK K;refine tB (i:=13) (oi:=⟨some 29,.unOp .not 4 (.tmp 28),_,_,_,_⟩) (v:=?v_bp) ?hy_bp (by assumption) ?rest_bp
        case hy_bp=>(intro w hSw;(try dsimp only at hSw);go_simp;try (with_reducible rfl))
        try simp only [Act.put,q1,q2,q3]
        refine tB (i:=14) (oi:=⟨some 30,.pick (.tmp 19) ((.const (.bool true))) (.tmp 29),_,_,_,_⟩) (v:=?v_bb) ?hy_bb (by assumption) ?rest_bb
        case hy_bb=>(intro w hSw;(try dsimp only at hSw);go_simp;try (with_reducible rfl))
        try simp only [Act.put,q1,q2,q3]
        refine tB (i:=15) (oi:=⟨some 31,.move (.tmp 30),_,_,_,_⟩) (v:=?v_a1) ?hy_a1 (by assumption) ?rest_a1
        case hy_a1=>(intro w hSw;(try dsimp only at hSw);go_simp;try (with_reducible rfl))
        try simp only [Act.put,q1,q2,q3]
        refine tO (i:=16) (oi:=⟨some 32,.fieldAddr 190 (.tmp 5) 0,_,_,_,_⟩) (by assumption) ?rest_bm;try simp only [Act.put,q1,q2,q3]
        refine tO (i:=17) (oi:=⟨some 33,.load 186 (.tmp 32),_,_,_,_⟩) (by assumption) ?rest_be;try simp only [Act.put,q1,q2,q3]
        refine tO (i:=18) (oi:=⟨some 34,.move (.tmp 0),_,_,_,_⟩) (by assumption) ?rest_bl;try simp only [Act.put,q1,q2,q3]
        refine tO (i:=19) (oi:=⟨some 35,.nilCheck (.tmp 34),_,_,_,_⟩) (by assumption) ?rest_a8;try simp only [Act.put,q1,q2,q3]
        refine tO (i:=20) (oi:=⟨some 36,.fieldAddr 184 (.tmp 35) 0,_,_,_,_⟩) (by assumption) ?rest_bd;try simp only [Act.put,q1,q2,q3]
        refine tO (i:=21) (oi:=⟨some 37,.load 32 (.tmp 36),_,_,_,_⟩) (by assumption) ?rest_bf;try simp only [Act.put,q1,q2,q3]
        refine tO (i:=22) (oi:=⟨some 38,.move (.tmp 4),_,_,_,_⟩) (by assumption) ?rest_a6;try simp only [Act.put,q1,q2,q3]
        refine tO (i:=23) (oi:=⟨some 39,.call { callee:=.value (.func 120),args:=#[(.tmp 37),(.tmp 38)],argTypes:=#[32,3] },_,_,_,_⟩) (by assumption) ?rest_a4;try simp only [Act.put,q1,q2,q3]
        refine tO (i:=24) (oi:=⟨some 40,.call { callee:=.value (.func 141),args:=#[(.tmp 33),(.tmp 39)],argTypes:=#[186,3] },_,_,_,_⟩) (by assumption) ?rest_bk;try simp only [Act.put,q1,q2,q3]
        refine tO (i:=25) (oi:=⟨some 41,.unOp .not 4 (.tmp 40),_,_,_,_⟩) (by assumption) ?rest_a2;try simp only [Act.put,q1,q2,q3]
        refine tB (i:=26) (oi:=⟨some 42,.pick (.tmp 31) ((.const (.bool true))) (.tmp 41),_,_,_,_⟩) (v:=?v_bn) ?hy_bn (by assumption) ?rest_bn
        case hy_bn=>(intro w hSw;(try dsimp only at hSw);go_simp;try (with_reducible rfl))
        try simp only [Act.put,q1,q2,q3]
        refine wpAnyT_done (by kernel_rfl) ?_ _;go_wp2_with fail
        go_meet;exact ⟨rfl,HB4⟩
      | true =>
        go_region_held3 (fun w'=>w'.cell? ⟨wr.heap.size,0,none⟩=some (.int .i64 q.lo)/\w'.cell? ⟨wr.heap.size,1,none⟩=some (.int .i64 q.hi)/\w'.cell? ⟨wr.heap.size,2,none⟩=some (.slice ta q.ts.length tc)/\w'.cell? ⟨lp,0,none⟩=some (.pointer (some ⟨p,0,none⟩)))
          (first | exact HC.out _ HB6.out | exact HC.out _ HB5.out | exact HC.out _ HB4.out | exact HC.out _ HB3.out | exact HC.out _ HB2.out | exact HC.out _ HBd.out)
          (first | (go_at_call 140;refine cA (HIs.out _) ?_;rintro e w2 ⟨rfl,hb2⟩;(have HB2:Hid (Below V.heap.size V w2):=HBd.out.trans hb2);clear hb2) | (go_at_call 119;refine cA (HLo.out w2 (HBV.out.trans (HB2.out.mono HBV.out.size))) ?_;rintro e w3 ⟨rfl,hb3⟩;(have HB3:Hid (Below V.heap.size V w3):=bl_next HB2.out hb3);clear hb3) | (go_at_call 141;refine cA (HW1'.out w3) ?_;rintro e w4 ⟨rfl,hb4⟩;(have HB4:Hid (Below V.heap.size V w4):=bl_next HB3.out hb4);clear hb4) | (go_at_call 120;refine cA (HHi.out w4 (HBV.out.trans (HB4.out.mono HBV.out.size))) ?_;rintro e w5 ⟨rfl,hb5⟩;(have HB5:Hid (Below V.heap.size V w5):=bl_next HB4.out hb5);clear hb5) | (go_at_call 141;refine cA (HW2'.out w5) ?_;rintro e w6 ⟨rfl,hb6⟩;(have HB6:Hid (Below V.heap.size V w6):=bl_next HB5.out hb6);clear hb6))
        go_wp2_with fail
        go_meet;exact ⟨rfl,HB6⟩
    case rest=>
    obtain ⟨rfl,HBx⟩:=hcut;rename World=>wx;have HBrx:Hid (Below wr.heap.size wr wx):=HBV.out.trans (HBx.out.mono HBV.out.size);obtain ⟨pb,hpb⟩:∃ b,(i0&&(il&&ih))=b:=⟨_,rfl⟩;rw [hpb] at HPs ⊢;clear hpb HIs HLo HHi HW1' HW2'
    cases pb with
    | true =>
      have HN2:Hid (cutsUpto (S.map Sv.q) s.now (k+1)=CL):=by show _=_;rw [HN.out,HPs.out];simp
      go_wp2_with fail
      go_roundw
      case rel=>exact ⟨k+1,by go_num,hkn,(by show World.ownsRow _ _ _ _ _ _ _;rw [HN2.out];exact own_below HO.out HBrx.out),bl_next HBr.out HBrx.out⟩
      case measure=>simp [intOf];omega
    | false =>
      have HN2:Hid (cutsUpto (S.map Sv.q) s.now (k+1)=CL++q.cutsL (k:Int) d.all):=by show _=_;rw [HN.out,HPs.out];simp
      have hcl:=cutsL_len q (k:Int) d.all;obtain ⟨NL,hNL⟩:∃ l,q.cutsL (k:Int) d.all=l:=⟨_,rfl⟩;rw [hNL] at HSc HN2 hcl;clear hNL HN HPs;have HBd2:Hid (Below V.heap.size V wx.drew):=HBx.out.drew;have HOd:Hid (wx.drew.ownsRow w.heap.size 41 3 (.slice oa CL.length oc) CL.length (cts CL)):=own_below HO.out HBrx.out.drew;go_wp2_with fail
      refine wp_region_T (fun w'=>w'.cell? ⟨wr.heap.size,0,none⟩=some (.int .i64 q.lo)/\w'.cell? ⟨wr.heap.size,1,none⟩=some (.int .i64 q.hi)/\w'.cell? ⟨wr.heap.size,2,none⟩=some (.slice ta q.ts.length tc)/\w'.cell? ⟨lp,0,none⟩=some (.pointer (some ⟨p,0,none⟩))) (fun _=>True) [10] (by kernel_rfl) ⟨HC.out _ HBd2.out,trivial⟩ (fun hHeld=>?_);generalize wx.drew=U at HBd2 HOd hHeld ⊢
      refine tB (i:=0) (oi:=⟨some 43,.move (.tmp 3),_,_,_,_⟩) (v:=?v_at) ?hy_at (by assumption) ?rest_at
      case hy_at=>(intro w hSw;(try dsimp only at hSw);go_simp;try (with_reducible rfl))
      try simp only [Act.put,q1,q2,q3]
      refine tB (i:=1) (oi:=⟨some 44,.load 190 (.tmp 5),_,_,_,_⟩) (v:=?v_ad) ?hy_ad (by assumption) ?rest_ad
      case hy_ad=>(intro w hSw;(try dsimp only at hSw);go_simp;try (with_reducible rfl))
      try simp only [Act.put,q1,q2,q3]
      refine tB (i:=2) (oi:=⟨some 45,.move (.tmp 4),_,_,_,_⟩) (v:=?v_an) ?hy_an (by assumption) ?rest_an
      case hy_an=>(intro w hSw;(try dsimp only at hSw);go_simp;try (with_reducible rfl))
      try simp only [Act.put,q1,q2,q3]
      refine tB (i:=3) (oi:=⟨some 46,.move (.tmp 0),_,_,_,_⟩) (v:=?v_af) ?hy_af (by assumption) ?rest_af
      case hy_af=>(intro w hSw;(try dsimp only at hSw);go_simp;try (with_reducible rfl))
      try simp only [Act.put,q1,q2,q3]
      refine tB (i:=4) (oi:=⟨some 47,.nilCheck (.tmp 46),_,_,_,_⟩) (v:=?v_ac) ?hy_ac (by assumption) ?rest_ac
      case hy_ac=>(intro w hSw;(try dsimp only at hSw);go_simp;try (with_reducible rfl))
      try simp only [Act.put,q1,q2,q3]
      refine tB (i:=5) (oi:=⟨some 48,.fieldAddr 184 (.tmp 47) 0,_,_,_,_⟩) (v:=?v_al) ?hy_al (by assumption) ?rest_al
      case hy_al=>(intro w hSw;(try dsimp only at hSw);go_simp;try (with_reducible rfl))
      try simp only [Act.put,q1,q2,q3]
      refine tB (i:=6) (oi:=⟨some 49,.load 32 (.tmp 48),_,_,_,_⟩) (v:=?v_aa) ?hy_aa (by assumption) ?rest_aa
      case hy_aa=>(intro w hSw;(try dsimp only at hSw);go_simp;try (with_reducible rfl))
      try simp only [Act.put,q1,q2,q3]
      refine tB (i:=7) (oi:=⟨some 50,.move (.tmp 4),_,_,_,_⟩) (v:=?v_aj) ?hy_aj (by assumption) ?rest_aj
      case hy_aj=>(intro w hSw;(try dsimp only at hSw);go_simp;try (with_reducible rfl))
      try simp only [Act.put,q1,q2,q3]
      refine wpAnyT_one (i:=8) (o:=⟨some 51,.call { callee:=.value (.func 17),args:=#[(.tmp 49),(.tmp 50)],argTypes:=#[32,3] },_,_,_,_⟩) (by kernel_rfl) rfl (fun K hK=>?_);go_simp;refine cA (HVl.out _ (HBV.out.trans (HBd2.out.mono HBV.out.size))) ?_;rintro e w2 ⟨vv,rfl,ho2,hb2⟩;go_wp2_with fail
      have HI2:Hid (IntsAt w2 vv d.all):=own_ints' ho2 (by unfold maxLen;omega);have HB2:Hid (Below V.heap.size V w2):=bl_next HBd2.out hb2;have HO2:Hid (w2.ownsRow w.heap.size 41 3 (.slice oa CL.length oc) CL.length (cts CL)):=own_below HOd.out hb2;clear hb2 hHeld ho2;have hHeld:=(⟨HC.out _ HB2.out,trivial⟩:_/\True);refine hK.out _ _ ⟨hHeld.1,fun _=>trivial⟩ ?_;clear hK K;refine wpAnyT_one (i:=9) (o:=⟨some 52,.call { callee:=.value (.func 142),args:=#[(.tmp 44),(.tmp 45),(.tmp 51)],argTypes:=#[190,3,27] },_,_,_,_⟩) (by kernel_rfl) rfl (fun K hK=>?_);go_simp;refine cA (HSc.out _ vv (HBV.out.trans (HB2.out.mono HBV.out.size)) HI2.out) ?_;rintro e w3 ⟨cv,rfl,ho3,hb3⟩;go_wp2_with fail
      have HS3:Hid (SrcAt w3 cv NL.length 3 (cts NL)):=cts_src ho3;have HB3:Hid (Below V.heap.size V w3):=bl_next HB2.out hb3;have HO3:Hid (w3.ownsRow w.heap.size 41 3 (.slice oa CL.length oc) CL.length (cts CL)):=own_below HO2.out hb3;clear hb3 hHeld ho3;have hHeld:=(⟨HC.out _ HB3.out,trivial⟩:_/\True);refine hK.out _ _ ⟨hHeld.1,fun _=>trivial⟩ ?_;clear hK K;refine wpAnyT_late (i:=10) (o:=⟨some 53,.call { callee:=.builtin .append,args:=#[(.tmp 43),(.tmp 52)],argTypes:=#[140,140] },_,_,_,_⟩) (by kernel_rfl) rfl (by kernel_rfl) (fun K hK=>?_)
      refine op_append_src w3 (.tmp 43) (.tmp 52) 140 41 (.agg #[.int .i64 0,.int .i64 0,.int .i64 0]) 3 24 rfl und27w info46 rfl (by decide) w.heap.size _ _ CL.length NL.length (cts CL) (cts NL) (by rfl) (by rfl) HO3.out HS3.out (by unfold maxLen;omega) (by omega) (Nat.le_trans HBr.out.size (Nat.le_trans HBV.out.size HB3.out.size)) (by rfl) ?_;intro v4 w4 g1 g2 g3;have HO4:Hid (w4.ownsRow w.heap.size 41 3 v4 (CL.length+NL.length) (cts CL++cts NL)):=g1;have HB4:Hid (Below w.heap.size w w4):=(HBr.out.trans ((HBV.out.trans (HB3.out.mono HBV.out.size)).mono HBr.out.size)).grown g2 (Nat.le_trans HBr.out.size (Nat.le_trans HBV.out.size HB3.out.size)) (fun g hg=>(HO3.out.lt g hg).1)
      have hk4:w4.cell? ⟨wr.heap.size,0,none⟩=some (.int .i64 q.lo)/\w4.cell? ⟨wr.heap.size,1,none⟩=some (.int .i64 q.hi)/\w4.cell? ⟨wr.heap.size,2,none⟩=some (.slice ta q.ts.length tc)/\w4.cell? ⟨lp,0,none⟩=some (.pointer (some ⟨p,0,none⟩)):=HKeep.out w3 w4 HB3.out HO3.out g2;clear g1 g2 g3 hHeld;refine hK.out _ _ hk4 ?_;have hHeld:=(⟨hk4,trivial⟩:_/\True);clear hK K;try simp only [Act.put,q1,q2,q3]
      refine wpAnyT_late (i:=11) (o:=⟨some 3,.assign (.tmp 53),_,_,_,_⟩) (by kernel_rfl) rfl (by kernel_rfl) (fun K hK=>?_);go_simp;refine hK.out _ _ ?sh_bi ?rest_bi
      case sh_bi=>((try dsimp only);(first | exact hHeld.1 | skip))
      clear hK K;try simp only [Act.put,q1,q2,q3]
      refine wpAnyT_done (by kernel_rfl) ?_ _;go_wp2_with fail
      go_roundw
      case rel=>exact ⟨k+1,by go_num,hkn,(by show World.ownsRow _ _ _ _ _ _ _;rw [HN2.out,List.length_append,cts_append];exact HO4.out),HB4⟩
      case measure=>simp [intOf];omega
  · have hke:k=S.length:=by omega
    subst hke;have hkI:¬ (S.length:Int)<(S.length:Int):=by omega
    go_wp2_with fail
    go_ret;exact ⟨_,rfl,HO.out,HBr.out⟩
end Go.Proofs.YtjnckfchgcmmpaaGreatDoor
namespace Go.Proofs.YtjnckfchgcmmpaaGreatDoor
open Go.RowKit
def clash (vs:List Int) (x y:Int):Bool:=decide (0<=x)&&(decide (x<(vs.length:Int))&&(decide (0<=y)&&(decide (y<(vs.length:Int))&&decide (vs.getD x.toNat 0=vs.getD y.toNat 0))))
def DifTo (xs vs:List Int) (n:Nat):Prop:=∀ i k,i<n->k<i->clash vs (xs.getD i 0) (xs.getD k 0)=false
def Dif (xs vs:List Int):Prop:=DifTo xs vs xs.length
end Go.Proofs.YtjnckfchgcmmpaaGreatDoor
namespace Go.Proofs.YtjnckfchgcmmpaaGreatDoor
open Go.RowKit
set_option maxRecDepth 10000
set_option maxHeartbeats 8000000
def ruleQ (D:List Dm) (c:Md.Cn) (Q:List Sq):Option (List Sq):=
  if c.kind=1 then linQ D c Q else if c.kind=2 then neQ D c Q else if c.kind=3 then some Q else if c.kind=4 then some (elemQ D c Q) else if c.kind=5 then maxQ false D c Q
  else if c.kind=6 then maxQ true D c Q else if c.kind=7 then reifQ D c Q else if c.kind=8 then tableQ D c Q else countQ D c Q
theorem c0_lists (c:Md.Cn):(c0 c).terms=c.terms/\(c0 c).xs=c.xs/\(c0 c).table=c.table/\(c0 c).rows=c.rows:=by
  unfold c0
  split <;> exact ⟨rfl,rfl,rfl,rfl⟩
theorem rule_any (B lp g p:Nat) (nv mv:Value) (s:St) (Q:List Sq) (w:World) (h:LfQ B lp g p nv mv s Q w) (hts:∀ q∈Q,q.ts.length<=1000) (c:Md.Cn) (vt vx vb vr:Value) (hC:CnU B w c vt vx vb vr) (hf:Md.Fit (c0 c) s.now.length) (fn:Nat) (hfn:(fn:Int)=130+c.kind):Calls Tryz.prog fn #[.pointer (some ⟨lp,0,none⟩),cnVal c vt vx vb vr] w (RlOut B lp g p nv mv s (ruleQ s.now c Q) w):=by
  obtain ⟨e1,e2,e3,e4,e5,e6⟩:=c0_k c;obtain ⟨l1,l2,l3,l4⟩:=c0_lists c;have fk:=hf.kind;have fop:=hf.op;have fx:=hf.x;have fy:=hf.y;have ftx:=hf.tx;have fxs:=hf.xs;have ftc:=hf.tc;have ftl:=hf.tl;have fxl:=hf.xl;have fxp:=hf.xp;have fbl:=hf.bl;have frl:=hf.rl;have frr:=hf.rr;have fkk:=hf.k;rw [e1] at fk fop fxp;rw [e2] at fop;rw [e4] at fx;rw [e5] at fy;rw [l1] at ftx ftc ftl;rw [l2] at fxs fxl fxp frr;rw [l3] at fbl;rw [l4] at frl frr;rw [e6] at fkk;have hk:c.kind=1∨c.kind=2∨c.kind=3∨c.kind=4∨c.kind=5∨c.kind=6∨c.kind=7∨c.kind=8∨c.kind=9:=by omega
  have hR:∀ k:Int,c.kind=k->ruleQ s.now c Q=if k=1 then linQ s.now c Q else if k=2 then neQ s.now c Q else if k=3 then some Q else if k=4 then some (elemQ s.now c Q) else if k=5 then maxQ false s.now c Q else if k=6 then maxQ true s.now c Q else if k=7 then reifQ s.now c Q else if k=8 then tableQ s.now c Q else countQ s.now c Q:=fun k e=>by unfold ruleQ;rw [e]
  rcases hk with e | e | e | e | e | e | e | e | e <;> (have hr:=hR _ e;rw [hr];rw [e] at hfn fkk fop fxp;clear hR hr)
  · obtain rfl:fn=131:=by omega
    exact lin_any B lp g p nv mv s Q w h c vt vx vb vr hC.k (fop rfl) ftl ftc ftx
  · obtain rfl:fn=132:=by omega
    exact neRule_any B lp g p nv mv s Q w h hts c vt vx vb vr fx fy fkk
  · obtain rfl:fn=133:=by omega
    refine (allDiff_any lp c vt vx vb vr w).mono ?_;rintro e w' ⟨rfl,hb⟩;exact ⟨rfl,fun Q' hq=>by injection hq with hq;rw [<-hq];exact h.below hb,Kq.of_below hb h.size⟩
  · obtain rfl:fn=134:=by omega
    exact elem_any B lp g p nv mv s Q w h hts c vt vx vb vr hC.k fx fy fbl
  · obtain rfl:fn=135:=by omega
    exact max_any B lp g p nv mv s Q w h c vt vx vb vr hC.k fy fxs fxl (fxp rfl)
  · obtain rfl:fn=136:=by omega
    exact min_any B lp g p nv mv s Q w h c vt vx vb vr hC.k fy fxs fxl (fxp rfl)
  · obtain rfl:fn=137:=by omega
    exact reif_any B lp g p nv mv s Q w h c vt vx vb vr hC.k fx ftl ftc ftx fkk
  · obtain rfl:fn=138:=by omega
    exact table_any B lp g p nv mv s Q w h hts c vt vx vb vr hC fxs fxl frr frl
  · obtain rfl:fn=139:=by omega
    exact count_any B lp g p nv mv s Q w h hts c vt vx vb vr hC.k fxs fxl fkk
theorem fit_check {c:Md.Cn} {n:Nat} (h:(Md.check (stM c n)).2=0):Md.Fit (c0 c) n:=by
  have hne:∀ {m:Nat} {f:Nat->Int} {i:Nat},Md.firstBad m f=some i->f i≠0:=fun {m f i} hh=>by
    have:=List.find?_some hh;simpa using this
  unfold Md.check at h
  split at h
  · cases h
  · split at h
    · rename_i i hi
      exact absurd h (hne hi)
    · split at h
      · cases h
      · split at h
        · rename_i i hi
          exact absurd h (hne hi)
        · rename_i hn
          unfold Md.firstBad at hn;rw [List.find?_eq_none] at hn;have h0:=hn 0 (List.mem_range.2 (Nat.zero_lt_succ _));have hl:(stM c n).vars.length=n:=by unfold stM;simp
          rw [hl] at h0;have h1:Md.fault (c0 c) n=0:=by simpa [Md.cFault,stM] using h0
          exact Md.fit_of h1
def rulesV:Value:=.agg #[.nilFunc,.func (.func 131) #[] #[],.func (.func 132) #[] #[],.func (.func 133) #[] #[],.func (.func 134) #[] #[],.func (.func 135) #[] #[],.func (.func 136) #[] #[],.func (.func 137) #[] #[],.func (.func 138) #[] #[],.func (.func 139) #[] #[]]
theorem allRules_any (w:World):Calls Tryz.prog 116 #[] w fun e w'=>e=.returned rulesV/\Below w.heap.size w w':=by
  go_enter Tryz.func116,Tryz.ntmps116;go_wp2_with fail
  exact bodyPost_ret (v:=rulesV) (by simp [results,Tryz.results116,go_sem];try rfl) rfl ⟨rfl,(Below.refl _ _).alloc (Nat.le_refl _) _⟩
theorem rule_at (k:Int) (h1:1<=k) (h2:k<=9):∃ fn:Nat,(fn:Int)=130+k/\Enters Tryz.prog fn/\(∀ w,(Instr.index 168 rulesV (.int .i64 k)).run Tryz.prog w=.ok (.agg #[.func (.func fn) #[] #[]]) w):=by
  have hk:k=1∨k=2∨k=3∨k=4∨k=5∨k=6∨k=7∨k=8∨k=9:=by omega
  rcases hk with rfl | rfl | rfl | rfl | rfl | rfl | rfl | rfl | rfl
  · exact ⟨131,rfl,enters_of Tryz.func131 (by kernel_rfl) rfl,fun w=>by kernel_rfl⟩
  · exact ⟨132,rfl,enters_of Tryz.func132 (by kernel_rfl) rfl,fun w=>by kernel_rfl⟩
  · exact ⟨133,rfl,enters_of Tryz.func133 (by kernel_rfl) rfl,fun w=>by kernel_rfl⟩
  · exact ⟨134,rfl,enters_of Tryz.func134 (by kernel_rfl) rfl,fun w=>by kernel_rfl⟩
  · exact ⟨135,rfl,enters_of Tryz.func135 (by kernel_rfl) rfl,fun w=>by kernel_rfl⟩
  · exact ⟨136,rfl,enters_of Tryz.func136 (by kernel_rfl) rfl,fun w=>by kernel_rfl⟩
  · exact ⟨137,rfl,enters_of Tryz.func137 (by kernel_rfl) rfl,fun w=>by kernel_rfl⟩
  · exact ⟨138,rfl,enters_of Tryz.func138 (by kernel_rfl) rfl,fun w=>by kernel_rfl⟩
  · exact ⟨139,rfl,enters_of Tryz.func139 (by kernel_rfl) rfl,fun w=>by kernel_rfl⟩
theorem rule_fld (fn:Nat):∀ w,(Instr.field 167 (.agg #[.func (.func fn) #[] #[]]) 0).run Tryz.prog w=.ok (.func (.func fn) #[] #[]) w:=fun w=>by kernel_rfl
end Go.Proofs.YtjnckfchgcmmpaaGreatDoor
