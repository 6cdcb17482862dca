/-
  Put together: PfParse, PfParse2, PfRng, AuRng, PfEr.
-/
import Derived.Test.YtjgghimjnbjlbaaGreatDoorJ04
import Derived.Test.YtjgghimjnbjlbaaGreatDoorJ41
import Derived.Test.YtjgghimjnbjlbaaGreatDoorPfAs
import Derived.Laws.ResultCell
import Derived.RangeFuncNested
import Derived.RangeFuncBound
import Derived.RangeFuncCalls
import Derived.RangeFuncLeaves
import Derived.Shelf.Abstract
import Derived.Shelf.RegionOpen
import Derived.OwnWalkIn
import Derived.TacticsInMore
import Derived.LoopNIn
import Derived.LoopIn
namespace Go.Proofs.YtjgghimjnbjlbaaGreatDoor
open Go.RowKit
set_option maxRecDepth 10000
set_option maxHeartbeats 8000000
def rdF (f:FuncId) (s:Ls):SL × Ls:=
  if f=134 then ({ SL.zero with n:=(Y0 s).1 },(Y0 s).2)
  else if f=136 then ({ SL.zero with ops:=(opsP s).1 },(opsP s).2)
  else if f=138 then ({ SL.zero with pcs:=(rowP s).1.1,deg:=(rowP s).1.2,ids:=(idsP (rowP s).2).1 },(idsP (rowP s).2).2)
  else if f=140 then ({ SL.zero with pcs:=(rowP (eqS s)).1.1,deg:=(rowP (eqS s)).1.2,ids:=[eqY s] },(rowP (eqS s)).2)
  else if f=142 then ({ SL.zero with lits:=(zl ze s).1.map fun x=>(litP x).1 },(zl ze s).2)
  else if f=144 then ({ SL.zero with ids:=eqY s :: (idsP (eqS s)).1 },(idsP (eqS s)).2)
  else if f=146 then (SL.zero,([],s.2))
  else if f=147 then ZN s
  else (SL.zero,s)
theorem y5G:TabOk formsL rdF where
  leaf:=by
    intro f hf;simp only [formsL,List.mem_cons,List.not_mem_nil,or_false] at hf;rcases hf with rfl | rfl | rfl | rfl | rfl | rfl | rfl | rfl | rfl | rfl | rfl | rfl
    · exact Yp
    · exact y5H
    · exact y5I
    · exact y5J
    · exact y5K
    · exact KY
    · exact KY
    · exact y5L
    · exact y5M
    · exact Yp
    · exact y5s
    · exact Yp
  len:=by
    have h:(formsL.all fun f=>decide (f.2.1.length<=1000))=true:=by kernel_rfl
    exact fun f hf=>of_decide_eq_true (List.all_eq_true.1 h f hf)
  asc:=by
    have h:(formsL.all fun f=>(rstT f).all fun c=>decide (c.toNat<128))=true:=by kernel_rfl
    exact fun f hf c hc=>of_decide_eq_true (List.all_eq_true.1 (List.all_eq_true.1 h f hf) c hc)
  rl:=by
    have h:(formsL.all fun f=>decide ((rstT f).length<=1000))=true:=by kernel_rfl
    exact fun f hf=>of_decide_eq_true (List.all_eq_true.1 h f hf)
  rst:=by
    have h:(formsL.all fun f=>(Lib.fields (rstT f)).all fun x=>decide (x.length<=1000))=true:=by kernel_rfl
    exact fun f hf c hc=>of_decide_eq_true (List.all_eq_true.1 (List.all_eq_true.1 h f hf) c hc)
  fl:=by
    have h:(formsL.all fun f=>decide ((Lib.fields (rstT f)).length<=100))=true:=by kernel_rfl
    exact fun f hf=>of_decide_eq_true (List.all_eq_true.1 h f hf)
  few:=by decide
  ent:=by
    intro f hf;simp only [formsL,List.mem_cons,List.not_mem_nil,or_false] at hf;rcases hf with rfl | rfl | rfl | rfl | rfl | rfl | rfl | rfl | rfl | rfl | rfl | rfl
    · exact Go.Proofs.enters_of Tryz.func132 (by kernel_rfl) rfl
    · exact Go.Proofs.enters_of Tryz.func134 (by kernel_rfl) rfl
    · exact Go.Proofs.enters_of Tryz.func136 (by kernel_rfl) rfl
    · exact Go.Proofs.enters_of Tryz.func138 (by kernel_rfl) rfl
    · exact Go.Proofs.enters_of Tryz.func140 (by kernel_rfl) rfl
    · exact Go.Proofs.enters_of Tryz.func142 (by kernel_rfl) rfl
    · exact Go.Proofs.enters_of Tryz.func142 (by kernel_rfl) rfl
    · exact Go.Proofs.enters_of Tryz.func144 (by kernel_rfl) rfl
    · exact Go.Proofs.enters_of Tryz.func146 (by kernel_rfl) rfl
    · exact Go.Proofs.enters_of Tryz.func132 (by kernel_rfl) rfl
    · exact Go.Proofs.enters_of Tryz.func147 (by kernel_rfl) rfl
    · exact Go.Proofs.enters_of Tryz.func132 (by kernel_rfl) rfl
def xD (x:List UInt8):SL × Option Int:=if (zr x).dropWhile blk=[] then ({ SL.zero with k:=7 },none) else ({ (zn formsL rdF (x,none)).2.1 with k:=(zn formsL rdF (x,none)).1 },(endP (zn formsL rdF (x,none)).2.2).2)
def Z0 (x:List UInt8) (w:World) (e:Ending) (w':World):Prop:=∃ vo vp vl vi,e=.returned (.tuple #[.agg (slC (xD x).1 vo vp vl vi),fv (xD x).2])/\SlOwn w.heap.size w' (xD x).1 vo vp vl vi/\Below w.heap.size w w'
theorem Z1:(Tryz.prog.info? 91).map (·.size)=some 10:=by kernel_rfl
theorem Z2 {P:Program} {fn:Func} {p u:Tmp} {ty:TypeId} (h:fn.results=#[.cell p ty,.tmp u]) (tmps:Array Value) (w:World) (g:Nat) (t:TypeId) (cs:Array Value) (fr:Nat × Nat) (d:TypeDesc) (hp:tmps.getD p undef=.pointer (some ⟨g,0,none⟩)) (hg:w.heap[g]?=some (.cells cs t fr)) (hu:P.underlying ty=some d) (hd:(match d with | .struct _ | .array _ _=>true | _=>false)=true) (hi:(P.info? ty).map (·.size)=some cs.size):(results fn tmps).run P w=.ok (.tuple #[.agg cs,tmps.getD u undef]) w:=by
  rw [results_cell_tmp h,hp];simp [asAddr,run_loadVar_row w g t ty cs fr d hg hu hd hi,Result.andThen]
theorem Z3 {w:World} {q:Nat} {cs:Array Value} (h:StAt w q cs) (v0 v1 v2 v3 v4 v5 v6 v7 v8 v9:Value):StAt ((((((((((w.setCell ⟨q,0,none⟩ v0).setCell ⟨q,1,none⟩ v1).setCell ⟨q,2,none⟩ v2).setCell ⟨q,3,none⟩ v3).setCell ⟨q,4,none⟩ v4).setCell ⟨q,5,none⟩ v5).setCell ⟨q,6,none⟩ v6).setCell ⟨q,7,none⟩ v7).setCell ⟨q,8,none⟩ v8).setCell ⟨q,9,none⟩ v9) q #[v0,v1,v2,v3,v4,v5,v6,v7,v8,v9]:=by
  obtain ⟨l⟩:=cs;have hl:l.length=10:=h.n
  match l,hl with
  | [a0, a1, a2, a3, a4, a5, a6, a7, a8, a9], _ =>
    have hE:=(((((((((h.put 0 v0).put 1 v1).put 2 v2).put 3 v3).put 4 v4).put 5 v5).put 6 v6).put 7 v7).put 8 v8).put 9 v9;simpa only [List.setIfInBounds_toArray,List.set_cons_zero,List.set_cons_succ] using hE
theorem bl10 {w0 w:World} {q:Nat} (h:Below w0.heap.size w0 w) (hq:w0.heap.size<=q) (v0 v1 v2 v3 v4 v5 v6 v7 v8 v9:Value):Below w0.heap.size w0 ((((((((((w.setCell ⟨q,0,none⟩ v0).setCell ⟨q,1,none⟩ v1).setCell ⟨q,2,none⟩ v2).setCell ⟨q,3,none⟩ v3).setCell ⟨q,4,none⟩ v4).setCell ⟨q,5,none⟩ v5).setCell ⟨q,6,none⟩ v6).setCell ⟨q,7,none⟩ v7).setCell ⟨q,8,none⟩ v8).setCell ⟨q,9,none⟩ v9):=(((((((((h.setCell hq _).setCell hq _).setCell hq _).setCell hq _).setCell hq _).setCell hq _).setCell hq _).setCell hq _).setCell hq _).setCell hq _
theorem y5N (x:List UInt8) (w:World) (hx:x.length<=9000000) (hg:Gl w):Calls Tryz.prog 64 #[.string (yd x)] w (Z0 x w):=by
  unfold Z0 xD;obtain ⟨T,hT⟩:∃ T,yd ((zr x).dropWhile blk)=T:=⟨_,rfl⟩;have HTr:Hid (∀ w',Calls Tryz.prog 78 #[.string (yd x),.string ⟨#[32,9]⟩] w' fun e w2=>e=.returned (.string T)/\Below w'.heap.size w' w2):=fun w'=>by
    have:=y4P (yd x) w' (by rw [zA];exact hx);rw [yS,hT] at this;exact this
  by_cases hb:(zr x).dropWhile blk=[]
  · rw [if_pos hb]
    have hem:T.toList.isEmpty=true:=by rw [Lib.toList_data,<-hT,yS,hb];rfl
    clear hb hT;obtain ⟨W,hW⟩:∃ W,w.alloc (.cells cs0 91)=W:=⟨_,rfl⟩;have hbW:Below w.heap.size w W:=bAe hW;have gW:W.heap[w.heap.size]?=some (.cells cs0 91 (0,0)):=hAe hW;have HW:Hid (Below w.heap.size w W):=hbW;have HgW:Hid (W.heap[w.heap.size]?=some (.cells cs0 91 (0,0))):=gW;have hW2:w.alloc (.cells #[.int .i64 0,.string ⟨#[]⟩,.slice none 0 0,.slice none 0 0,.string ⟨#[]⟩,.slice none 0 0,.slice none 0 0,.int .i64 0,.string ⟨#[]⟩,.string ⟨#[]⟩] 91)=W:=hW;clear hbW gW hW;go_enter Tryz.func64,Tryz.ntmps64;go_wp2_with fail
    refine cA (HTr.out W) ?_;rintro e w1 ⟨rfl,hb1⟩;have HB1:Hid (Below w.heap.size w w1):=ym HW.out hb1;have g1:w1.heap[w.heap.size]?=some (.cells cs0 91 (0,0)):=(hb1.block _ (hLt HgW.out)).trans HgW.out;have HST:Hid (StAt w1 w.heap.size cs0):=⟨g1,rfl⟩;have z:=yl g1;have c0:w1.cell? ⟨w.heap.size,0,none⟩=some (.int .i64 0):=yb g1 0;have c1:w1.cell? ⟨w.heap.size,1,none⟩=some (.string ⟨#[]⟩):=yb g1 1;have c2:w1.cell? ⟨w.heap.size,2,none⟩=some (.slice none 0 0):=yb g1 2;have c3:w1.cell? ⟨w.heap.size,3,none⟩=some (.slice none 0 0):=yb g1 3;have c4:w1.cell? ⟨w.heap.size,4,none⟩=some (.string ⟨#[]⟩):=yb g1 4;have c5:w1.cell? ⟨w.heap.size,5,none⟩=some (.slice none 0 0):=yb g1 5;have c6:w1.cell? ⟨w.heap.size,6,none⟩=some (.slice none 0 0):=yb g1 6
    have c7:w1.cell? ⟨w.heap.size,7,none⟩=some (.int .i64 0):=yb g1 7;have c8:w1.cell? ⟨w.heap.size,8,none⟩=some (.string ⟨#[]⟩):=yb g1 8;have c9:w1.cell? ⟨w.heap.size,9,none⟩=some (.string ⟨#[]⟩):=yb g1 9;clear hb1 hW2 g1;go_wp2_with fail
    refine bodyPost_ret (Z2 rfl _ _ w.heap.size 91 _ (0,0) _ rfl (Z3 HST.out _ _ _ _ _ _ _ _ _ _).o Tryz.underlying91 rfl Z1) rfl ⟨_,_,_,_,rfl,⟨yw _ _ _ _,yw _ _ _ _,yw _ _ _ _,yw _ _ _ _⟩,bl10 HB1.out (Nat.le_refl _) _ _ _ _ _ _ _ _ _ _⟩
  · rw [if_neg hb]
    have hem:T.toList.isEmpty=false:=by
      rw [Lib.toList_data,<-hT,yS]
      cases h:(zr x).dropWhile blk with
      | nil=>exact absurd h hb
      | cons _ _=>rfl
    clear hb hT;obtain ⟨R,hR⟩:∃ R,zn formsL rdF (x,none)=R:=⟨_,rfl⟩;rw [hR];obtain ⟨W,hW⟩:∃ W,w.alloc (.cells cs0 91)=W:=⟨_,rfl⟩;have hbW:Below w.heap.size w W:=bAe hW;have gW:W.heap[w.heap.size]?=some (.cells cs0 91 (0,0)):=hAe hW;have HW:Hid (Below w.heap.size w W):=hbW;have HgW:Hid (W.heap[w.heap.size]?=some (.cells cs0 91 (0,0))):=gW;have hW2:w.alloc (.cells #[.int .i64 0,.string ⟨#[]⟩,.slice none 0 0,.slice none 0 0,.string ⟨#[]⟩,.slice none 0 0,.slice none 0 0,.int .i64 0,.string ⟨#[]⟩,.string ⟨#[]⟩] 91)=W:=hW;have HG:Hid (Gl w):=hg;have HRd:Hid (zn formsL rdF (x,none)=R):=hR;clear hbW gW hW hR hg;go_enter Tryz.func64,Tryz.ntmps64;go_wp2_with fail
    refine cA (HTr.out W) ?_;rintro e w1 ⟨rfl,hb1⟩;have HB1:Hid (Below w.heap.size w w1):=ym HW.out hb1;have HST:Hid (StAt w1 w.heap.size cs0):=⟨(hb1.block _ (hLt HgW.out)).trans HgW.out,rfl⟩;obtain ⟨V,hV⟩:∃ V,(w1.alloc (.cells #[.string (yd x),.nilIface] 137)).alloc (.cells cs0 91)=V:=⟨_,rfl⟩;have hV2:(w1.alloc (.cells #[.string (yd x),.nilIface] 137)).alloc (.cells #[.int .i64 0,.string ⟨#[]⟩,.slice none 0 0,.slice none 0 0,.string ⟨#[]⟩,.slice none 0 0,.slice none 0 0,.int .i64 0,.string ⟨#[]⟩,.string ⟨#[]⟩] 91)=V:=hV;have hbV:Below w1.heap.size w1 V:=by rw [<-hV];exact ((Below.refl _ _).alloc (Nat.le_refl _) _).alloc (by simp) _
    have gb:V.heap[w1.heap.size]?=some (.cells #[.string (yd x),.nilIface] 137 (0,0)):=by rw [<-hV,heap_alloc_old (w1.alloc _) _ (by simp)];exact heap_alloc_new w1 _
    have gq:V.heap[w1.heap.size+1]?=some (.cells cs0 91 (0,0)):=by rw [<-hV];exact heap_alloc2_new w1 _ _
    have hVs:V.heap.size=w1.heap.size+2:=by rw [<-hV];simp
    obtain ⟨X,hX⟩:∃ X,V.alloc (.cells (fmsC formsL).toArray 182)=X:=⟨_,rfl⟩;have hbX:Below V.heap.size V X:=bAe hX;have gX:X.heap[V.heap.size]?=some (.cells (fmsC formsL).toArray 182 (0,0)):=hAe hX;have HFm:Hid (Calls Tryz.prog 80 #[] V fun e w'=>e=.returned (.slice (some ⟨V.heap.size,0,none⟩) 12 12)/\w'=X):=by
      have:=y5u V;rw [hX] at this;exact this
    have h12:12<=w1.heap.size:=Nat.le_trans HG.out.size HB1.out.size;have HPk:Hid (Calls Tryz.prog 79 #[.pointer (some ⟨w1.heap.size,0,none⟩),.slice (some ⟨V.heap.size,0,none⟩) 12 12,.pointer (some ⟨w1.heap.size+1,0,none⟩)] X (PkO w1.heap.size w1.heap.size (w1.heap.size+1) R X)):=by
      have hL:LnAt V w1.heap.size (x,none):=⟨gb,hx⟩;have hS:StAt V (w1.heap.size+1) cs0:=⟨gq,rfl⟩;have:=KM (B:=w1.heap.size) (b:=w1.heap.size) (q:=w1.heap.size+1) (t:=V.heap.size) (s:=(x,none)) y5G X (hL.below hbX) (hS.same (hbX.block _ hS.lt)) gX ((((HG.out.next HB1.out).next hbV)).next hbX) (Nat.le_refl _) (by omega) (by omega) (by omega) h12;rw [HRd.out] at this;exact this
    have HSX:Hid (StAt X w.heap.size cs0/\Below w1.heap.size w1 X):=by
      have hbX1:Below w1.heap.size w1 X:=ym hbV hbX;exact ⟨HST.out.same (hbX1.block _ HST.out.lt),hbX1⟩
    have hwl:w.heap.size<w1.heap.size:=HST.out.lt;have HVs:Hid (V.heap.size=w1.heap.size+2):=hVs;have HXs:Hid (V.heap.size<=X.heap.size):=hbX.size;clear hb1 hW2 hV hbV gb gq hbX gX hVs;go_wp2_with fail
    refine cA HFm.out ?_;rintro e w3 ⟨rfl,rfl⟩;go_wp2_with fail
    refine cA HPk.out ?_;rintro e w4 ⟨rfl,cs',a1,⟨vo,vp,vl,vi,rfl,a3⟩,a4,a5⟩;have c0:w4.cell? ⟨w1.heap.size+1,0,none⟩=some (.int .i64 R.2.1.k):=yb a1.o 0;have z0:=yl a1.o 0;obtain ⟨r1,r2,r3⟩:=zd (B:=w1.heap.size) (w:=w3) a1 a4 a5 (by omega) (by omega) 0 (.int .i64 R.1);have HQ:Hid (StAt (w4.setCell ⟨w1.heap.size+1,0,none⟩ (.int .i64 R.1)) (w1.heap.size+1) (slC { R.2.1 with k:=R.1 } vo vp vl vi)):=r1;have HO:Hid (SlOwn w3.heap.size (w4.setCell ⟨w1.heap.size+1,0,none⟩ (.int .i64 R.1)) R.2.1 vo vp vl vi):=a3.set (by have h1:=HVs.out;have h2:=HXs.out;omega) 0 _
    have HEn:Hid (Calls Tryz.prog 81 #[.pointer (some ⟨w1.heap.size,0,none⟩)] (w4.setCell ⟨w1.heap.size+1,0,none⟩ (.int .i64 R.1)) (LO w1.heap.size w1.heap.size (.tuple #[]) (endP R.2.2) (w4.setCell ⟨w1.heap.size+1,0,none⟩ (.int .i64 R.1)))):=y5x _ r2 (Nat.le_refl _);have HR3:Hid (SStp w1.heap.size (fun k=>k=w1.heap.size∨k=w1.heap.size+1) w3 (w4.setCell ⟨w1.heap.size+1,0,none⟩ (.int .i64 R.1))):=r3;clear a1 a3 a4 a5 r1 r2 r3;go_wp2_with fail
    refine cA HEn.out ?_;rintro e w5 ⟨rfl,h5,h6⟩;have hQ5:StAt w5 (w1.heap.size+1) (slC { R.2.1 with k:=R.1 } vo vp vl vi):=HQ.out.stp h6 (by omega);have HS35:Hid (SStp w1.heap.size (fun k=>k=w1.heap.size∨k=w1.heap.size+1) w3 w5):=HR3.out.trans (h6.more fun _ hk=>.inl hk);have hS5:StAt w5 w.heap.size cs0:=HSX.out.1.same (HS35.out.off.block _ HSX.out.1.lt (by omega));have HS5:Hid (StAt w5 w.heap.size cs0):=hS5;have HO5:Hid (SlOwn w3.heap.size w5 R.2.1 vo vp vl vi):=by
      have hk:∀ {t:TypeId} {m n:Nat} {u:Value} {xs:List Value},(w4.setCell ⟨w1.heap.size+1,0,none⟩ (.int .i64 R.1)).ownsRow w3.heap.size t m u n xs->w5.ownsRow w3.heap.size t m u n xs:=fun ho=>zD ho h6 (by have h1:=HVs.out;have h2:=HXs.out;omega)
      exact ⟨hk HO.out.o,hk HO.out.p,hk HO.out.l,hk HO.out.i⟩
    have HB5:Hid (Below w.heap.size w w5):=HB1.out.trans ((HSX.out.2.trans HS35.out.below).mono (Nat.le_of_lt hwl));have e1:w5.cell? ⟨w1.heap.size,1,none⟩=some (fv (endP R.2.2).2):=yb h5.o 1;have q0:w5.cell? ⟨w1.heap.size+1,0,none⟩=some (.int .i64 R.1):=yb hQ5.o 0;have q1:w5.cell? ⟨w1.heap.size+1,1,none⟩=some (.string (yd R.2.1.n)):=yb hQ5.o 1;have q2:w5.cell? ⟨w1.heap.size+1,2,none⟩=some vo:=yb hQ5.o 2;have q3:w5.cell? ⟨w1.heap.size+1,3,none⟩=some vp:=yb hQ5.o 3;have q4:w5.cell? ⟨w1.heap.size+1,4,none⟩=some (.string (yd R.2.1.deg)):=yb hQ5.o 4;have q5:w5.cell? ⟨w1.heap.size+1,5,none⟩=some vl:=yb hQ5.o 5;have q6:w5.cell? ⟨w1.heap.size+1,6,none⟩=some vi:=yb hQ5.o 6
    have q7:w5.cell? ⟨w1.heap.size+1,7,none⟩=some (.int .i64 R.2.1.ends):=yb hQ5.o 7;have q8:w5.cell? ⟨w1.heap.size+1,8,none⟩=some (.string (yd R.2.1.low)):=yb hQ5.o 8;have q9:w5.cell? ⟨w1.heap.size+1,9,none⟩=some (.string (yd R.2.1.high)):=yb hQ5.o 9;have z:=yl hS5.o;have s0:w5.cell? ⟨w.heap.size,0,none⟩=some (.int .i64 0):=yb hS5.o 0;have s1:w5.cell? ⟨w.heap.size,1,none⟩=some (.string ⟨#[]⟩):=yb hS5.o 1;have s2:w5.cell? ⟨w.heap.size,2,none⟩=some (.slice none 0 0):=yb hS5.o 2;have s3:w5.cell? ⟨w.heap.size,3,none⟩=some (.slice none 0 0):=yb hS5.o 3;have s4:w5.cell? ⟨w.heap.size,4,none⟩=some (.string ⟨#[]⟩):=yb hS5.o 4;have s5:w5.cell? ⟨w.heap.size,5,none⟩=some (.slice none 0 0):=yb hS5.o 5
    have s6:w5.cell? ⟨w.heap.size,6,none⟩=some (.slice none 0 0):=yb hS5.o 6;have s7:w5.cell? ⟨w.heap.size,7,none⟩=some (.int .i64 0):=yb hS5.o 7;have s8:w5.cell? ⟨w.heap.size,8,none⟩=some (.string ⟨#[]⟩):=yb hS5.o 8;have s9:w5.cell? ⟨w.heap.size,9,none⟩=some (.string ⟨#[]⟩):=yb hS5.o 9;obtain ⟨oa,oc,rfl⟩:=yv HO5.out.o;obtain ⟨pa,pc,rfl⟩:=yv HO5.out.p;obtain ⟨la,lc,rfl⟩:=yv HO5.out.l;obtain ⟨ia,ic,rfl⟩:=yv HO5.out.i;clear h5 h6 hQ5 hS5;go_wp2_with fail
    go_region;go_wp2_with fail
    have hq:w.heap.size<w3.heap.size:=by have h1:=HVs.out;have h2:=HXs.out;omega
    have hO:=((((((((((HO5.out.set hq 0 (.int .i64 R.1)).set hq 1 (.string (yd R.2.1.n))).set hq 2 (.slice oa R.2.1.ops.length oc)).set hq 3 (.slice pa R.2.1.pcs.length pc)).set hq 4 (.string (yd R.2.1.deg))).set hq 5 (.slice la R.2.1.lits.length lc)).set hq 6 (.slice ia R.2.1.ids.length ic)).set hq 7 (.int .i64 R.2.1.ends)).set hq 8 (.string (yd R.2.1.low))).set hq 9 (.string (yd R.2.1.high))).less (Nat.le_of_lt hq);have hE:=(Z3 HS5.out (.int .i64 R.1) (.string (yd R.2.1.n)) (.slice oa R.2.1.ops.length oc) (.slice pa R.2.1.pcs.length pc) (.string (yd R.2.1.deg)) (.slice la R.2.1.lits.length lc) (.slice ia R.2.1.ids.length ic) (.int .i64 R.2.1.ends) (.string (yd R.2.1.low)) (.string (yd R.2.1.high))).o
    have hL:=(bl10 HB5.out (Nat.le_refl _) (.int .i64 R.1) (.string (yd R.2.1.n)) (.slice oa R.2.1.ops.length oc) (.slice pa R.2.1.pcs.length pc) (.string (yd R.2.1.deg)) (.slice la R.2.1.lits.length lc) (.slice ia R.2.1.ids.length ic) (.int .i64 R.2.1.ends) (.string (yd R.2.1.low)) (.string (yd R.2.1.high))).drew
    obtain ⟨Z,hZ⟩:∃ Z,((((((((((w5.setCell ⟨w.heap.size,0,none⟩ (.int .i64 R.1)).setCell ⟨w.heap.size,1,none⟩ (.string (yd R.2.1.n))).setCell ⟨w.heap.size,2,none⟩ (.slice oa R.2.1.ops.length oc)).setCell ⟨w.heap.size,3,none⟩ (.slice pa R.2.1.pcs.length pc)).setCell ⟨w.heap.size,4,none⟩ (.string (yd R.2.1.deg))).setCell ⟨w.heap.size,5,none⟩ (.slice la R.2.1.lits.length lc)).setCell ⟨w.heap.size,6,none⟩ (.slice ia R.2.1.ids.length ic)).setCell ⟨w.heap.size,7,none⟩ (.int .i64 R.2.1.ends)).setCell ⟨w.heap.size,8,none⟩ (.string (yd R.2.1.low))).setCell ⟨w.heap.size,9,none⟩ (.string (yd R.2.1.high)))=Z:=⟨_,rfl⟩;rw [hZ] at hE hL hO;rw [hZ]
    have hE2:Z.drew.heap[w.heap.size]?=some (.cells (slC { R.2.1 with k:=R.1 } (.slice oa R.2.1.ops.length oc) (.slice pa R.2.1.pcs.length pc) (.slice la R.2.1.lits.length lc) (.slice ia R.2.1.ids.length ic)) 91 (0,0)):=hE;refine bodyPost_ret (Z2 rfl _ _ w.heap.size 91 _ (0,0) _ rfl hE2 Tryz.underlying91 rfl Z1) rfl ⟨_,_,_,_,rfl,⟨hO.o,hO.p,hO.l,hO.i⟩,hL⟩
end Go.Proofs.YtjgghimjnbjlbaaGreatDoor

namespace Go.Proofs.YtjgghimjnbjlbaaGreatDoor
open Go.RowKit
set_option maxRecDepth 10000
set_option maxHeartbeats 8000000
def xC (x:List UInt8):SL × Int:=match (xD x).2 with
  | some e=>(SL.zero,e)
  | none=>((xD x).1,0)
def Zr (x:List UInt8) (w:World) (e:Ending) (w':World):Prop:=∃ vo vp vl vi,e=.returned (.tuple #[.agg (slC (xC x).1 vo vp vl vi),.int .i64 (xC x).2])/\SlOwn w.heap.size w' (xC x).1 vo vp vl vi/\Below w.heap.size w w'
theorem y1U (x:List UInt8) (w:World) (hx:x.length<=9000000) (hg:Gl w):Calls Tryz.prog 48 #[.string (yd x)] w (Zr x w):=by
  unfold Zr;obtain ⟨W,hW⟩:∃ W,w.alloc (.cells cs0 91)=W:=⟨_,rfl⟩;have hbW:Below w.heap.size w W:=bAe hW;have gW:W.heap[w.heap.size]?=some (.cells cs0 91 (0,0)):=hAe hW;have HW:Hid (Below w.heap.size w W):=hbW;have HgW:Hid (W.heap[w.heap.size]?=some (.cells cs0 91 (0,0))):=gW;have hW2:w.alloc (.cells #[.int .i64 0,.string ⟨#[]⟩,.slice none 0 0,.slice none 0 0,.string ⟨#[]⟩,.slice none 0 0,.slice none 0 0,.int .i64 0,.string ⟨#[]⟩,.string ⟨#[]⟩] 91)=W:=hW;have HG:Hid (Gl w):=hg;have HR:Hid (Calls Tryz.prog 64 #[.string (yd x)] W (Z0 x W)):=y5N x W hx (hg.next hbW);unfold xC;obtain ⟨r,hr⟩:∃ r,xD x=r:=⟨_,rfl⟩;unfold Z0 at HR;rw [hr] at HR;rw [hr];clear hbW gW hW hg hr;go_enter Tryz.func48,Tryz.ntmps48;go_wp2_with fail
  refine cA HR.out ?_;rintro e w1 ⟨vo,vp,vl,vi,rfl,hO,hb1⟩;have HB1:Hid (Below W.heap.size W w1):=hb1;have HO:Hid (SlOwn W.heap.size w1 r.1 vo vp vl vi):=hO;obtain ⟨oa,oc,rfl⟩:=yv hO.o;obtain ⟨pa,pc,rfl⟩:=yv hO.p;obtain ⟨la,lc,rfl⟩:=yv hO.l;obtain ⟨ia,ic,rfl⟩:=yv hO.i;clear hO hb1 hW2 HR;unfold slC;obtain ⟨d,f⟩:=r;obtain ⟨V,hV⟩:∃ V,(w1.alloc (.cells #[.int .i64 d.k,.string (yd d.n),.slice oa d.ops.length oc,.slice pa d.pcs.length pc,.string (yd d.deg),.slice la d.lits.length lc,.slice ia d.ids.length ic,.int .i64 d.ends,.string (yd d.low),.string (yd d.high)] 91)).alloc (.cells #[.int .i64 0] 92)=V:=⟨_,rfl⟩;have hbV:Below w1.heap.size w1 V:=by rw [<-hV];exact ((Below.refl _ _).alloc (Nat.le_refl _) _).alloc (by simp) _
  have gs:V.heap[w1.heap.size]?=some (.cells #[.int .i64 d.k,.string (yd d.n),.slice oa d.ops.length oc,.slice pa d.pcs.length pc,.string (yd d.deg),.slice la d.lits.length lc,.slice ia d.ids.length ic,.int .i64 d.ends,.string (yd d.low),.string (yd d.high)] 91 (0,0)):=by rw [<-hV,heap_alloc_old (w1.alloc _) _ (by simp)];exact heap_alloc_new w1 _
  have ge:V.heap[w1.heap.size+1]?=some (.cells #[.int .i64 0] 92 (0,0)):=by rw [<-hV];exact heap_alloc2_new w1 _ _
  have hwW:w.heap.size<W.heap.size:=(hLt HgW.out);have hW1:=HB1.out.size;have hST:StAt V w.heap.size cs0:=⟨(hbV.block _ (by omega)).trans ((HB1.out.block _ hwW).trans HgW.out),rfl⟩;have HB2:Hid (Below w.heap.size w V):=ym (ym HW.out HB1.out) hbV;have HbV:Hid (Below w1.heap.size w1 V):=hbV
  cases f with
  | none =>
    have hO:SlOwn W.heap.size V d (.slice oa d.ops.length oc) (.slice pa d.pcs.length pc) (.slice la d.lits.length lc) (.slice ia d.ids.length ic):=by
      have k:∀ {t:TypeId} {m n:Nat} {u:Value} {xs:List Value},w1.ownsRow W.heap.size t m u n xs->V.ownsRow W.heap.size t m u n xs:=fun ho=>yN ho fun g hg=>hbV.block g (ho.lt g hg).2
      exact ⟨k HO.out.o,k HO.out.p,k HO.out.l,k HO.out.i⟩
    have HST:Hid (StAt V w.heap.size cs0):=hST;have HOV:Hid (SlOwn W.heap.size V d (.slice oa d.ops.length oc) (.slice pa d.pcs.length pc) (.slice la d.lits.length lc) (.slice ia d.ids.length ic)):=hO;have z:=yl hST.o;have q0:V.cell? ⟨w1.heap.size,0,none⟩=some (.int .i64 d.k):=yb gs 0;have q1:V.cell? ⟨w1.heap.size,1,none⟩=some (.string (yd d.n)):=yb gs 1;have q2:V.cell? ⟨w1.heap.size,2,none⟩=some (.slice oa d.ops.length oc):=yb gs 2;have q3:V.cell? ⟨w1.heap.size,3,none⟩=some (.slice pa d.pcs.length pc):=yb gs 3;have q4:V.cell? ⟨w1.heap.size,4,none⟩=some (.string (yd d.deg)):=yb gs 4;have q5:V.cell? ⟨w1.heap.size,5,none⟩=some (.slice la d.lits.length lc):=yb gs 5;have q6:V.cell? ⟨w1.heap.size,6,none⟩=some (.slice ia d.ids.length ic):=yb gs 6
    have q7:V.cell? ⟨w1.heap.size,7,none⟩=some (.int .i64 d.ends):=yb gs 7;have q8:V.cell? ⟨w1.heap.size,8,none⟩=some (.string (yd d.low)):=yb gs 8;have q9:V.cell? ⟨w1.heap.size,9,none⟩=some (.string (yd d.high)):=yb gs 9;have s0:V.cell? ⟨w.heap.size,0,none⟩=some (.int .i64 0):=yb hST.o 0;have s1:V.cell? ⟨w.heap.size,1,none⟩=some (.string ⟨#[]⟩):=yb hST.o 1;have s2:V.cell? ⟨w.heap.size,2,none⟩=some (.slice none 0 0):=yb hST.o 2;have s3:V.cell? ⟨w.heap.size,3,none⟩=some (.slice none 0 0):=yb hST.o 3;have s4:V.cell? ⟨w.heap.size,4,none⟩=some (.string ⟨#[]⟩):=yb hST.o 4;have s5:V.cell? ⟨w.heap.size,5,none⟩=some (.slice none 0 0):=yb hST.o 5;have s6:V.cell? ⟨w.heap.size,6,none⟩=some (.slice none 0 0):=yb hST.o 6
    have s7:V.cell? ⟨w.heap.size,7,none⟩=some (.int .i64 0):=yb hST.o 7;have s8:V.cell? ⟨w.heap.size,8,none⟩=some (.string ⟨#[]⟩):=yb hST.o 8;have s9:V.cell? ⟨w.heap.size,9,none⟩=some (.string ⟨#[]⟩):=yb hST.o 9;clear hO hST hbV gs ge;go_wp2_with fail
    refine ZJ (y4R _ V) rfl (by with_reducible rfl) ?_;rintro e w2 ⟨rfl,rfl⟩;clear hV;go_wp2_with fail
    have hE:=(Z3 HST.out (.int .i64 d.k) (.string (yd d.n)) (.slice oa d.ops.length oc) (.slice pa d.pcs.length pc) (.string (yd d.deg)) (.slice la d.lits.length lc) (.slice ia d.ids.length ic) (.int .i64 d.ends) (.string (yd d.low)) (.string (yd d.high))).o;have hL:=bl10 HB2.out (Nat.le_refl _) (.int .i64 d.k) (.string (yd d.n)) (.slice oa d.ops.length oc) (.slice pa d.pcs.length pc) (.string (yd d.deg)) (.slice la d.lits.length lc) (.slice ia d.ids.length ic) (.int .i64 d.ends) (.string (yd d.low)) (.string (yd d.high))
    have hO:=((((((((((HOV.out.set hwW 0 (.int .i64 d.k)).set hwW 1 (.string (yd d.n))).set hwW 2 (.slice oa d.ops.length oc)).set hwW 3 (.slice pa d.pcs.length pc)).set hwW 4 (.string (yd d.deg))).set hwW 5 (.slice la d.lits.length lc)).set hwW 6 (.slice ia d.ids.length ic)).set hwW 7 (.int .i64 d.ends)).set hwW 8 (.string (yd d.low))).set hwW 9 (.string (yd d.high))).less (Nat.le_of_lt hwW)
    obtain ⟨Z,hZ⟩:∃ Z,((((((((((w2.setCell ⟨w.heap.size,0,none⟩ (.int .i64 d.k)).setCell ⟨w.heap.size,1,none⟩ (.string (yd d.n))).setCell ⟨w.heap.size,2,none⟩ (.slice oa d.ops.length oc)).setCell ⟨w.heap.size,3,none⟩ (.slice pa d.pcs.length pc)).setCell ⟨w.heap.size,4,none⟩ (.string (yd d.deg))).setCell ⟨w.heap.size,5,none⟩ (.slice la d.lits.length lc)).setCell ⟨w.heap.size,6,none⟩ (.slice ia d.ids.length ic)).setCell ⟨w.heap.size,7,none⟩ (.int .i64 d.ends)).setCell ⟨w.heap.size,8,none⟩ (.string (yd d.low))).setCell ⟨w.heap.size,9,none⟩ (.string (yd d.high)))=Z:=⟨_,rfl⟩;rw [hZ] at hE hL hO;rw [hZ];refine bodyPost_ret (Z2 rfl _ _ w.heap.size 91 _ (0,0) _ rfl hE Tryz.underlying91 rfl Z1) rfl ⟨_,_,_,_,rfl,hO,hL⟩
  | some ev =>
    have hlt:=(hLt ge);have he0:V.cell? ⟨w1.heap.size+1,0,none⟩=some (.int .i64 0):=yb ge 0;have hf0:=yl ge 0;have hgV:=(((HG.out.next HW.out).next HB1.out).next hbV).err;obtain ⟨Y,hY⟩:∃ Y,((((V.alloc (.cells #[.pointer (some ⟨w1.heap.size+1,0,none⟩)] 122)).alloc (.cells #[.pointer (some ⟨12,122,none⟩),.pointer (some ⟨V.heap.size,0,none⟩),.int .u64 150] 145)).alloc (.cells #[.pointer (some ⟨12,122,none⟩),.pointer (some ⟨V.heap.size,0,none⟩),.int .u64 150] 145)).alloc (.cells #[.int .i64 ev] 92))=Y:=⟨_,rfl⟩;have hbY:Below V.heap.size V Y:=by rw [<-hY];exact ((((Below.refl _ _).alloc (Nat.le_refl _) _).alloc (by simp) _).alloc (by simp;omega) _).alloc (by simp;omega) _
    have gY:Y.heap[w1.heap.size+1]?=some (.cells #[.int .i64 0] 92 (0,0)):=(hbY.block _ hlt).trans ge;obtain ⟨U,hU⟩:∃ U,Y.setCell ⟨w1.heap.size+1,0,none⟩ (.int .i64 ev)=U:=⟨_,rfl⟩;have gU:U.heap[w1.heap.size+1]?=some (.cells #[.int .i64 ev] 92 (0,0)):=by rw [<-hU];exact yB gY 0 _
    have hbU:Below w.heap.size w U:=by rw [<-hU];exact (ym HB2.out hbY).setCell (by show w.heap.size<=w1.heap.size+1;omega) _
    have hSU:StAt U w.heap.size cs0:=by
      refine ⟨?_,rfl⟩;rw [<-hU];exact (heap_setCell_other _ _ _ _ (by show w.heap.size≠w1.heap.size+1;omega)).trans ((hbY.block _ hST.lt).trans hST.o)
    have HA:Hid (Calls Tryz.prog 65 #[.iface 92 (.int .i64 ev),.iface 122 (.pointer (some ⟨w1.heap.size+1,0,none⟩))] V fun e w'=>e=.returned (.bool true)/\w'=U):=by
      have:=y5d ev ⟨w1.heap.size+1,0,none⟩ (.int .i64 0) V hgV he0 hf0;rw [hY,hU] at this;exact this
    have HSU:Hid (StAt U w.heap.size cs0):=hSU;have HBU:Hid (Below w.heap.size w U):=hbU;have eU:U.cell? ⟨w1.heap.size+1,0,none⟩=some (.int .i64 ev):=yb gU 0;have z:=yl hSU.o;have s0:U.cell? ⟨w.heap.size,0,none⟩=some (.int .i64 0):=yb hSU.o 0;have s1:U.cell? ⟨w.heap.size,1,none⟩=some (.string ⟨#[]⟩):=yb hSU.o 1;have s2:U.cell? ⟨w.heap.size,2,none⟩=some (.slice none 0 0):=yb hSU.o 2;have s3:U.cell? ⟨w.heap.size,3,none⟩=some (.slice none 0 0):=yb hSU.o 3;have s4:U.cell? ⟨w.heap.size,4,none⟩=some (.string ⟨#[]⟩):=yb hSU.o 4;have s5:U.cell? ⟨w.heap.size,5,none⟩=some (.slice none 0 0):=yb hSU.o 5;have s6:U.cell? ⟨w.heap.size,6,none⟩=some (.slice none 0 0):=yb hSU.o 6;have s7:U.cell? ⟨w.heap.size,7,none⟩=some (.int .i64 0):=yb hSU.o 7
    have s8:U.cell? ⟨w.heap.size,8,none⟩=some (.string ⟨#[]⟩):=yb hSU.o 8;have s9:U.cell? ⟨w.heap.size,9,none⟩=some (.string ⟨#[]⟩):=yb hSU.o 9;clear hSU hbU gU gY hbY hgV he0 hf0 ge gs hbV hST hY hU hlt HO;go_wp2_with fail
    refine ZJ HA.out rfl (by with_reducible rfl) ?_;rintro e w2 ⟨rfl,rfl⟩;clear hV;go_wp2_with fail
    go_region;go_wp2_with fail
    have hE:=(Z3 HSU.out (.int .i64 0) (.string ⟨#[]⟩) (.slice none 0 0) (.slice none 0 0) (.string ⟨#[]⟩) (.slice none 0 0) (.slice none 0 0) (.int .i64 0) (.string ⟨#[]⟩) (.string ⟨#[]⟩)).o;have hL:=(bl10 HBU.out (Nat.le_refl _) (.int .i64 0) (.string ⟨#[]⟩) (.slice none 0 0) (.slice none 0 0) (.string ⟨#[]⟩) (.slice none 0 0) (.slice none 0 0) (.int .i64 0) (.string ⟨#[]⟩) (.string ⟨#[]⟩)).drew
    obtain ⟨Z,hZ⟩:∃ Z,((((((((((w2.setCell ⟨w.heap.size,0,none⟩ (.int .i64 0)).setCell ⟨w.heap.size,1,none⟩ (.string ⟨#[]⟩)).setCell ⟨w.heap.size,2,none⟩ (.slice none 0 0)).setCell ⟨w.heap.size,3,none⟩ (.slice none 0 0)).setCell ⟨w.heap.size,4,none⟩ (.string ⟨#[]⟩)).setCell ⟨w.heap.size,5,none⟩ (.slice none 0 0)).setCell ⟨w.heap.size,6,none⟩ (.slice none 0 0)).setCell ⟨w.heap.size,7,none⟩ (.int .i64 0)).setCell ⟨w.heap.size,8,none⟩ (.string ⟨#[]⟩)).setCell ⟨w.heap.size,9,none⟩ (.string ⟨#[]⟩))=Z:=⟨_,rfl⟩;rw [hZ] at hE hL;rw [hZ];have hE2:Z.drew.heap[w.heap.size]?=some (.cells (slC SL.zero (.slice none 0 0) (.slice none 0 0) (.slice none 0 0) (.slice none 0 0)) 91 (0,0)):=hE
    refine bodyPost_ret (Z2 rfl _ _ w.heap.size 91 _ (0,0) _ rfl hE2 Tryz.underlying91 rfl Z1) rfl ⟨_,_,_,_,rfl,⟨yw _ _ _ _,yw _ _ _ _,yw _ _ _ _,yw _ _ _ _⟩,hL⟩
end Go.Proofs.YtjgghimjnbjlbaaGreatDoor

namespace Go.Proofs.YtjgghimjnbjlbaaGreatDoor
open Go Go.RowKit
structure Ofw (S:Nat->Prop) (w w':World):Prop where
  os:w'.os=w.os
  tape:w'.tape=w.tape
  output:w'.output=w.output
  size:w.heap.size<=w'.heap.size
  block:∀ k,k<w.heap.size->¬ S k->w'.heap[k]?=w.heap[k]?
theorem Ofw.refl (S:Nat->Prop) (w:World):Ofw S w w:=⟨rfl,rfl,rfl,Nat.le_refl _,fun _ _ _=>rfl⟩
theorem Ofw.trans {S:Nat->Prop} {a b c:World} (h:Ofw S a b) (k:Ofw S b c):Ofw S a c:=
  ⟨k.os.trans h.os,k.tape.trans h.tape,k.output.trans h.output,Nat.le_trans h.size k.size,fun i hi hs=>(k.block i (Nat.lt_of_lt_of_le hi h.size) hs).trans (h.block i hi hs)⟩
theorem Ofw.of_below {S:Nat->Prop} {w w':World} (h:Below w.heap.size w w'):Ofw S w w':=⟨h.os,h.tape,h.output,h.size,fun k hk _=>h.block k hk⟩
theorem Ofw.set {S:Nat->Prop} {w:World} {g i:Nat} (v:Value) (h:S g):Ofw S w (w.setCell ⟨g,i,none⟩ v):=
  ⟨rfl,rfl,rfl,by simp [World.setCell],fun k _ hs=>Below.heap_setCell _ ⟨g,i,none⟩ _ k (fun e=>hs (e▸h))⟩
theorem Ofw.less {S T:Nat->Prop} {w w':World} (h:Ofw S w w') (hs:∀ k,S k->T k):Ofw T w w':=⟨h.os,h.tape,h.output,h.size,fun k hk ht=>h.block k hk fun e=>ht (hs k e)⟩
theorem Ofw.below {S:Nat->Prop} {B:Nat} {w w':World} (h:Ofw S w w') (hS:∀ k,S k->B<=k) (hB:B<=w.heap.size):Below B w w':=⟨h.os,h.tape,h.output,h.size,fun k hk=>h.block k (Nat.lt_of_lt_of_le hk hB) fun e=>by have:=hS k e;omega⟩
def SeqX {α:Type} (F:Fence) (n:Nat) (P:Program) (g:Nat) (lb:Array Value) (encs:α->Array Value) (T:Nat->Prop) (M:Nat) (xs:List α) (w:World):Prop:=
  ∀ (l:Nat) (J J':List α->World->Prop),(∀ s W W',J s W->Ofw T W W'->J s W')->(∀ s W W',J' s W->Ofw T W W'->J' s W') ->
    (∀ pre x post W,xs=pre++x :: post->J pre W->M<=W.heap.size->YieldAt F (n-1) P l (encs x) W fun e W'=>((e=.returned (.bool true)/\J (pre++[x]) W')∨(e=.returned (.bool false)/\J' (pre++[x]) W'))/\W.heap.size<=W'.heap.size/\∀ k,T k->W'.heap[k]?=W.heap[k]?) ->
    J [] w->CallsIn F n P g (#[.func (.yield l) #[] #[]]++lb) w fun e W'=>(∃ v,e=.returned v)/\(J xs W'∨∃ pre x post,xs=pre++x :: post/\J' (pre++[x]) W')
theorem yW {S:Nat->Prop} (W:World) (k:Nat) (o:Obj) (hk:S k):Ofw S W (W.putObj k o):=⟨rfl,rfl,rfl,by simp,fun i _ hi=>World.putObj_heap_other (fun e=>hi (e▸hk))⟩
theorem KS {α:Type} {F:Fence} {n:Nat} {P:Program} {g:Operand} {ps:Array Tmp} {assign body:Code} {Q:Exit->Act->World->Prop} {a:Act} {w:World}
    (hro:F.round=none) (h1:1<=n) {gf:Nat} {lb:Array Value} (hg:a.eval g=.func (.func gf) #[] lb) (hFg:F.fn gf) (eg:∀ args w,(callFunc gf args).run P w=.ok (.enter gf args) w)
    {encs:α->Array Value} {T:Nat->Prop} {M:Nat} {xs:List α} (hT:∀ k,T k->k<w.heap.size∨w.heap.size+2<=k)
    (hseq:∀ W,RowKit.Below w.heap.size w W->W.heap.size=w.heap.size+2->SeqX F (n-1) P gf lb encs T M xs W) (hps:∀ x,(encs x).size=ps.size)
    (I I':List α->World->Prop) (hI:∀ s W W',I s W->Ofw (fun k=>T k∨k=w.heap.size∨k=w.heap.size+1) W W'->I s W') (hI':∀ s W W',I' s W->Ofw (fun k=>T k∨k=w.heap.size∨k=w.heap.size+1) W W'->I' s W') (h0:I [] w) (a₁:α->Act)
    (hassign:∀ (l:Nat) (x:α) (W:World) (K:Act->World->Prop),K (a₁ x) W->assign.wpIn (F.inRound l) (n-1-1) P (Exit.then K (fun _ _ _=>False)) { tmps:=(ps.zip (encs x)).foldl (fun t (p,v)=>t.setIfInBounds p v) a.tmps,defers:=[] } W)
    (hbody:∀ (l:Nat) (pre:List α) (x:α) (post:List α) (W:World),xs=pre++x :: post->I pre W->M<=W.heap.size->w.heap.size+2<=W.heap.size ->
      body.wpIn (F.inRound l) (n-1-1) P (fun ex _ W'=>((ex=.normal/\I (pre++[x]) W')∨(ex=.ret/\I' (pre++[x]) W'))/\W.heap.size<=W'.heap.size/\∀ k,(T k∨k=w.heap.size∨k=w.heap.size+1)->W'.heap[k]?=W.heap[k]?) (a₁ x) W)
    (hdone:∀ (W:World),I xs W->W.heap[w.heap.size]?=some (.deferred (some []))->Q .normal { a with defers:={ target:=.collected w.heap.size,args:=#[] } :: a.defers } W)
    (hstop:∀ (pre:List α) (x:α) (post:List α) (W:World),xs=pre++x :: post->I' (pre++[x]) W->W.heap[w.heap.size]?=some (.deferred (some []))->Q .ret { a with defers:={ target:=.collected w.heap.size,args:=#[] } :: a.defers } W) :
    (Code.rangeFunc g ps assign body).wpIn F n P Q a w:=by
  refine wpIn_rangeFunc fun fn hfn=>?_
  obtain ⟨rec,hrec⟩:∃ rec:LoopState->Option Code->Loop,rec=fun st p=>{ state:=st,pending:=p,fn:=fn,tmps:=a.tmps,params:=ps,assign:=assign,body:=body,defers:=w.heap.size }:=⟨_,rfl⟩
  obtain ⟨D,hD⟩:∃ D,D=w.heap.size:=⟨_,rfl⟩;have hnew:=run_enterLoop_outer (P:=P) (w:=w) fn a.tmps ps assign body;rw [<-hro] at hnew;obtain ⟨W1,hW1⟩:∃ W1,(w.alloc (.deferred (some []))).alloc (.loop (rec .ready none))=W1:=⟨_,rfl⟩;have hrr:rec .ready none={ state:=.ready,pending:=none,fn:=fn,tmps:=a.tmps,params:=ps,assign:=assign,body:=body,defers:=w.heap.size }:=by rw [hrec]
  rw [<-hrr,hW1] at hnew;have hb1:RowKit.Below w.heap.size w W1:=by
    rw [<-hW1];exact ((Below.refl _ w).alloc (Nat.le_refl _) _).alloc (by simp) _
  have hs1:W1.heap.size=w.heap.size+2:=by rw [<-hW1];simp
  have hl1:W1.heap[D+1]?=some (.loop (rec .ready none)):=by
    rw [<-hW1,hD];have:=World.alloc_heap_new (w.alloc (.deferred (some []))) (.loop (rec .ready none))
    rwa [World.size_alloc] at this
  have hk1:W1.heap[D]?=some (.deferred (some [])):=by
    rw [<-hW1,hD];exact (Below.heap_alloc _ _ _ (by simp)).trans (World.alloc_heap_new w _)
  refine ⟨w.heap.size+1,_,W1,{ target:=.fn (.func gf) lb,args:=#[.func (.yield (w.heap.size+1)) #[] #[]] },W1,gf,#[.func (.yield (w.heap.size+1)) #[] #[]]++lb,W1,hnew,?_,?_,?_,fun _=>h1,?_⟩
  · simp only [resolve,hg]
    simp [go_sem]
  · intro f' hf'
    simp [Target.leads] at hf';subst hf';exact hFg
  · simp [invoke,go_sem,eg]
  · rw [<-hD] at hT hseq hI hI' hbody hdone hstop ⊢
    refine (hseq W1 (hD▸hb1) (hD▸hs1) (D+1) (fun pre W=>I pre W/\W.heap[D+1]?=some (.loop (rec .ready none))/\W.heap[D]?=some (.deferred (some []))) (fun pre W=>I' pre W/\W.heap[D+1]?=some (.loop (rec .done (some .ret)))/\W.heap[D]?=some (.deferred (some []))) ?_ ?_ ?_ ⟨hI _ _ _ h0 (Ofw.of_below hb1),hl1,hk1⟩).mono ?_
    · rintro s W W' ⟨hi,hl,hk⟩ ho
      have h3:=(hLt hl);have h4:=(hLt hk);refine ⟨hI s W W' hi (ho.less fun k h=>.inl h),(ho.block _ h3 fun h=>?_).trans hl,(ho.block _ h4 fun h=>?_).trans hk⟩
      · have:=hT _ h;omega
      · have:=hT _ h;omega
    · rintro s W W' ⟨hi,hl,hk⟩ ho
      have h3:=(hLt hl);have h4:=(hLt hk);refine ⟨hI' s W W' hi (ho.less fun k h=>.inl h),(ho.block _ h3 fun h=>?_).trans hl,(ho.block _ h4 fun h=>?_).trans hk⟩
      · have:=hT _ h;omega
      · have:=hT _ h;omega
    · rintro pre x post W hx ⟨hi,hl,hk⟩ hM
      have h3:=(hLt hl);have hy:=run_yield (P:=P) (args:=encs x) hl (by rw [hrec];exact hps x);rw [hrec] at hy;refine ⟨fn,_,assign,body,hy,roundIn_of_wpIn hfn (hassign _ x W _ ?_)⟩;obtain ⟨W2,hW2⟩:∃ W2,W.putObj (D+1) (.loop { rec .ready none with state:=.busy })=W2:=⟨_,rfl⟩;have o2:Ofw (fun k=>T k∨k=D∨k=D+1) W W2:=hW2▸yW W (D+1) _ (.inr (.inr rfl));have l2:W2.heap[D+1]?=some (.loop { rec .ready none with state:=.busy }):=hW2▸World.putObj_heap_same h3;have k2:W2.heap[D]?=some (.deferred (some [])):=hW2▸(World.putObj_heap_other (by omega)).trans hk;have e2:∀ k,k≠D+1->W2.heap[k]?=W.heap[k]?:=fun k hne=>hW2▸World.putObj_heap_other hne
      have s2:W2.heap.size=W.heap.size:=by rw [<-hW2];simp
      refine ⟨W2,hW2▸run_beginRound hl (by rw [hrec]),wpIn_mono (hbody _ pre x post W2 hx (hI _ _ _ hi o2) (by omega) (by omega)) ?_⟩;rintro ex a3 W3 ⟨hex,hs3,hk3⟩;have l3:=(hk3 (D+1) (.inr (.inr rfl))).trans l2;have h5:D+1<W3.heap.size:=(hLt l3);have fin:∀ (st:LoopState) (p:Option Code),(W3.putObj (D+1) (.loop (rec st p))).heap[D+1]?=some (.loop (rec st p))/\(W3.putObj (D+1) (.loop (rec st p))).heap[D]?=some (.deferred (some []))/\W.heap.size<=(W3.putObj (D+1) (.loop (rec st p))).heap.size/\∀ k,T k->(W3.putObj (D+1) (.loop (rec st p))).heap[k]?=W.heap[k]?:=fun st p=>by
        refine ⟨World.putObj_heap_same h5,(World.putObj_heap_other (by omega)).trans ((hk3 D (.inr (.inl rfl))).trans k2),by simp;omega,fun k hTk=>?_⟩;have hne:k≠D+1:=fun e=>by have:=hT k hTk;omega
        exact (World.putObj_heap_other hne).trans ((hk3 k (.inl hTk)).trans (e2 k hne))
      rcases hex with ⟨rfl,hi3⟩ | ⟨rfl,hi3⟩
      · have hr:=run_endRound (P:=P) none l3
        have hre:({ { rec .ready none with state:=.busy } with state:=if (none:Option Code).isNone then .ready else .done,pending:=none }:Loop)=rec .ready none:=by rw [hrec];rfl
        rw [hre] at hr;obtain ⟨f1,f2,f3,f4⟩:=fin .ready none;exact ⟨_,_,hr,.inl ⟨rfl,hI _ _ _ hi3 (yW W3 (D+1) _ (.inr (.inr rfl))),f1,f2⟩,f3,f4⟩
      · have hr:=run_endRound (P:=P) (some .ret) l3
        have hre:({ { rec .ready none with state:=.busy } with state:=if (some Code.ret:Option Code).isNone then .ready else .done,pending:=some .ret }:Loop)=rec .done (some .ret):=by rw [hrec];rfl
        rw [hre] at hr;obtain ⟨f1,f2,f3,f4⟩:=fin .done (some .ret);exact ⟨_,_,hr,.inr ⟨rfl,hI' _ _ _ hi3 (yW W3 (D+1) _ (.inr (.inr rfl))),f1,f2⟩,f3,f4⟩
    · rintro e W2 ⟨⟨v,rfl⟩,(⟨hi,hl,hk⟩ | ⟨pre,x,post,hx,hi,hl,hk⟩)⟩
      · have he:=run_endLoop (P:=P) hl (by rw [hrec];simp)
        have hp:(rec .ready none).pending=none:=by rw [hrec]
        rw [hp] at he;exact ⟨none,_,he,hdone _ (hI _ _ _ hi (yW W2 (D+1) _ (.inr (.inr rfl)))) ((World.putObj_heap_other (by omega)).trans hk)⟩
      · have he:=run_endLoop (P:=P) hl (by rw [hrec];simp)
        have hp:(rec .done (some .ret)).pending=some .ret:=by rw [hrec]
        rw [hp] at he;exact ⟨some .ret,_,he,wpIn_ret (hstop pre x post _ hx (hI' _ _ _ hi (yW W2 (D+1) _ (.inr (.inr rfl)))) ((World.putObj_heap_other (by omega)).trans hk))⟩
end Go.Proofs.YtjgghimjnbjlbaaGreatDoor

namespace Go.Proofs.YtjgghimjnbjlbaaGreatDoor
open Go Go.RowKit
def SeqY {α:Type} (F:Fence) (n:Nat) (P:Program) (g:Nat) (lb:Array Value) (Y:α->Array Value->World->Prop) (U T:Nat->Prop) (M:Nat) (xs:List α) (w:World):Prop:=
  ∀ (l:Nat) (J J':List α->World->Prop),(∀ s W W',J s W->Ofw U W W'->J s W')->(∀ s W W',J' s W->Ofw U W W'->J' s W') ->
    (∀ pre x post vs W,xs=pre++x :: post->J pre W->M<=W.heap.size->Y x vs W->YieldAt F (n-1) P l vs W fun e W'=>((e=.returned (.bool true)/\J (pre++[x]) W')∨(e=.returned (.bool false)/\J' (pre++[x]) W'))/\W.heap.size<=W'.heap.size/\∀ k,T k->W'.heap[k]?=W.heap[k]?) ->
    J [] w->CallsIn F n P g (#[.func (.yield l) #[] #[]]++lb) w fun e W'=>(∃ v,e=.returned v)/\(J xs W'∨∃ pre x post,xs=pre++x :: post/\J' (pre++[x]) W')
theorem Yg {α:Type} {F:Fence} {n:Nat} {P:Program} {g:Operand} {ps:Array Tmp} {assign body:Code} {Q:Exit->Act->World->Prop} {a:Act} {w:World}
    (hro:F.round=none) (h1:1<=n) {gf:Nat} {lb:Array Value} (hg:a.eval g=.func (.func gf) #[] lb) (hFg:F.fn gf) (eg:∀ args w,(callFunc gf args).run P w=.ok (.enter gf args) w)
    {Y:α->Array Value->World->Prop} {U T:Nat->Prop} {M:Nat} (hUT:∀ k,U k->T k) {xs:List α} (hT:∀ k,T k->k<w.heap.size∨w.heap.size+2<=k)
    (hseq:∀ W,RowKit.Below w.heap.size w W->W.heap.size=w.heap.size+2->SeqY F (n-1) P gf lb Y U T M xs W) (hps:∀ x vs W,Y x vs W->vs.size=ps.size) (hYk:∀ x vs W k o rec,Y x vs W->W.heap[k]?=some (.loop rec)->Y x vs (W.putObj k o))
    (I I':List α->World->Prop) (hI:∀ s W W',I s W->Ofw (fun k=>U k∨k=w.heap.size∨k=w.heap.size+1) W W'->I s W') (hI':∀ s W W',I' s W->Ofw (fun k=>U k∨k=w.heap.size∨k=w.heap.size+1) W W'->I' s W') (h0:I [] w) (a₁:Array Value->Act)
    (hassign:∀ (l:Nat) (x:α) (vs:Array Value) (W:World) (K:Act->World->Prop),Y x vs W->K (a₁ vs) W->assign.wpIn (F.inRound l) (n-1-1) P (Exit.then K (fun _ _ _=>False)) { tmps:=(ps.zip vs).foldl (fun t (p,v)=>t.setIfInBounds p v) a.tmps,defers:=[] } W)
    (hbody:∀ (l:Nat) (pre:List α) (x:α) (post:List α) (vs:Array Value) (W:World),xs=pre++x :: post->I pre W->M<=W.heap.size->w.heap.size+2<=W.heap.size->Y x vs W ->
      body.wpIn (F.inRound l) (n-1-1) P (fun ex _ W'=>((ex=.normal/\I (pre++[x]) W')∨(ex=.ret/\I' (pre++[x]) W'))/\W.heap.size<=W'.heap.size/\∀ k,(T k∨k=w.heap.size∨k=w.heap.size+1)->W'.heap[k]?=W.heap[k]?) (a₁ vs) W)
    (hdone:∀ (W:World),I xs W->W.heap[w.heap.size]?=some (.deferred (some []))->Q .normal { a with defers:={ target:=.collected w.heap.size,args:=#[] } :: a.defers } W)
    (hstop:∀ (pre:List α) (x:α) (post:List α) (W:World),xs=pre++x :: post->I' (pre++[x]) W->W.heap[w.heap.size]?=some (.deferred (some []))->Q .ret { a with defers:={ target:=.collected w.heap.size,args:=#[] } :: a.defers } W) :
    (Code.rangeFunc g ps assign body).wpIn F n P Q a w:=by
  refine wpIn_rangeFunc fun fn hfn=>?_
  obtain ⟨rec,hrec⟩:∃ rec:LoopState->Option Code->Loop,rec=fun st p=>{ state:=st,pending:=p,fn:=fn,tmps:=a.tmps,params:=ps,assign:=assign,body:=body,defers:=w.heap.size }:=⟨_,rfl⟩
  obtain ⟨D,hD⟩:∃ D,D=w.heap.size:=⟨_,rfl⟩;have hnew:=run_enterLoop_outer (P:=P) (w:=w) fn a.tmps ps assign body;rw [<-hro] at hnew;obtain ⟨W1,hW1⟩:∃ W1,(w.alloc (.deferred (some []))).alloc (.loop (rec .ready none))=W1:=⟨_,rfl⟩;have hrr:rec .ready none={ state:=.ready,pending:=none,fn:=fn,tmps:=a.tmps,params:=ps,assign:=assign,body:=body,defers:=w.heap.size }:=by rw [hrec]
  rw [<-hrr,hW1] at hnew;have hb1:RowKit.Below w.heap.size w W1:=by
    rw [<-hW1];exact ((Below.refl _ w).alloc (Nat.le_refl _) _).alloc (by simp) _
  have hs1:W1.heap.size=w.heap.size+2:=by rw [<-hW1];simp
  have hl1:W1.heap[D+1]?=some (.loop (rec .ready none)):=by
    rw [<-hW1,hD];have:=World.alloc_heap_new (w.alloc (.deferred (some []))) (.loop (rec .ready none))
    rwa [World.size_alloc] at this
  have hk1:W1.heap[D]?=some (.deferred (some [])):=by
    rw [<-hW1,hD];exact (Below.heap_alloc _ _ _ (by simp)).trans (World.alloc_heap_new w _)
  refine ⟨w.heap.size+1,_,W1,{ target:=.fn (.func gf) lb,args:=#[.func (.yield (w.heap.size+1)) #[] #[]] },W1,gf,#[.func (.yield (w.heap.size+1)) #[] #[]]++lb,W1,hnew,?_,?_,?_,fun _=>h1,?_⟩
  · simp only [resolve,hg]
    simp [go_sem]
  · intro f' hf'
    simp [Target.leads] at hf';subst hf';exact hFg
  · simp [invoke,go_sem,eg]
  · rw [<-hD] at hT hseq hI hI' hbody hdone hstop ⊢
    refine (hseq W1 (hD▸hb1) (hD▸hs1) (D+1) (fun pre W=>I pre W/\W.heap[D+1]?=some (.loop (rec .ready none))/\W.heap[D]?=some (.deferred (some []))) (fun pre W=>I' pre W/\W.heap[D+1]?=some (.loop (rec .done (some .ret)))/\W.heap[D]?=some (.deferred (some []))) ?_ ?_ ?_ ⟨hI _ _ _ h0 (Ofw.of_below hb1),hl1,hk1⟩).mono ?_
    · rintro s W W' ⟨hi,hl,hk⟩ ho
      have h3:=(hLt hl);have h4:=(hLt hk);refine ⟨hI s W W' hi (ho.less fun k h=>.inl h),(ho.block _ h3 fun h=>?_).trans hl,(ho.block _ h4 fun h=>?_).trans hk⟩
      · have:=hT _ (hUT _ h);omega
      · have:=hT _ (hUT _ h);omega
    · rintro s W W' ⟨hi,hl,hk⟩ ho
      have h3:=(hLt hl);have h4:=(hLt hk);refine ⟨hI' s W W' hi (ho.less fun k h=>.inl h),(ho.block _ h3 fun h=>?_).trans hl,(ho.block _ h4 fun h=>?_).trans hk⟩
      · have:=hT _ (hUT _ h);omega
      · have:=hT _ (hUT _ h);omega
    · rintro pre x post vs W hx ⟨hi,hl,hk⟩ hM hYx
      have h3:=(hLt hl);have hy:=run_yield (P:=P) (args:=vs) hl (by rw [hrec];exact hps x vs W hYx);rw [hrec] at hy;refine ⟨fn,_,assign,body,hy,roundIn_of_wpIn hfn (hassign _ x vs W _ hYx ?_)⟩;obtain ⟨W2,hW2⟩:∃ W2,W.putObj (D+1) (.loop { rec .ready none with state:=.busy })=W2:=⟨_,rfl⟩;have o2:Ofw (fun k=>U k∨k=D∨k=D+1) W W2:=hW2▸yW W (D+1) _ (.inr (.inr rfl));have l2:W2.heap[D+1]?=some (.loop { rec .ready none with state:=.busy }):=hW2▸World.putObj_heap_same h3;have k2:W2.heap[D]?=some (.deferred (some [])):=hW2▸(World.putObj_heap_other (by omega)).trans hk;have e2:∀ k,k≠D+1->W2.heap[k]?=W.heap[k]?:=fun k hne=>hW2▸World.putObj_heap_other hne
      have s2:W2.heap.size=W.heap.size:=by rw [<-hW2];simp
      refine ⟨W2,hW2▸run_beginRound hl (by rw [hrec]),wpIn_mono (hbody _ pre x post vs W2 hx (hI _ _ _ hi o2) (by omega) (by omega) (hW2▸hYk x vs W _ _ _ hYx hl)) ?_⟩;rintro ex a3 W3 ⟨hex,hs3,hk3⟩;have l3:=(hk3 (D+1) (.inr (.inr rfl))).trans l2;have h5:D+1<W3.heap.size:=(hLt l3);have fin:∀ (st:LoopState) (p:Option Code),(W3.putObj (D+1) (.loop (rec st p))).heap[D+1]?=some (.loop (rec st p))/\(W3.putObj (D+1) (.loop (rec st p))).heap[D]?=some (.deferred (some []))/\W.heap.size<=(W3.putObj (D+1) (.loop (rec st p))).heap.size/\∀ k,T k->(W3.putObj (D+1) (.loop (rec st p))).heap[k]?=W.heap[k]?:=fun st p=>by
        refine ⟨World.putObj_heap_same h5,(World.putObj_heap_other (by omega)).trans ((hk3 D (.inr (.inl rfl))).trans k2),by simp;omega,fun k hTk=>?_⟩;have hne:k≠D+1:=fun e=>by have:=hT k hTk;omega
        exact (World.putObj_heap_other hne).trans ((hk3 k (.inl hTk)).trans (e2 k hne))
      rcases hex with ⟨rfl,hi3⟩ | ⟨rfl,hi3⟩
      · have hr:=run_endRound (P:=P) none l3
        have hre:({ { rec .ready none with state:=.busy } with state:=if (none:Option Code).isNone then .ready else .done,pending:=none }:Loop)=rec .ready none:=by rw [hrec];rfl
        rw [hre] at hr;obtain ⟨f1,f2,f3,f4⟩:=fin .ready none;exact ⟨_,_,hr,.inl ⟨rfl,hI _ _ _ hi3 (yW W3 (D+1) _ (.inr (.inr rfl))),f1,f2⟩,f3,f4⟩
      · have hr:=run_endRound (P:=P) (some .ret) l3
        have hre:({ { rec .ready none with state:=.busy } with state:=if (some Code.ret:Option Code).isNone then .ready else .done,pending:=some .ret }:Loop)=rec .done (some .ret):=by rw [hrec];rfl
        rw [hre] at hr;obtain ⟨f1,f2,f3,f4⟩:=fin .done (some .ret);exact ⟨_,_,hr,.inr ⟨rfl,hI' _ _ _ hi3 (yW W3 (D+1) _ (.inr (.inr rfl))),f1,f2⟩,f3,f4⟩
    · rintro e W2 ⟨⟨v,rfl⟩,(⟨hi,hl,hk⟩ | ⟨pre,x,post,hx,hi,hl,hk⟩)⟩
      · have he:=run_endLoop (P:=P) hl (by rw [hrec];simp)
        have hp:(rec .ready none).pending=none:=by rw [hrec]
        rw [hp] at he;exact ⟨none,_,he,hdone _ (hI _ _ _ hi (yW W2 (D+1) _ (.inr (.inr rfl)))) ((World.putObj_heap_other (by omega)).trans hk)⟩
      · have he:=run_endLoop (P:=P) hl (by rw [hrec];simp)
        have hp:(rec .done (some .ret)).pending=some .ret:=by rw [hrec]
        rw [hp] at he;exact ⟨some .ret,_,he,wpIn_ret (hstop pre x post _ hx (hI' _ _ _ hi (yW W2 (D+1) _ (.inr (.inr rfl)))) ((World.putObj_heap_other (by omega)).trans hk))⟩
end Go.Proofs.YtjgghimjnbjlbaaGreatDoor

namespace Go.Proofs.YtjgghimjnbjlbaaGreatDoor
open Go.RowKit
def gd (x:List UInt8):SL:=(xC x).1
def er (x:List UInt8):Int:=(xC x).2
end Go.Proofs.YtjgghimjnbjlbaaGreatDoor
