/-
  Put together: PfSame, RoA, RoB, RoLi, RoLt, RoLo, RoLp, RoC, RoD, RoHn, RoHi, RoHt, RoHp, RoHo, RoHs, RoH.
-/
import Derived.Test.YtpcijhecaedkpaaGreatDoorJ35
import Derived.Test.YtpcijhecaedkpaaGreatDoorPfEq
import Derived.Test.YtpcijhecaedkpaaGreatDoorJ31
import Derived.Test.YtpcijhecaedkpaaGreatDoorJ34
import Derived.WalkSmall
namespace Go.Proofs.YtpcijhecaedkpaaGreatDoor
open Go.RowKit
set_option maxRecDepth 10000
set_option maxHeartbeats 8000000
def RdAt (w:World) (v:Value) (n:Nat) (xs:List Value):Prop:=∃ a cap,v=.slice a n cap/\n<=9223372036854775807/\(0<n->∃ g off,a=some ⟨g,off,none⟩/\g<w.heap.size/\∀ j u,xs[j]?=some u->w.cell? ⟨g,off+j,none⟩=some u)
theorem RdAt.below {w w':World} {v:Value} {n:Nat} {xs:List Value} (h:RdAt w v n xs) (hb:Below w.heap.size w w'):RdAt w' v n xs:=by
  obtain ⟨a,cap,h1,h2,h3⟩:=h;refine ⟨a,cap,h1,h2,fun h0=>?_⟩;obtain ⟨g,off,e1,e2,e3⟩:=h3 h0;exact ⟨g,off,e1,Nat.lt_of_lt_of_le e2 hb.size,fun j u hu=>(hb.cell (p:=⟨g,off+j,none⟩) e2).trans (e3 j u hu)⟩
structure SlR (w:World) (d:SL) (vo vp vl vi:Value):Prop where
  o:RdAt w vo d.ops.length (opsC d.ops)
  p:RdAt w vp d.pcs.length (pcsC d.pcs)
  l:RdAt w vl d.lits.length (d.lits.map (.int .i64))
  i:RdAt w vi d.ids.length (d.ids.map fun x=>.string (txtOf x))
theorem SlR.below {w w':World} {d:SL} {vo vp vl vi:Value} (h:SlR w d vo vp vl vi) (hb:Below w.heap.size w w'):SlR w' d vo vp vl vi:=⟨h.o.below hb,h.p.below hb,h.l.below hb,h.i.below hb⟩
theorem sameTexts_eq (L:List (List UInt8)) (v v':Value) (w:World) (h:RdAt w v L.length (L.map fun x=>.string (txtOf x))) (h':RdAt w v' L.length (L.map fun x=>.string (txtOf x))):Calls Tryz.prog 35 #[v,v'] w fun e w'=>e=.returned (.bool true)/\Below w.heap.size w w':=by
  obtain ⟨a,cap,rfl,hn,hc⟩:=h;obtain ⟨a',cap',rfl,_,hc'⟩:=h';have HC:Hid (∀ w',Below w.heap.size w w'->∀ j (hj:j<L.length),∃ g off,a=some ⟨g,off,none⟩/\w'.cell? ⟨g,off+j,none⟩=some (.string (txtOf L[j]))):=fun w' hb j hj=>by
    obtain ⟨g,off,e1,e2,e3⟩:=hc (by omega);exact ⟨g,off,e1,(hb.cell (p:=⟨g,off+j,none⟩) e2).trans (e3 j _ (by simp [hj]))⟩
  have HC':Hid (∀ w',Below w.heap.size w w'->∀ j (hj:j<L.length),∃ g off,a'=some ⟨g,off,none⟩/\w'.cell? ⟨g,off+j,none⟩=some (.string (txtOf L[j]))):=fun w' hb j hj=>by
    obtain ⟨g,off,e1,e2,e3⟩:=hc' (by omega);exact ⟨g,off,e1,(hb.cell (p:=⟨g,off+j,none⟩) e2).trans (e3 j _ (by simp [hj]))⟩
  clear hc hc';go_enter Tryz.func35,Tryz.ntmps35;go_wp2_with fail
  go_loopw [5] (fun iv wr=>∃ k:Nat,iv=.int .i64 (k:Int)/\k<=L.length/\Hid (Below w.heap.size w wr)) (fun iv _=>L.length-(intOf iv).toNat)
  case atStart=>exact ⟨0,rfl,Nat.zero_le _,Below.refl _ _⟩
  case round=>
    obtain ⟨k,rfl,hk,HBr⟩:=hrel
    by_cases hkn:k<L.length
    · have hkI:(k:Int)<(L.length:Int):=by omega
      obtain ⟨g,off,rfl,x0⟩:=HC.out wr HBr.out k hkn;obtain ⟨g',off',rfl,y0⟩:=HC'.out wr HBr.out k hkn;have hq:=txt_beq L[k] L[k];rw [decide_eq_true rfl] at hq;obtain ⟨T,hT⟩:∃ T,txtOf L[k]=T:=⟨_,rfl⟩;rw [hT] at x0 y0 hq;clear hT;go_wp2_with fail
      go_region;have HBd:Hid (Below w.heap.size w wr.drew):=HBr.out.drew;go_wp2_with fail
      go_roundw
      case rel=>exact ⟨k+1,by go_num,hkn,HBd⟩
      case measure=>simp [intOf];omega
    · have hkI:¬ (k:Int)<(L.length:Int):=by omega
      go_wp2_with fail
      go_ret;exact ⟨rfl,HBr.out⟩
theorem pcs_get (L:List PcL) (j:Nat) (hj:j<L.length):(pcsC L)[j*2]?=some (.string (txtOf L[j].1))/\(pcsC L)[j*2+1]?=some (.int .i64 L[j].2):=by
  induction L generalizing j with
  | nil=>exact absurd hj (Nat.not_lt_zero _)
  | cons o L ih =>
    have e:pcsC (o :: L)=pcC o++pcsC L:=by simp [pcsC]
    cases j with
    | zero=>exact ⟨rfl,rfl⟩
    | succ j =>
      obtain ⟨h1,h2⟩:=ih j (by simpa using hj);have k:∀ i,(pcsC (o :: L))[(j+1)*2+i]?=(pcsC L)[j*2+i]?:=fun i=>by
        rw [e,List.getElem?_append_right (by simp [pcC];omega)]
        congr 1
        simp [pcC];omega
      have k0:=k 0;simp only [Nat.add_zero] at k0;exact ⟨k0.trans h1,(k 1).trans h2⟩
theorem ops_get (L:List OpL) (j:Nat) (hj:j<L.length):(opsC L)[j*3]?=some (.int .i64 L[j].1)/\(opsC L)[j*3+1]?=some (.string (txtOf L[j].2.1))/\(opsC L)[j*3+2]?=some (.int .i64 L[j].2.2):=by
  induction L generalizing j with
  | nil=>exact absurd hj (Nat.not_lt_zero _)
  | cons o L ih =>
    have e:opsC (o :: L)=opC o++opsC L:=by simp [opsC]
    cases j with
    | zero=>exact ⟨rfl,rfl,rfl⟩
    | succ j =>
      obtain ⟨h1,h2,h3⟩:=ih j (by simpa using hj);have k:∀ i,(opsC (o :: L))[(j+1)*3+i]?=(opsC L)[j*3+i]?:=fun i=>by
        rw [e,List.getElem?_append_right (by simp [opC];omega)]
        congr 1
        simp [opC];omega
      have k0:=k 0;simp only [Nat.add_zero] at k0;exact ⟨k0.trans h1,(k 1).trans h2,(k 2).trans h3⟩
theorem sameRow_eq (L:List PcL) (deg:List UInt8) (v v':Value) (w:World) (h:RdAt w v L.length (pcsC L)) (h':RdAt w v' L.length (pcsC L)):Calls Tryz.prog 36 #[.agg #[v,.string (txtOf deg)],.agg #[v',.string (txtOf deg)]] w fun e w'=>e=.returned (.bool true)/\Below w.heap.size w w':=by
  obtain ⟨a,cap,rfl,hn,hc⟩:=h;obtain ⟨a',cap',rfl,_,hc'⟩:=h';have HC:Hid (∀ w',Below w.heap.size w w'->∀ j (hj:j<L.length),∃ g off,a=some ⟨g,off,none⟩/\w'.cell? ⟨g,off+j*2,none⟩=some (.string (txtOf L[j].1))/\w'.cell? ⟨g,off+j*2+1,none⟩=some (.int .i64 L[j].2)):=fun w' hb j hj=>by
    obtain ⟨g,off,e1,e2,e3⟩:=hc (by omega);obtain ⟨p1,p2⟩:=pcs_get L j hj;exact ⟨g,off,e1,(hb.cell (p:=⟨g,off+j*2,none⟩) e2).trans (e3 _ _ p1),(hb.cell (p:=⟨g,off+j*2+1,none⟩) e2).trans (e3 _ _ p2)⟩
  have HC':Hid (∀ w',Below w.heap.size w w'->∀ j (hj:j<L.length),∃ g off,a'=some ⟨g,off,none⟩/\w'.cell? ⟨g,off+j*2,none⟩=some (.string (txtOf L[j].1))/\w'.cell? ⟨g,off+j*2+1,none⟩=some (.int .i64 L[j].2)):=fun w' hb j hj=>by
    obtain ⟨g,off,e1,e2,e3⟩:=hc' (by omega);obtain ⟨p1,p2⟩:=pcs_get L j hj;exact ⟨g,off,e1,(hb.cell (p:=⟨g,off+j*2,none⟩) e2).trans (e3 _ _ p1),(hb.cell (p:=⟨g,off+j*2+1,none⟩) e2).trans (e3 _ _ p2)⟩
  have hqd:=txt_beq deg deg;rw [decide_eq_true rfl] at hqd;obtain ⟨D,hD⟩:∃ D,txtOf deg=D:=⟨_,rfl⟩;rw [hD] at hqd;rw [hD];obtain ⟨W,hW⟩:∃ W,(w.alloc (.cells #[.slice a L.length cap,.string D] 49)).alloc (.cells #[.slice a' L.length cap',.string D] 49)=W:=⟨_,rfl⟩;have hb0:Below w.heap.size w W:=by rw [<-hW];exact ((Below.refl _ _).alloc (Nat.le_refl _) _).alloc (by simp) _
  have g0:W.heap[w.heap.size]?=some (.cells #[.slice a L.length cap,.string D] 49 (0,0)):=by rw [<-hW,heap_alloc_old (w.alloc _) _ (by simp)];exact heap_alloc_new w _
  have g1:W.heap[w.heap.size+1]?=some (.cells #[.slice a' L.length cap',.string D] 49 (0,0)):=by rw [<-hW];exact heap_alloc2_new w _ _
  have hl0:=(Array.getElem?_eq_some_iff.1 g0).1;have hl1:=(Array.getElem?_eq_some_iff.1 g1).1;have HB:Hid (Below w.heap.size w W):=hb0;have HM:Hid (∀ w',Below W.heap.size W w'->w'.cell? ⟨w.heap.size,0,none⟩=some (.slice a L.length cap)/\w'.cell? ⟨w.heap.size+1,0,none⟩=some (.slice a' L.length cap')/\w'.cell? ⟨w.heap.size,1,none⟩=some (.string D)/\w'.cell? ⟨w.heap.size+1,1,none⟩=some (.string D)):=fun w' hb=>by
    have f0:=(hb.block _ hl0).trans g0;have f1:=(hb.block _ hl1).trans g1;exact ⟨cell_of f0 0,cell_of f1 0,cell_of f0 1,cell_of f1 1⟩
  obtain ⟨m0,m1,m2,m3⟩:=HM.out W (Below.refl _ _);clear hc hc' hD hb0 g0 g1 hl0 hl1;go_enter Tryz.func36,Tryz.ntmps36;go_wp2_with fail
  go_loopw [5] (fun iv wr=>∃ k:Nat,iv=.int .i64 (k:Int)/\k<=L.length/\Hid (Below W.heap.size W wr)) (fun iv _=>L.length-(intOf iv).toNat)
  case atStart=>exact ⟨0,rfl,Nat.zero_le _,Below.refl _ _⟩
  case round=>
    obtain ⟨k,rfl,hk,HBr⟩:=hrel;obtain ⟨n0,n1,_,_⟩:=HM.out wr HBr.out
    by_cases hkn:k<L.length
    · have hkI:(k:Int)<(L.length:Int):=by omega
      obtain ⟨g,off,rfl,x0,x1⟩:=HC.out wr (HB.out.trans (HBr.out.mono HB.out.size)) k hkn;obtain ⟨g',off',rfl,y0,y1⟩:=HC'.out wr (HB.out.trans (HBr.out.mono HB.out.size)) k hkn;obtain ⟨T,hT⟩:∃ T,txtOf L[k].1=T:=⟨_,rfl⟩;obtain ⟨n,hn2⟩:∃ n,L[k].2=n:=⟨_,rfl⟩;rw [hT] at x0 y0;rw [hn2] at x1 y1;have hne:∀ W,(binOp .neq 160 (.agg #[.string T,.int .i64 n]) (.agg #[.string T,.int .i64 n])).run Tryz.prog W=.ok (.bool false) W:=fun W=>by rw [pc_neq];simp
      clear hT hn2;go_wp2_with fail
      go_region;have HBd:Hid (Below W.heap.size W wr.drew):=HBr.out.drew;go_wp2_with fail
      go_roundw
      case rel=>exact ⟨k+1,by go_num,hkn,HBd⟩
      case measure=>simp [intOf];omega
    · have hkI:¬ (k:Int)<(L.length:Int):=by omega
      go_wp2_with fail
      go_ret;exact ⟨rfl,HB.out.trans (HBr.out.mono HB.out.size)⟩
theorem same_eq (d:SL) (vo vp vl vi vo2 vp2 vl2 vi2:Value) (w:World) (h:SlR w d vo vp vl vi) (h':SlR w d vo2 vp2 vl2 vi2):Calls Tryz.prog 13 #[.agg (slC d vo vp vl vi),.agg (slC d vo2 vp2 vl2 vi2)] w fun e w'=>e=.returned (.bool true)/\Below w.heap.size w w':=by
  have hn1:=txt_beq d.n d.n;have hn2:=txt_beq d.low d.low;have hn3:=txt_beq d.high d.high;rw [decide_eq_true rfl] at hn1 hn2 hn3;obtain ⟨oa,oc,rfl,ho,hco⟩:=id h.o;obtain ⟨oa2,oc2,rfl,_,hco2⟩:=id h'.o;obtain ⟨pa,pc,rfl,hp,_⟩:=id h.p;obtain ⟨pa2,pc2,rfl,_,_⟩:=id h'.p;obtain ⟨la,lc,rfl,hl,hcl⟩:=id h.l;obtain ⟨la2,lc2,rfl,_,hcl2⟩:=id h'.l;obtain ⟨ia,ic,rfl,hi,_⟩:=id h.i;obtain ⟨ia2,ic2,rfl,_,_⟩:=id h'.i;unfold slC;have HTx:Hid (∀ w',Below w.heap.size w w'->Calls Tryz.prog 35 #[.slice ia d.ids.length ic,.slice ia2 d.ids.length ic2] w' fun e w2=>e=.returned (.bool true)/\Below w'.heap.size w' w2):=fun w' hb=>sameTexts_eq d.ids _ _ w' (h.below hb).i (h'.below hb).i
  have HRw:Hid (∀ w',Below w.heap.size w w'->Calls Tryz.prog 36 #[.agg #[.slice pa d.pcs.length pc,.string (txtOf d.deg)],.agg #[.slice pa2 d.pcs.length pc2,.string (txtOf d.deg)]] w' fun e w2=>e=.returned (.bool true)/\Below w'.heap.size w' w2):=fun w' hb=>sameRow_eq d.pcs d.deg _ _ w' (h.below hb).p (h'.below hb).p
  have HCo:Hid (∀ w',Below w.heap.size w w'->∀ j (hj:j<d.ops.length),(∃ g off,oa=some ⟨g,off,none⟩/\w'.cell? ⟨g,off+j*3,none⟩=some (.int .i64 d.ops[j].1)/\w'.cell? ⟨g,off+j*3+1,none⟩=some (.string (txtOf d.ops[j].2.1))/\w'.cell? ⟨g,off+j*3+2,none⟩=some (.int .i64 d.ops[j].2.2))/\∃ g off,oa2=some ⟨g,off,none⟩/\w'.cell? ⟨g,off+j*3,none⟩=some (.int .i64 d.ops[j].1)/\w'.cell? ⟨g,off+j*3+1,none⟩=some (.string (txtOf d.ops[j].2.1))/\w'.cell? ⟨g,off+j*3+2,none⟩=some (.int .i64 d.ops[j].2.2)):=fun w' hb j hj=>by
    obtain ⟨p1,p2,p3⟩:=ops_get d.ops j hj;obtain ⟨g,off,e1,e2,e3⟩:=hco (by omega);obtain ⟨g',off',e1',e2',e3'⟩:=hco2 (by omega);exact ⟨⟨g,off,e1,(hb.cell (p:=⟨g,off+j*3,none⟩) e2).trans (e3 _ _ p1),(hb.cell (p:=⟨g,off+j*3+1,none⟩) e2).trans (e3 _ _ p2),(hb.cell (p:=⟨g,off+j*3+2,none⟩) e2).trans (e3 _ _ p3)⟩,g',off',e1',(hb.cell (p:=⟨g',off'+j*3,none⟩) e2').trans (e3' _ _ p1),(hb.cell (p:=⟨g',off'+j*3+1,none⟩) e2').trans (e3' _ _ p2),(hb.cell (p:=⟨g',off'+j*3+2,none⟩) e2').trans (e3' _ _ p3)⟩
  have HCl:Hid (∀ w',Below w.heap.size w w'->∀ j (hj:j<d.lits.length),(∃ g off,la=some ⟨g,off,none⟩/\w'.cell? ⟨g,off+j,none⟩=some (.int .i64 d.lits[j]))/\∃ g off,la2=some ⟨g,off,none⟩/\w'.cell? ⟨g,off+j,none⟩=some (.int .i64 d.lits[j])):=fun w' hb j hj=>by
    obtain ⟨g,off,e1,e2,e3⟩:=hcl (by omega);obtain ⟨g',off',e1',e2',e3'⟩:=hcl2 (by omega);exact ⟨⟨g,off,e1,(hb.cell (p:=⟨g,off+j,none⟩) e2).trans (e3 j _ (by simp [hj]))⟩,g',off',e1',(hb.cell (p:=⟨g',off'+j,none⟩) e2').trans (e3' j _ (by simp [hj]))⟩
  obtain ⟨N,hN⟩:∃ N,txtOf d.n=N:=⟨_,rfl⟩;obtain ⟨D,hD⟩:∃ D,txtOf d.deg=D:=⟨_,rfl⟩;obtain ⟨Lo,hLo⟩:∃ D,txtOf d.low=D:=⟨_,rfl⟩;obtain ⟨Hi,hHi⟩:∃ D,txtOf d.high=D:=⟨_,rfl⟩;rw [hN] at hn1;rw [hLo] at hn2;rw [hHi] at hn3;rw [hD] at HRw;rw [hN,hD,hLo,hHi];obtain ⟨W,hW⟩:∃ W,(w.alloc (.cells #[.int .i64 d.k,.string N,.slice oa d.ops.length oc,.slice pa d.pcs.length pc,.string D,.slice la d.lits.length lc,.slice ia d.ids.length ic,.int .i64 d.ends,.string Lo,.string Hi] 51)).alloc (.cells #[.int .i64 d.k,.string N,.slice oa2 d.ops.length oc2,.slice pa2 d.pcs.length pc2,.string D,.slice la2 d.lits.length lc2,.slice ia2 d.ids.length ic2,.int .i64 d.ends,.string Lo,.string Hi] 51)=W:=⟨_,rfl⟩;have hb0:Below w.heap.size w W:=by rw [<-hW];exact ((Below.refl _ _).alloc (Nat.le_refl _) _).alloc (by simp) _
  have g0:W.heap[w.heap.size]?=some (.cells #[.int .i64 d.k,.string N,.slice oa d.ops.length oc,.slice pa d.pcs.length pc,.string D,.slice la d.lits.length lc,.slice ia d.ids.length ic,.int .i64 d.ends,.string Lo,.string Hi] 51 (0,0)):=by rw [<-hW,heap_alloc_old (w.alloc _) _ (by simp)];exact heap_alloc_new w _
  have g1:W.heap[w.heap.size+1]?=some (.cells #[.int .i64 d.k,.string N,.slice oa2 d.ops.length oc2,.slice pa2 d.pcs.length pc2,.string D,.slice la2 d.lits.length lc2,.slice ia2 d.ids.length ic2,.int .i64 d.ends,.string Lo,.string Hi] 51 (0,0)):=by rw [<-hW];exact heap_alloc2_new w _ _
  have hl0:=(Array.getElem?_eq_some_iff.1 g0).1;have hl1:=(Array.getElem?_eq_some_iff.1 g1).1;have HB:Hid (Below w.heap.size w W):=hb0
  have HM:Hid (∀ w',Below W.heap.size W w'->(w'.cell? ⟨w.heap.size,0,none⟩=some (.int .i64 d.k)/\w'.cell? ⟨w.heap.size,1,none⟩=some (.string N)/\w'.cell? ⟨w.heap.size,2,none⟩=some (.slice oa d.ops.length oc)/\w'.cell? ⟨w.heap.size,3,none⟩=some (.slice pa d.pcs.length pc)/\w'.cell? ⟨w.heap.size,4,none⟩=some (.string D)/\w'.cell? ⟨w.heap.size,5,none⟩=some (.slice la d.lits.length lc)/\w'.cell? ⟨w.heap.size,6,none⟩=some (.slice ia d.ids.length ic)/\w'.cell? ⟨w.heap.size,7,none⟩=some (.int .i64 d.ends)/\w'.cell? ⟨w.heap.size,8,none⟩=some (.string Lo)/\w'.cell? ⟨w.heap.size,9,none⟩=some (.string Hi))/\(w'.cell? ⟨w.heap.size+1,0,none⟩=some (.int .i64 d.k)/\w'.cell? ⟨w.heap.size+1,1,none⟩=some (.string N)/\w'.cell? ⟨w.heap.size+1,2,none⟩=some (.slice oa2 d.ops.length oc2)/\w'.cell? ⟨w.heap.size+1,3,none⟩=some (.slice pa2 d.pcs.length pc2)/\w'.cell? ⟨w.heap.size+1,4,none⟩=some (.string D)/\w'.cell? ⟨w.heap.size+1,5,none⟩=some (.slice la2 d.lits.length lc2)/\w'.cell? ⟨w.heap.size+1,6,none⟩=some (.slice ia2 d.ids.length ic2)/\w'.cell? ⟨w.heap.size+1,7,none⟩=some (.int .i64 d.ends)/\w'.cell? ⟨w.heap.size+1,8,none⟩=some (.string Lo)/\w'.cell? ⟨w.heap.size+1,9,none⟩=some (.string Hi))):=fun w' hb=>by
    have f0:=(hb.block _ hl0).trans g0;have f1:=(hb.block _ hl1).trans g1;exact ⟨⟨cell_of f0 0,cell_of f0 1,cell_of f0 2,cell_of f0 3,cell_of f0 4,cell_of f0 5,cell_of f0 6,cell_of f0 7,cell_of f0 8,cell_of f0 9⟩,cell_of f1 0,cell_of f1 1,cell_of f1 2,cell_of f1 3,cell_of f1 4,cell_of f1 5,cell_of f1 6,cell_of f1 7,cell_of f1 8,cell_of f1 9⟩
  obtain ⟨⟨m0,m1,m2,m3,m4,m5,m6,m7,m8,m9⟩,n0,n1,n2,n3,n4,n5,n6,n7,n8,n9⟩:=HM.out W (Below.refl _ _);clear hb0 g0 g1 hl0 hl1 h h' hco hco2 hcl hcl2 hN hD hLo hHi;go_enter Tryz.func13,Tryz.ntmps13;go_wp2_with fail
  refine calls_at (HTx.out W HB.out) (by with_reducible rfl) (by with_reducible rfl) ?_;rintro e w1 ⟨rfl,hb1⟩;have HB1:Hid (Below W.heap.size W w1):=hb1;clear hb1 m0 m1 m2 m3 m4 m5 m6 m7 m8 m9 n0 n1 n2 n3 n4 n5 n6 n7 n8 n9;obtain ⟨⟨_,_,_,m3,m4,_,_,_,_,_⟩,_,_,_,n3,n4,_,_,_,_,_⟩:=HM.out w1 HB1.out;go_wp2_with fail
  refine calls_at (HRw.out w1 (HB.out.trans (HB1.out.mono HB.out.size))) (by with_reducible rfl) (by with_reducible rfl) ?_;rintro e w2 ⟨rfl,hb2⟩;have HB2:Hid (Below W.heap.size W w2):=bl_next HB1.out hb2;clear hb2 m3 m4 n3 n4;go_wp2_with fail
  go_loopw [5] (fun iv wr=>∃ k:Nat,iv=.int .i64 (k:Int)/\k<=d.ops.length/\Hid (Below W.heap.size W wr)) (fun iv _=>d.ops.length-(intOf iv).toNat)
  case atStart=>exact ⟨0,rfl,Nat.zero_le _,HB2⟩
  case round=>
    obtain ⟨k,rfl,hk,HBr⟩:=hrel;obtain ⟨⟨_,_,m2,_,_,_,_,_,_,_⟩,_,_,n2,_,_,_,_,_,_,_⟩:=HM.out wr HBr.out
    by_cases hkn:k<d.ops.length
    · have hkI:(k:Int)<(d.ops.length:Int):=by omega
      obtain ⟨⟨g,off,rfl,x0,x1,x2⟩,g',off',rfl,y0,y1,y2⟩:=HCo.out wr (HB.out.trans (HBr.out.mono HB.out.size)) k hkn;obtain ⟨T,hT⟩:∃ T,txtOf d.ops[k].2.1=T:=⟨_,rfl⟩;obtain ⟨k1,hk1⟩:∃ n,d.ops[k].1=n:=⟨_,rfl⟩;obtain ⟨k3,hk3⟩:∃ n,d.ops[k].2.2=n:=⟨_,rfl⟩;rw [hT] at x1 y1;rw [hk1] at x0 y0;rw [hk3] at x2 y2;have hne:∀ W,(binOp .neq 106 (.agg #[.int .i64 k1,.string T,.int .i64 k3]) (.agg #[.int .i64 k1,.string T,.int .i64 k3])).run Tryz.prog W=.ok (.bool false) W:=fun W=>by rw [op_neq];simp
      clear hT hk1 hk3;go_wp2_with fail
      go_region;have HBd:Hid (Below W.heap.size W wr.drew):=HBr.out.drew;go_wp2_with fail
      go_roundw
      case rel=>exact ⟨k+1,by go_num,hkn,HBd⟩
      case measure=>simp [intOf];omega
    · have hkI:¬ (k:Int)<(d.ops.length:Int):=by omega
      go_wp2_with fail
      go_loopw [6] (fun iv wq=>∃ k:Nat,iv=.int .i64 (k:Int)/\k<=d.lits.length/\Hid (Below W.heap.size W wq)) (fun iv _=>d.lits.length-(intOf iv).toNat)
      case atStart=>exact ⟨0,rfl,Nat.zero_le _,HBr⟩
      case round=>
        obtain ⟨i,rfl,hi2,HBq⟩:=hrel;obtain ⟨⟨_,_,_,_,_,m5,_,_,_,_⟩,_,_,_,_,_,n5,_,_,_,_⟩:=HM.out wr HBq.out
        by_cases hin:i<d.lits.length
        · have hiI:(i:Int)<(d.lits.length:Int):=by omega
          obtain ⟨⟨g,off,rfl,x0⟩,g',off',rfl,y0⟩:=HCl.out wr (HB.out.trans (HBq.out.mono HB.out.size)) i hin;obtain ⟨z,hz⟩:∃ z,d.lits[i]=z:=⟨_,rfl⟩;rw [hz] at x0 y0;clear hz;go_wp2_with fail
          go_region;have HBd:Hid (Below W.heap.size W wr.drew):=HBq.out.drew;go_wp2_with fail
          go_roundw
          case rel=>exact ⟨i+1,by go_num,hin,HBd⟩
          case measure=>simp [intOf];omega
        · have hiI:¬ (i:Int)<(d.lits.length:Int):=by omega
          go_wp2_with fail
          go_ret;exact ⟨rfl,HB.out.trans (HBq.out.mono HB.out.size)⟩
end Go.Proofs.YtpcijhecaedkpaaGreatDoor

namespace Go.Proofs.YtpcijhecaedkpaaGreatDoor
open Go.RowKit
abbrev Lab:=Nat->Nat
structure Agree (S S':Lab) (w w':World):Prop where
  os:w'.os=w.os
  tape:w'.tape=w.tape
  output:w'.output=w.output
  size:w.heap.size<=w'.heap.size
  lab:∀ k,k<w.heap.size->S' k=S k
  block:∀ k,k<w.heap.size->(S k=0∨1000<=S k)->w'.heap[k]?=w.heap[k]?
theorem Agree.refl (S:Lab) (w:World):Agree S S w w:=⟨rfl,rfl,rfl,Nat.le_refl _,fun _ _=>rfl,fun _ _ _=>rfl⟩
theorem Agree.trans {S1 S2 S3:Lab} {w1 w2 w3:World} (h:Agree S1 S2 w1 w2) (k:Agree S2 S3 w2 w3):Agree S1 S3 w1 w3:=
  ⟨k.os.trans h.os,k.tape.trans h.tape,k.output.trans h.output,Nat.le_trans h.size k.size,fun i hi=>(k.lab i (Nat.lt_of_lt_of_le hi h.size)).trans (h.lab i hi),
    fun i hi h0=>(k.block i (Nat.lt_of_lt_of_le hi h.size) (by rw [h.lab i hi];exact h0)).trans (h.block i hi h0)⟩
theorem Agree.of_below (S:Lab) {w w':World} (hb:Below w.heap.size w w'):Agree S S w w':=
  ⟨hb.os,hb.tape,hb.output,hb.size,fun _ _=>rfl,fun i hi _=>hb.block i hi⟩
theorem Agree.below {S S':Lab} {w w':World} {base:Nat} (h:Agree S S' w w') (hb:base<=w.heap.size) (h0:∀ k,k<base->S k=0):Below base w w':=
  ⟨h.os,h.tape,h.output,h.size,fun i hi=>h.block i (Nat.lt_of_lt_of_le hi hb) (.inl (h0 i hi))⟩
theorem Agree.cell {S S':Lab} {w w':World} (h:Agree S S' w w') {a:Addr} (ha:a.block<w.heap.size) (h0:S a.block=0∨1000<=S a.block):w'.cell? a=w.cell? a:=
  World.cell?_of_block (h.block _ ha h0)
structure RoomAt (ety:Nat->TypeId) (base:Nat) (R:Nat) (S:Lab) (F:Nat->List Value) (w:World):Prop where
  lab:S R=100
  top:∀ k,w.heap.size<=k->S k=0
  low:∀ k,k<base->S k=0
  bas:base<=w.heap.size
  blk:∃ cs t,w.heap[R]?=some (.cells cs t (0,0))/\cs.size=28
  field:∀ f,f<28->∃ v,w.cell? ⟨R,f,none⟩=some v/\w.ownsRow base (ety f) 1 v (F f).length (F f)/\∀ g,v.ownBlock=some g->S g=f+1
theorem RoomAt.lt {ety:Nat->TypeId} {base R:Nat} {S:Lab} {F:Nat->List Value} {w:World} (h:RoomAt ety base R S F w):R<w.heap.size:=by
  obtain ⟨cs,t,hb,_⟩:=h.blk;exact (Array.getElem?_eq_some_iff.1 hb).1
theorem ownsRow_same {w w':World} {base:Nat} {e:TypeId} {size:Nat} {v:Value} {n:Nat} {xs:List Value} (h:w.ownsRow base e size v n xs) (hb:∀ g,v.ownBlock=some g->w'.heap[g]?=w.heap[g]?):w'.ownsRow base e size v n xs:=by
  refine ⟨h.1,?_⟩;rcases h.2 with hn | ⟨g,cap,cur,rfl,hbg,hgg,rest⟩
  · exact .inl hn
  · exact .inr ⟨g,cap,cur,rfl,hbg,(hb g rfl).trans hgg,rest⟩
theorem RoomAt.kept {ety:Nat->TypeId} {base R:Nat} {S:Lab} {F:Nat->List Value} {w w':World} (h:RoomAt ety base R S F w) (hb:Below w.heap.size w w'):RoomAt ety base R S F w':=by
  have hR:=h.lt;refine ⟨h.lab,fun k hk=>h.top k (Nat.le_trans hb.size hk),h.low,Nat.le_trans h.bas hb.size,?_,fun f hf=>?_⟩
  · obtain ⟨cs,t,h1,h2⟩:=h.blk
    exact ⟨cs,t,(hb.block R hR).trans h1,h2⟩
  · obtain ⟨v,h1,h2,h3⟩:=h.field f hf
    exact ⟨v,(hb.cell (p:=⟨R,f,none⟩) hR).trans h1,ownsRow_same h2 (fun g hg=>hb.block g (h2.lt g hg).2),h3⟩
theorem RoomAt.push {ety:Nat->TypeId} {base R:Nat} {S:Lab} {F:Nat->List Value} {w W w':World} {f:Nat} {v v' u:Value} (h:RoomAt ety base R S F w) (hf:f<28) (hW:Below w.heap.size w W)
    (hv:w.cell? ⟨R,f,none⟩=some v) (ho:w'.ownsRow base (ety f) 1 v' ((F f).length+1) (F f++[u])) (hg:W.grownBy w' v.ownBlock) (hn:v'.ownBlock=v.ownBlock∨v'.ownBlock=some W.heap.size) :
    ∃ S',RoomAt ety base R S' (fun j=>if j=f then F f++[u] else F j) (w'.setCell ⟨R,f,none⟩ v')/\Agree S S' w (w'.setCell ⟨R,f,none⟩ v')/\∀ k,w.heap.size<=k->some k≠v'.ownBlock->S' k=0:=by
  have hR:=h.lt;obtain ⟨v0,hv0,hov,hlv⟩:=h.field f hf;have:v0=v:=by rw [hv] at hv0;injection hv0 with e;exact e.symm
  subst this;have hvl:∀ g,v0.ownBlock=some g->g<w.heap.size:=fun g hg=>(hov.lt g hg).2
  have hv'l:=ho.lt;have hneR:some R≠v0.ownBlock:=fun he=>by have h1:=hlv R he.symm;rw [h.lab] at h1;omega
  have hsz1:w.heap.size<=W.heap.size:=hW.size;have blk1:∀ k,k<w.heap.size->some k≠v0.ownBlock->w'.heap[k]?=w.heap[k]?:=fun k hk hne=>(hg.block k (Nat.lt_of_lt_of_le hk hsz1) hne).trans (hW.block k hk)
  have blk2:∀ k,k<w.heap.size->some k≠v0.ownBlock->k≠R->(w'.setCell ⟨R,f,none⟩ v').heap[k]?=w.heap[k]?:=fun k hk hne hkR=>(Below.heap_setCell w' ⟨R,f,none⟩ v' k hkR).trans (blk1 k hk hne)
  have hsz2:(w'.setCell ⟨R,f,none⟩ v').heap.size=w'.heap.size:=by simp [World.setCell]
  have hRblk:=blk1 R hR hneR;obtain ⟨cs,t,hcs,hcsz⟩:=h.blk;rw [hcs] at hRblk;have hRnew:(w'.setCell ⟨R,f,none⟩ v').heap[R]?=some (.cells (cs.setIfInBounds f v') t (0,0)):=by simp [World.setCell,Array.getElem?_modify,hRblk]
  have hv'R:v'.ownBlock≠some R:=by
    rcases hn with e | e
    · rw [e];exact fun he=>hneR he.symm
    · rw [e];intro he;injection he with he;omega
  refine ⟨fun k=>if some k=v'.ownBlock then f+1 else S k,⟨?_,?_,?_,?_,?_,?_⟩,⟨?_,?_,?_,?_,?_,?_⟩,?_⟩
  · show (if some R=v'.ownBlock then f+1 else S R)=100
    rw [if_neg (fun he=>hv'R he.symm)];exact h.lab
  · intro k hk
    rw [hsz2] at hk;show (if some k=v'.ownBlock then f+1 else S k)=0;rw [if_neg (fun he=>by have:=(hv'l k he.symm).2;omega)];exact h.top k (by have:=hg.size;omega)
  · intro k hk
    show (if some k=v'.ownBlock then f+1 else S k)=0;rw [if_neg (fun he=>by have:=(hv'l k he.symm).1;omega)];exact h.low k hk
  · rw [hsz2];exact Nat.le_trans h.bas (Nat.le_trans hsz1 hg.size)
  · exact ⟨_,t,hRnew,by simpa using hcsz⟩
  · intro j hj
    by_cases hjf:j=f
    · subst hjf
      refine ⟨v',?_,?_,?_⟩
      · unfold World.cell?
        rw [hRnew];simp [hcsz,hj]
      · simp only [if_true]
        rw [List.length_append];refine ownsRow_same ho (fun g hg'=>?_);exact Below.heap_setCell w' ⟨R,j,none⟩ v' g (fun he=>hv'R (by rw [hg',show g=R from he]))
      · intro g hg'
        show (if some g=v'.ownBlock then j+1 else S g)=j+1;rw [if_pos hg'.symm]
    · obtain ⟨x,hx,hox,hlx⟩:=h.field j hj
      have hxlt:=fun g hg=>(hox.lt g hg).2
      have hxv:∀ g,x.ownBlock=some g->some g≠v0.ownBlock:=fun g hg he=>by
        have h1:=hlx g hg;have h2:=hlv g he.symm;omega
      have hxR:∀ g,x.ownBlock=some g->g≠R:=fun g hg he=>by
        have h1:=hlx g hg;rw [he,h.lab] at h1;omega
      refine ⟨x,?_,?_,?_⟩
      · have hx':cs[j]?=some x:=by
          have:=hx;unfold World.cell? at this;rw [hcs] at this;exact this
        unfold World.cell?;rw [hRnew];show (cs.setIfInBounds f v')[j]?=some x;rw [Array.getElem?_setIfInBounds_ne (fun he=>hjf he.symm)];exact hx'
      · simp only [hjf,if_false]
        exact ownsRow_same hox (fun g hg=>blk2 g (hxlt g hg) (hxv g hg) (hxR g hg))
      · intro g hg'
        show (if some g=v'.ownBlock then f+1 else S g)=j+1;rw [if_neg ?_]
        · exact hlx g hg'
        · intro he
          rcases hn with e | e
          · exact hxv g hg' (he.trans e)
          · rw [e] at he
            injection he with he;have:=hxlt g hg';omega
  · exact (show (w'.setCell ⟨R,f,none⟩ v').os=w'.os from rfl).trans (hg.os.trans hW.os)
  · exact (show (w'.setCell ⟨R,f,none⟩ v').tape=w'.tape from rfl).trans (hg.tape.trans hW.tape)
  · exact (show (w'.setCell ⟨R,f,none⟩ v').output=w'.output from rfl).trans (hg.output.trans hW.output)
  · rw [hsz2];exact Nat.le_trans hsz1 hg.size
  · intro k hk
    show (if some k=v'.ownBlock then f+1 else S k)=S k
    split
    · rename_i he
      rcases hn with e | e
      · exact (hlv k (by rw [<-e];exact he.symm)).symm
      · rw [e] at he
        injection he with he;omega
    · rfl
  · intro k hk h0
    refine blk2 k hk (fun he=>?_) (fun he=>?_)
    · have:=hlv k he.symm;omega
    · rw [he,h.lab] at h0;omega
  · intro k hk hne
    show (if some k=v'.ownBlock then f+1 else S k)=0;rw [if_neg hne];exact h.top k hk
theorem RoomAt.push_high {ety:Nat->TypeId} {base R:Nat} {S:Lab} {F:Nat->List Value} {w W w':World} {f:Nat} {v v':Value} (h:RoomAt ety base R S F w) (hf:f<28) (hW:Below w.heap.size w W)
    (hv:w.cell? ⟨R,f,none⟩=some v) (hg:W.grownBy w' v.ownBlock):∀ k,k<w.heap.size->150<=S k->(w'.setCell ⟨R,f,none⟩ v').heap[k]?=w.heap[k]?:=by
  intro k hk hS;obtain ⟨v0,hv0,hov,hlv⟩:=h.field f hf;have:v0=v:=by rw [hv] at hv0;injection hv0 with e;exact e.symm
  subst this;have h1:some k≠v0.ownBlock:=fun he=>by have:=hlv k he.symm;omega
  have h2:k≠R:=fun he=>by rw [he,h.lab] at hS;omega
  exact (Below.heap_setCell w' ⟨R,f,none⟩ v' k h2).trans ((hg.block k (Nat.lt_of_lt_of_le hk hW.size) h1).trans (hW.block k hk))
def ety:Nat->TypeId
  | 0=>29
  | 2=>22
  | 8=>47
  | 10=>46
  | 22=>61
  | _=>3
theorem RoomAt.after {base R:Nat} {S:Lab} {F:Nat->List Value} {w W w':World} {f:Nat} {v:Value} (h:RoomAt ety base R S F w) (hf:f<28) (hW:Below w.heap.size w W) (hv:w.cell? ⟨R,f,none⟩=some v) (hg:W.grownBy w' v.ownBlock) :
    (∀ j,w'.cell? ⟨R,j,none⟩=w.cell? ⟨R,j,none⟩)/\∀ j,w'.frozen? ⟨R,j,none⟩=false:=by
  have hR:=h.lt;obtain ⟨v0,hv0,hov,hlv⟩:=h.field f hf;have:v0=v:=by rw [hv] at hv0;injection hv0 with e;exact e.symm
  subst this;have hneR:some R≠v0.ownBlock:=fun he=>by have h1:=hlv R he.symm;rw [h.lab] at h1;omega
  have hb:w'.heap[R]?=w.heap[R]?:=(hg.block R (Nat.lt_of_lt_of_le hR hW.size) hneR).trans (hW.block R hR);refine ⟨fun j=>World.cell?_of_block (a:=⟨R,j,none⟩) hb,fun j=>?_⟩;obtain ⟨cs,t,hcs,_⟩:=h.blk;unfold World.frozen?;simp [hb,hcs]
theorem RoomAt.set {ety:Nat->TypeId} {base R:Nat} {S:Lab} {F:Nat->List Value} {w:World} (h:RoomAt ety base R S F w) {N:Nat} (hN:150<=S N/\S N<1000) (i:Nat) (v:Value):RoomAt ety base R S F (w.setCell ⟨N,i,none⟩ v):=by
  have hsz:(w.setCell ⟨N,i,none⟩ v).heap.size=w.heap.size:=by simp [World.setCell]
  have hb:∀ k,k≠N->(w.setCell ⟨N,i,none⟩ v).heap[k]?=w.heap[k]?:=fun k hk=>Below.heap_setCell w ⟨N,i,none⟩ v k hk
  have hRN:R≠N:=fun e=>by rw [<-e,h.lab] at hN;omega
  refine ⟨h.lab,fun k hk=>h.top k (by rwa [hsz] at hk),h.low,by rw [hsz];exact h.bas,?_,fun f hf=>?_⟩
  · obtain ⟨cs,t,h1,h2⟩:=h.blk
    exact ⟨cs,t,(hb R hRN).trans h1,h2⟩
  · obtain ⟨u,h1,h2,h3⟩:=h.field f hf
    exact ⟨u,(World.cell?_of_block (a:=⟨R,f,none⟩) (hb R hRN)).trans h1,ownsRow_same h2 (fun g hg'=>hb g (fun e=>by have:=h3 g hg';rw [e] at this;omega)),h3⟩
theorem Agree.set {S S':Lab} {w w1:World} (h:Agree S S' w w1) {N:Nat} (hN:150<=S' N/\S' N<1000) (i:Nat) (v:Value):Agree S S' w (w1.setCell ⟨N,i,none⟩ v):=by
  refine ⟨h.os,h.tape,h.output,by simpa [World.setCell] using h.size,h.lab,fun k hk h0=>?_⟩;have hkN:k≠N:=fun e=>by have:=h.lab k hk;rw [e] at this h0;omega
  exact (Below.heap_setCell w1 ⟨N,i,none⟩ v k hkN).trans (h.block k hk h0)
def lab2 (S:Lab) (N:Nat):Lab:=fun k=>if k=N∨k=N+1 then 150 else S k
theorem RoomAt.lab2 {ety:Nat->TypeId} {base R:Nat} {S:Lab} {F:Nat->List Value} {w:World} (h:RoomAt ety base R S F w) {N:Nat} (hN:N+1<w.heap.size) (hb:base<=N) (h0:S N=0) (h1:S (N+1)=0):RoomAt ety base R (lab2 S N) F w:=by
  have hne:∀ k,S k≠0->Go.Proofs.YtpcijhecaedkpaaGreatDoor.lab2 S N k=S k:=fun k hk=>if_neg (fun e=>by rcases e with rfl | rfl <;> contradiction)
  refine ⟨(hne R (by rw [h.lab];decide)).trans h.lab,fun k hk=>?_,fun k hk=>?_,h.bas,h.blk,fun f hf=>?_⟩
  · unfold Go.Proofs.YtpcijhecaedkpaaGreatDoor.lab2
    rw [if_neg (by omega)];exact h.top k hk
  · unfold Go.Proofs.YtpcijhecaedkpaaGreatDoor.lab2
    rw [if_neg (by omega)];exact h.low k hk
  · obtain ⟨v,h1',h2,h3⟩:=h.field f hf
    exact ⟨v,h1',h2,fun g hg=>(hne g (by rw [h3 g hg];omega)).trans (h3 g hg)⟩
theorem agree_lab2 {S:Lab} {w w1:World} (hb:Below w.heap.size w w1):Agree S (lab2 S w.heap.size) w w1:=
  ⟨hb.os,hb.tape,hb.output,hb.size,fun k hk=>by unfold lab2;rw [if_neg (by omega)],fun k hk _=>hb.block k hk⟩
theorem box10 {w:World} {N:Nat} {a0 a1 a2 a3 a4 a5 a6 a7 a8 a9:Value} {t:TypeId} (h:w.heap[N]?=some (.cells #[a0,a1,a2,a3,a4,a5,a6,a7,a8,a9] t (0,0))) :
    (w.cell? ⟨N,0,none⟩=some a0/\w.cell? ⟨N,1,none⟩=some a1/\w.cell? ⟨N,2,none⟩=some a2/\w.cell? ⟨N,3,none⟩=some a3/\w.cell? ⟨N,4,none⟩=some a4/\w.cell? ⟨N,5,none⟩=some a5/\w.cell? ⟨N,6,none⟩=some a6/\w.cell? ⟨N,7,none⟩=some a7/\w.cell? ⟨N,8,none⟩=some a8/\w.cell? ⟨N,9,none⟩=some a9)/\∀ j,w.frozen? ⟨N,j,none⟩=false:=by
  refine ⟨⟨?_,?_,?_,?_,?_,?_,?_,?_,?_,?_⟩,fun j=>?_⟩ <;> simp [World.cell?,World.frozen?,h]
theorem grownBy_of_below {w W w':World} {row:Option Nat} (hW:Below w.heap.size w W) (hg:W.grownBy w' row):w.grownBy w' row:=
  ⟨hg.os.trans hW.os,hg.tape.trans hW.tape,hg.output.trans hW.output,Nat.le_trans hW.size hg.size,fun k hk hne=>(hg.block k (Nat.lt_of_lt_of_le hk hW.size) hne).trans (hW.block k hk)⟩
theorem row_step {base R b0:Nat} {S1:Lab} {F1:Nat->List Value} {w1 W1 w2:World} {fv fv':Value} (hR:RoomAt ety base R S1 F1 w1) (hl:∀ g,fv.ownBlock=some g->S1 g=160/\b0<=g/\g<w1.heap.size) (hbase:base<=b0)
    (hW:Below w1.heap.size w1 W1) (hg:W1.grownBy w2 fv.ownBlock) (hn:fv'.ownBlock=fv.ownBlock∨∃ g,fv'.ownBlock=some g/\w1.heap.size<=g) (ho:∀ g,fv'.ownBlock=some g->g<w2.heap.size) :
    ∃ S2:Lab,RoomAt ety base R S2 F1 w2/\Agree S1 S2 w1 w2/\∀ g,fv'.ownBlock=some g->S2 g=160:=by
  have gw:=grownBy_of_below hW hg;have hsz:=gw.size;have hRl:=hR.lt;have hbs:=hR.bas;have key:∀ k,fv'.ownBlock=some k->(S1 k=160/\b0<=k)∨w1.heap.size<=k:=fun k hk=>by
    rcases hn with e | ⟨g,e,hge⟩
    · rw [e] at hk;exact .inl ⟨(hl k hk).1,(hl k hk).2.1⟩
    · rw [e] at hk;injection hk with hk;exact .inr (by omega)
  have kept:∀ k,k<w1.heap.size->S1 k≠160->w2.heap[k]?=w1.heap[k]?:=fun k hk hS=>gw.block k hk (fun e=>hS (hl k e.symm).1)
  refine ⟨fun k=>if fv'.ownBlock=some k then 160 else S1 k,⟨?_,fun k hk=>?_,fun k hk=>?_,Nat.le_trans hbs hsz,?_,fun f hf=>?_⟩,⟨gw.os,gw.tape,gw.output,hsz,fun k hk=>?_,fun k hk h0=>kept k hk (by omega)⟩,fun g hg'=>by simp [hg']⟩
  · have:fv'.ownBlock≠some R:=fun h=>by
      rcases key R h with h1 | h1
      · rw [hR.lab] at h1;omega
      · omega
    simp [this,hR.lab]
  · have:fv'.ownBlock≠some k:=fun h=>by have:=ho k h;omega
    simp [this];exact hR.top k (by omega)
  · have:fv'.ownBlock≠some k:=fun h=>by
      rcases key k h with h1 | h1 <;> omega
    simp [this];exact hR.low k hk
  · obtain ⟨cs,t,h1,h2⟩:=hR.blk
    exact ⟨cs,t,(kept R hRl (by rw [hR.lab];decide)).trans h1,h2⟩
  · obtain ⟨v,h1,h2,h3⟩:=hR.field f hf
    refine ⟨v,(World.cell?_of_block (a:=⟨R,f,none⟩) (kept R hRl (by rw [hR.lab];decide))).trans h1,ownsRow_same h2 (fun g hg'=>kept g (h2.lt g hg').2 (by rw [h3 g hg'];omega)),fun g hg'=>?_⟩;have:fv'.ownBlock≠some g:=fun h=>by
      have a:=h3 g hg';have b:=(h2.lt g hg').2
      rcases key g h with h1 | h1 <;> omega
    simp [this];exact h3 g hg'
  · by_cases h:fv'.ownBlock=some k
    · simp [h]
      rcases key k h with h1 | h1
      · exact h1.1.symm
      · omega
    · simp [h]
theorem RoomAt.free {base R b:Nat} {S:Lab} {F:Nat->List Value} {w:World} (h:RoomAt ety base R S F w) (hb:S b=160):RoomAt ety base R (fun k=>if k=b then 0 else S k) F w:=by
  refine ⟨?_,fun k hk=>?_,fun k hk=>?_,h.bas,h.blk,fun f hf=>?_⟩
  · have:R≠b:=fun e=>by rw [<-e,h.lab] at hb;omega
    simp [this,h.lab]
  · by_cases e:k=b
    · simp [e]
    · simp [e];exact h.top k hk
  · by_cases e:k=b
    · simp [e]
    · simp [e];exact h.low k hk
  · obtain ⟨v,h1,h2,h3⟩:=h.field f hf
    refine ⟨v,h1,h2,fun g hg=>?_⟩;have a:=h3 g hg;have:g≠b:=fun e=>by rw [<-e,a] at hb;omega
    simp [this,a]
def lab160 (S:Lab) (N:Nat):Lab:=fun k=>if k=N then 160 else S k
theorem RoomAt.lab160 {base R:Nat} {S:Lab} {F:Nat->List Value} {w:World} (h:RoomAt ety base R S F w) {N:Nat} (hN:N<w.heap.size) (hb:base<=N) (h0:S N=0):RoomAt ety base R (lab160 S N) F w:=by
  refine ⟨?_,fun k hk=>?_,fun k hk=>?_,h.bas,h.blk,fun f hf=>?_⟩
  · have:R≠N:=fun e=>by rw [<-e,h.lab] at h0;omega
    simp [Go.Proofs.YtpcijhecaedkpaaGreatDoor.lab160,this,h.lab]
  · have:k≠N:=by omega
    simp [Go.Proofs.YtpcijhecaedkpaaGreatDoor.lab160,this];exact h.top k hk
  · have:k≠N:=by omega
    simp [Go.Proofs.YtpcijhecaedkpaaGreatDoor.lab160,this];exact h.low k hk
  · obtain ⟨v,h1,h2,h3⟩:=h.field f hf
    refine ⟨v,h1,h2,fun g hg=>?_⟩;have a:=h3 g hg;have:g≠N:=fun e=>by rw [<-e,a] at h0;omega
    simp [Go.Proofs.YtpcijhecaedkpaaGreatDoor.lab160,this,a]
theorem agree_lab160 {S:Lab} {w w1:World} (hb:Below w.heap.size w w1):Agree S (lab160 S w.heap.size) w w1:=
  ⟨hb.os,hb.tape,hb.output,hb.size,fun k hk=>by unfold lab160;rw [if_neg (by omega)],fun k hk _=>hb.block k hk⟩
def lb (f n:Nat):Nat:=2000000*(f+1)+n
theorem lb_fre (f n:Nat):1000<=lb f n:=by unfold lb;omega
def mk1 (S:Lab) (b l:Nat):Lab:=fun k=>if k=b then l else S k
theorem mk1_at (S:Lab) (b l:Nat):mk1 S b l b=l:=if_pos rfl
theorem mk1_ne {S:Lab} {b l k:Nat} (h:k≠b):mk1 S b l k=S k:=if_neg h
theorem RoomAt.mk1 {base R b:Nat} {S:Lab} {F:Nat->List Value} {w:World} (h:RoomAt ety base R S F w) (h0:S b=0) (hb:b<w.heap.size) (hB:base<=b) (l:Nat):RoomAt ety base R (mk1 S b l) F w:=by
  refine ⟨?_,fun k hk=>?_,fun k hk=>?_,h.bas,h.blk,fun f hf=>?_⟩
  · rw [mk1_ne (fun e=>by rw [<-e,h.lab] at h0;omega)];exact h.lab
  · rw [mk1_ne (by omega)];exact h.top k hk
  · rw [mk1_ne (by omega)];exact h.low k hk
  · obtain ⟨v,h1,h2,h3⟩:=h.field f hf
    refine ⟨v,h1,h2,fun g hg=>?_⟩;have a:=h3 g hg;rw [mk1_ne (fun e=>by rw [<-e,a] at h0;omega)];exact a
theorem Agree.mk1 {S S':Lab} {w w':World} {b:Nat} (h:Agree S S' w w') (hb:w.heap.size<=b) (l:Nat):Agree S (mk1 S' b l) w w':=
  ⟨h.os,h.tape,h.output,h.size,fun k hk=>by rw [mk1_ne (by omega)];exact h.lab k hk,h.block⟩
end Go.Proofs.YtpcijhecaedkpaaGreatDoor

namespace Go.Proofs.YtpcijhecaedkpaaGreatDoor
open Go.RowKit
def lotI (j:Nat):Int:=if j % 2=0 then -7701 else -7702
def wordB (j:Nat):ByteArray:=if j % 2=0 then ⟨#[60,111,110,101,62]⟩ else ⟨#[60,116,119,111,62]⟩
def mark (f j:Nat):List Value:=
  match f with
  | 0=>[.int .i64 (lotI j)]
  | 1=>[.string (wordB j)]
  | 4=>[.string ⟨#[]⟩,.int .i64 (lotI j)]
  | 5=>[.int .i64 0,.string ⟨#[]⟩,.int .i64 (lotI j)]
  | 11=>[.int .i64 0,.string ⟨#[]⟩,.slice none 0 0,.slice none 0 0,.string ⟨#[]⟩,.slice none 0 0,.slice none 0 0,.int .i64 (lotI j),.string ⟨#[]⟩,.string ⟨#[]⟩]
  | _=>[]
def esz (f:Nat):Nat:=
  match f with
  | 4=>2
  | 5=>3
  | 11=>10
  | _=>1
def usedF (f:Nat):Bool:=f==0||f==1||f==4||f==5||f==11
theorem mark_len {f:Nat} (hf:usedF f=true) (j:Nat):(mark f j).length=esz f:=by
  unfold usedF at hf;simp only [Bool.or_eq_true,beq_iff_eq] at hf
  rcases hf with (((rfl | rfl) | rfl) | rfl) | rfl <;> rfl
theorem mark_one {f:Nat} (j:Nat):∀ u∈mark f j,u.oneCell'=true:=by
  intro u hu;unfold mark at hu
  split at hu <;> simp only [List.mem_cons,List.not_mem_nil,or_false] at hu
  · subst hu;rfl
  · subst hu;rfl
  · rcases hu with rfl | rfl <;> rfl
  · rcases hu with rfl | rfl | rfl <;> rfl
  · rcases hu with rfl | rfl | rfl | rfl | rfl | rfl | rfl | rfl | rfl | rfl <;> rfl
def marks (f k:Nat):List Value:=(List.range k).flatMap (mark f)
theorem marks_next (f k:Nat):marks f (k+1)=marks f k++mark f k:=by unfold marks;rw [List.range_succ];simp
theorem marks_zero (f:Nat):marks f 0=[]:=rfl
theorem marks_len {f:Nat} (hf:usedF f=true) (k:Nat):(marks f k).length=k*esz f:=by
  induction k with
  | zero=>simp [marks]
  | succ k ih=>rw [marks_next,List.length_append,ih,mark_len hf,Nat.succ_mul]
theorem marks_get {f:Nat} (hf:usedF f=true) {k j q:Nat} {u:Value} (hj:j<k) (hq:(mark f j)[q]?=some u):(marks f k)[j*esz f+q]?=some u:=by
  induction k with
  | zero=>omega
  | succ k ih =>
    rw [marks_next]
    by_cases e:j=k
    · subst e
      rw [List.getElem?_append_right (by rw [marks_len hf];omega),marks_len hf,Nat.add_sub_cancel_left];exact hq
    · have hl:j*esz f+q<(marks f k).length:=(List.getElem?_eq_some_iff.1 (ih (by omega))).1
      rw [List.getElem?_append_left hl];exact ih (by omega)
def Ent (S:Lab) (w:World) (f:Nat) (x a:Value):Prop:=∃ b n room cap:Nat,x=.slice (some ⟨b,0,none⟩) (n+room) cap/\a=.int .i64 (n:Int)/\n<=1000000/\room<=40/\n+room<=cap/\S b=lb f n/\b<w.heap.size/\∀ j,j<room->∀ q u,(mark f j)[q]?=some u->w.cell? ⟨b,(n+j)*esz f+q,none⟩=some u
theorem Ent.agree {S S':Lab} {w w':World} {f:Nat} {x a:Value} (h:Ent S w f x a) (ha:Agree S S' w w'):Ent S' w' f x a:=by
  obtain ⟨b,n,room,cap,h1,h2,h3,h4,h4',h5,h6,h7⟩:=h;exact ⟨b,n,room,cap,h1,h2,h3,h4,h4',(ha.lab b h6).trans h5,Nat.lt_of_lt_of_le h6 ha.size,fun j hj q u hu=>(ha.cell (a:=⟨b,_,none⟩) h6 (.inr (by rw [h5];exact lb_fre f n))).trans (h7 j hj q u hu)⟩
theorem Ent.mk1 {S:Lab} {w:World} {f:Nat} {x a:Value} {b:Nat} (h:Ent S w f x a) (h0:S b=0) (l:Nat):Ent (mk1 S b l) w f x a:=by
  obtain ⟨c,n,room,cap,h1,h2,h3,h4,h4',h5,h6,h7⟩:=h;exact ⟨c,n,room,cap,h1,h2,h3,h4,h4',by rw [mk1_ne (fun e=>by rw [e,h0] at h5;unfold lb at h5;omega)];exact h5,h6,h7⟩
structure RoomF (base R:Nat) (S:Lab) (N:Nat) (F:Nat->List Value) (w:World):Prop where
  room:RoomAt ety base R S F w
  len:∀ f,f<14->(F (2*f)).length<=N/\(F (2*f+1)).length=(F (2*f)).length
  none:∀ f,f<14->usedF f=false->F (2*f)=[]
  ent:∀ f,f<14->∀ (i:Nat) (x a:Value),(F (2*f))[i]?=some x->(F (2*f+1))[i]?=some a->Ent S w f x a
def RoomG (base R:Nat) (S:Lab) (N:Nat) (w:World):Prop:=∃ F,RoomF base R S N F w
theorem RoomF.below {base R:Nat} {S:Lab} {N:Nat} {F:Nat->List Value} {w w':World} (h:RoomF base R S N F w) (hb:Below w.heap.size w w'):RoomF base R S N F w':=
  ⟨h.room.kept hb,h.len,h.none,fun f hf i x a h1 h2=>(h.ent f hf i x a h1 h2).agree (Agree.of_below S hb)⟩
theorem RoomF.move {base R:Nat} {S S':Lab} {N:Nat} {F:Nat->List Value} {w w':World} (h:RoomF base R S N F w) (hr:RoomAt ety base R S' F w') (ha:Agree S S' w w'):RoomF base R S' N F w':=
  ⟨hr,h.len,h.none,fun f hf i x a h1 h2=>(h.ent f hf i x a h1 h2).agree ha⟩
theorem RoomF.more {base R:Nat} {S:Lab} {N M:Nat} {F:Nat->List Value} {w:World} (h:RoomF base R S N F w) (hm:N<=M):RoomF base R S M F w:=
  ⟨h.room,fun f hf=>⟨Nat.le_trans (h.len f hf).1 hm,(h.len f hf).2⟩,h.none,h.ent⟩
theorem RoomG.more {base R:Nat} {S:Lab} {N M:Nat} {w:World} (h:RoomG base R S N w) (hm:N<=M):RoomG base R S M w:=by
  obtain ⟨F,h⟩:=h;exact ⟨F,h.more hm⟩
theorem RoomF.fin {base R:Nat} {S S':Lab} {N f b n:Nat} {F:Nat->List Value} {w w':World} {x a:Value} (h:RoomF base R S N F w) (hf:f<14) (hu:usedF f=true) (ha:Agree S S' w w')
    (hr:RoomAt ety base R S' (fun j=>if j=2*f+1 then F (2*f+1)++[a] else if j=2*f then F (2*f)++[x] else F j) w') (h0:S' b=0) (hb:b<w'.heap.size) (hB:base<=b) (he:Ent (mk1 S' b (lb f n)) w' f x a):RoomG base R (mk1 S' b (lb f n)) (N+1) w':=by
  refine ⟨_,hr.mk1 h0 hb hB _,fun g hg=>?_,fun g hg hn=>?_,fun g hg i y c h1 h2=>?_⟩
  · by_cases e:g=f
    · subst e
      have:=h.len g hg;simp;omega
    · have e1:2*g≠2*f+1:=by omega
      have e2:2*g≠2*f:=by omega
      have e3:2*g+1≠2*f+1:=by omega
      have e4:2*g+1≠2*f:=by omega
      have:=h.len g hg;simp only [e1,e2,e3,e4,if_false];omega
  · have e:g≠f:=fun e=>by rw [e,hu] at hn;cases hn
    have e1:2*g≠2*f+1:=by omega
    have e2:2*g≠2*f:=by omega
    simp only [e1,e2,if_false];exact h.none g hg hn
  · by_cases e:g=f
    · subst e
      have e1:2*g≠2*g+1:=by omega
      simp only [e1,if_true,if_false] at h1 h2;have hl:=(h.len g hg).2
      by_cases hi:i<(F (2*g)).length
      · rw [List.getElem?_append_left hi] at h1
        rw [List.getElem?_append_left (by omega)] at h2;exact ((h.ent g hg i y c h1 h2).agree ha).mk1 h0 _
      · rw [List.getElem?_append_right (by omega)] at h1
        rw [List.getElem?_append_right (by omega),hl] at h2;have hi0:i-(F (2*g)).length=0:=by
          have:=(List.getElem?_eq_some_iff.1 h1).1;simp at this;omega
        rw [hi0] at h1 h2;simp at h1 h2;subst h1 h2;exact he
    · have e1:2*g≠2*f+1:=by omega
      have e2:2*g≠2*f:=by omega
      have e3:2*g+1≠2*f+1:=by omega
      have e4:2*g+1≠2*f:=by omega
      simp only [e1,e2,e3,e4,if_false] at h1 h2;exact ((h.ent g hg i y c h1 h2).agree ha).mk1 h0 _
theorem RoomG.bas {base R:Nat} {S:Lab} {N:Nat} {w:World} (h:RoomG base R S N w):base<=w.heap.size:=by
  obtain ⟨F,h⟩:=h;exact h.room.bas
theorem RoomG.lab2 {base R:Nat} {S:Lab} {N:Nat} {w w':World} (h:RoomG base R S N w) (hb:Below w.heap.size w w') (hN:w.heap.size+1<w'.heap.size):RoomG base R (lab2 S w.heap.size) N w':=by
  obtain ⟨F,h⟩:=h;exact ⟨F,h.move ((h.room.kept hb).lab2 hN h.room.bas (h.room.top _ (Nat.le_refl _)) (h.room.top _ (by omega))) (agree_lab2 hb)⟩
theorem RoomG.lab160 {base R:Nat} {S:Lab} {N:Nat} {w w':World} (h:RoomG base R S N w) (hb:Below w.heap.size w w') (hN:w.heap.size<w'.heap.size):RoomG base R (lab160 S w.heap.size) N w':=by
  obtain ⟨F,h⟩:=h;exact ⟨F,h.move ((h.room.kept hb).lab160 hN h.room.bas (h.room.top _ (Nat.le_refl _))) (agree_lab160 hb)⟩
theorem RoomG.set {base R:Nat} {S:Lab} {N:Nat} {w:World} (h:RoomG base R S N w) {g:Nat} (hg:150<=S g/\S g<1000) (i:Nat) (v:Value):RoomG base R S N (w.setCell ⟨g,i,none⟩ v):=by
  obtain ⟨F,h⟩:=h;exact ⟨F,h.move (h.room.set hg i v) ((Agree.refl _ _).set hg i v)⟩
theorem RoomG.free {base R b:Nat} {S:Lab} {N:Nat} {w:World} (h:RoomG base R S N w) (hb:S b=160):RoomG base R (fun k=>if k=b then 0 else S k) N w:=by
  obtain ⟨F,h⟩:=h;refine ⟨F,h.room.free hb,h.len,h.none,fun f hf i x a h1 h2=>?_⟩;obtain ⟨c,n,room,cap,q1,q2,q3,q4,q4',q5,q6,q7⟩:=h.ent f hf i x a h1 h2;exact ⟨c,n,room,cap,q1,q2,q3,q4,q4',by show (if c=b then 0 else S c)=_;rw [if_neg (fun e=>by rw [e,hb] at q5;unfold lb at q5;omega)];exact q5,q6,q7⟩
theorem roomg_step {base R b0:Nat} {S1:Lab} {N:Nat} {w1 W1 w2:World} {fv fv':Value} (h:RoomG base R S1 N w1) (hl:∀ g,fv.ownBlock=some g->S1 g=160/\b0<=g/\g<w1.heap.size) (hbase:base<=b0)
    (hW:Below w1.heap.size w1 W1) (hg:W1.grownBy w2 fv.ownBlock) (hn:fv'.ownBlock=fv.ownBlock∨∃ g,fv'.ownBlock=some g/\w1.heap.size<=g) (ho:∀ g,fv'.ownBlock=some g->g<w2.heap.size) :
    ∃ S2:Lab,RoomG base R S2 N w2/\Agree S1 S2 w1 w2/\∀ g,fv'.ownBlock=some g->S2 g=160:=by
  obtain ⟨F,h⟩:=h;obtain ⟨S2,h1,h2,h3⟩:=row_step h.room hl hbase hW hg hn ho;exact ⟨S2,⟨F,h.move h1 h2⟩,h2,h3⟩
def Rd0 (S:Lab) (w:World) (v:Value) (n:Nat) (xs:List Value):Prop:=∀ S' w',Agree S S' w w'->RdAt w' v n xs
theorem Rd0.agree {S S':Lab} {w w':World} {v:Value} {n:Nat} {xs:List Value} (h:Rd0 S w v n xs) (ha:Agree S S' w w'):Rd0 S' w' v n xs:=fun S2 w2 h2=>h S2 w2 (ha.trans h2)
theorem Rd0.now {S:Lab} {w:World} {v:Value} {n:Nat} {xs:List Value} (h:Rd0 S w v n xs):RdAt w v n xs:=h S w (Agree.refl _ _)
theorem rd0_of {S:Lab} {w:World} {b n cap:Nat} {xs:List Value} (hS:S b=0∨1000<=S b) (hb:b<w.heap.size) (hn:n<=9223372036854775807) (hc:∀ j u,xs[j]?=some u->w.cell? ⟨b,j,none⟩=some u):Rd0 S w (.slice (some ⟨b,0,none⟩) n cap) n xs:=
  fun S' w' ha=>⟨_,_,rfl,hn,fun _=>⟨b,0,rfl,Nat.lt_of_lt_of_le hb ha.size,fun j u hu=>by rw [Nat.zero_add];exact (ha.cell (a:=⟨b,j,none⟩) hb hS).trans (hc j u hu)⟩⟩
theorem RdAt.src {w:World} {v:Value} {n size:Nat} {xs:List Value} (h:RdAt w v n xs) (hl:xs.length=n*size) (h1:∀ u∈xs,u.oneCell'=true):SrcAt w v n size xs:=by
  obtain ⟨a,cap,rfl,_,hc⟩:=h;refine ⟨a,cap,rfl,hl,h1,fun ha=>?_,fun ad ha j u hj=>?_⟩
  · rcases Nat.eq_zero_or_pos n with h | h
    · exact h
    · obtain ⟨g,off,hb,_⟩:=hc h
      rw [ha] at hb;cases hb
  · have hn:0<n:=by
      have:=(List.getElem?_eq_some_iff.1 hj).1;rcases Nat.eq_zero_or_pos n with h | h
      · rw [h,Nat.zero_mul] at hl;omega
      · exact h
    obtain ⟨g,off,hb,_,hcell⟩:=hc hn;rw [ha] at hb;injection hb with hb;subst hb;rw [addr_noneR];exact hcell j u hj
def Lb (S:Lab) (w:World) (f b n:Nat):Prop:=S b=lb f n/\b<w.heap.size/\∃ cur t,w.heap[b]?=some (.cells cur t (0,0))
theorem Lb.fre {S:Lab} {w:World} {f b n:Nat} (h:Lb S w f b n):S b=0∨1000<=S b:=.inr (by rw [h.1];exact lb_fre f n)
theorem Lb.agree {S S':Lab} {w w':World} {f b n:Nat} (h:Lb S w f b n) (ha:Agree S S' w w'):Lb S' w' f b n:=by
  obtain ⟨cur,t,hc⟩:=h.2.2;exact ⟨(ha.lab b h.2.1).trans h.1,Nat.lt_of_lt_of_le h.2.1 ha.size,cur,t,(ha.block b h.2.1 h.fre).trans hc⟩
structure LaidX (base R:Nat) (S:Lab) (N:Nat) (w:World) (f n:Nat) (xs:List Value) (room:Nat) (e:Ending) (w':World):Prop where
  out:∃ (b:Nat) (S':Lab),e=.returned (.slice (some ⟨b,0,none⟩) n (n+room))/\w.heap.size<=b/\b<w'.heap.size/\Lb S' w' f b n/\RoomG base R S' (N+1) w'/\Agree S S' w w' /\
    (∀ j u,xs[j]?=some u->w'.cell? ⟨b,j,none⟩=some u)/\∀ k,k<w.heap.size->150<=S k->w'.heap[k]?=w.heap[k]?
theorem own_formS {w:World} {base:Nat} {e:TypeId} {size:Nat} {v:Value} {n:Nat} {xs:List Value} (h:w.ownsRow base e size v n xs):∃ a c,v=.slice a n c:=by
  rcases h.2 with ⟨rfl,rfl⟩ | ⟨g,cap,cur,rfl,_⟩
  · exact ⟨_,_,rfl⟩
  · exact ⟨_,_,rfl⟩
theorem lot_any (k:Nat) (w:World):Calls Tryz.prog 121 #[.int .i64 (k:Int)] w fun e w'=>e=.returned (.int .i64 (lotI k))/\w'=w:=by
  by_cases h:k % 2=0
  · have hd:lotI k=-7701:=if_pos h
    have h2:(k:Int) % 2=0:=by omega
    rw [hd];clear hd;go_enter Tryz.func121,Tryz.ntmps121;go_wp2;go_ret;exact ⟨rfl,rfl⟩
  · have hd:lotI k=-7702:=if_neg h
    have h2:((k:Int) % 2==0)=false:=by simp;omega
    rw [hd];clear hd;go_enter Tryz.func121,Tryz.ntmps121;go_wp2;go_ret;exact ⟨rfl,rfl⟩
theorem word_any (k:Nat) (w:World):Calls Tryz.prog 132 #[.int .i64 (k:Int)] w fun e w'=>e=.returned (.string (wordB k))/\w'=w:=by
  by_cases h:k % 2=0
  · have hd:wordB k=⟨#[60,111,110,101,62]⟩:=if_pos h
    have h2:(k:Int) % 2=0:=by omega
    rw [hd];clear hd;go_enter Tryz.func132,Tryz.ntmps132;go_wp2;go_ret;exact ⟨rfl,rfl⟩
  · have hd:wordB k=⟨#[60,116,119,111,62]⟩:=if_neg h
    have h2:((k:Int) % 2==0)=false:=by simp;omega
    rw [hd];clear hd;go_enter Tryz.func132,Tryz.ntmps132;go_wp2;go_ret;exact ⟨rfl,rfl⟩
end Go.Proofs.YtpcijhecaedkpaaGreatDoor

namespace Go.Proofs.YtpcijhecaedkpaaGreatDoor
open Go.RowKit
set_option maxRecDepth 10000
set_option maxHeartbeats 8000000
theorem rli_und:Tryz.prog.underlying 29=some (.slice 3):=by kernel_rfl
theorem rli_info:(Tryz.prog.info? 3).map (fun i=>(i.zero,i.size,i.bytes))=some (some (.int .i64 0),1,8):=by kernel_rfl
theorem rli_undo:Tryz.prog.underlying 28=some (.slice 29):=by kernel_rfl
theorem rli_infoo:(Tryz.prog.info? 29).map (fun i=>(i.zero,i.size,i.bytes))=some (some (.slice none 0 0),1,24):=by kernel_rfl
theorem rli_undi:Tryz.prog.underlying 29=some (.slice 3):=by kernel_rfl
theorem rli_infoi:(Tryz.prog.info? 3).map (fun i=>(i.zero,i.size,i.bytes))=some (some (.int .i64 0),1,8):=by kernel_rfl
theorem layInts_any (base R:Nat) (S:Lab) (N:Nat) (v:Value) (n:Nat) (xs:List Value) (room:Nat) (w:World) (hG:RoomG base R S N w) (hv:SrcAt w v n 1 xs) (hl:n<=1000000) (hr0:0<room) (hr:room<=40) (hN:N<=1000000) :
    Calls Tryz.prog 209 #[.pointer (some ⟨R,0,none⟩),v,.int .i64 (room:Int)] w (LaidX base R S N w 0 n xs room):=by
  obtain ⟨F,hF⟩:=hG;have HF:Hid (RoomF base R S N F w):=hF;have HR:Hid (RoomAt ety base R S F w):=hF.room;have HLn:Hid ((F 0).length<=N/\(F 1).length=(F 0).length):=hF.len 0 (by decide);obtain ⟨a,cap,rfl,hxl,hx1,hx2,hx3⟩:=hv;clear hF;have hb0:Below w.heap.size w (w.alloc (.cells #[] 3)):=(Below.refl _ _).alloc (Nat.le_refl _) _;have HO:Hid ((w.alloc (.cells #[] 3)).ownsRow w.heap.size 3 1 (.slice (some ⟨w.heap.size,0,none⟩) 0 0) 0 []):=World.ownsRow_made w #[] 0 (Nat.le_refl _) (by unfold maxLen;omega) rfl
  have HS:Hid (SrcAt (w.alloc (.cells #[] 3)) (.slice a n cap) n 1 xs):=⟨a,cap,rfl,hxl,hx1,hx2,fun ad ha j u hj=>by
    have h:=hx3 ad ha j u hj
    exact (hb0.cell (World.block_lt_of_cell? w _ h)).trans h⟩
  have HB0:Hid (Below w.heap.size w (w.alloc (.cells #[] 3))):=hb0;have HXl:Hid (xs.length=n*1):=hxl;clear hb0 hxl hx1 hx2 hx3;go_enter Tryz.func209,Tryz.ntmps209;go_wp2_with (at_builtin;refine app_src _ rfl (.tmp 10) (.tmp 11) 29 3 (.int .i64 0) 1 8 rfl rli_und rli_info rfl (by decide) w.heap.size _ _ 0 n [] _ (by rfl) (by rfl) HO.out HS.out (by unfold maxLen;omega) (by omega) HB0.out.size ?_;intro v1 w1 ho1 hg1 hn1);have HO1:Hid (w1.ownsRow w.heap.size 3 1 v1 (n+0) (xs++marks 0 0)):=by
    have e1:xs++marks 0 0=[]++xs:=by rw [marks_zero];simp
    rw [e1,Nat.add_comm];exact ho1
  have HB1:Hid (Below w.heap.size w w1):=HB0.out.grown hg1 HB0.out.size (fun g hg=>by simp [Value.ownBlock] at hg;omega);clear ho1 hg1 hn1;go_loopw [7,8] (fun fv iv wr=>∃ k:Nat,iv=.int .i64 (k:Int)/\k<=room/\Hid (wr.ownsRow w.heap.size 3 1 fv (n+k) (xs++marks 0 k))/\Hid (Below w.heap.size w wr)) (fun _ iv _=>room-(intOf iv).toNat)
  case atStart=>exact ⟨0,rfl,Nat.zero_le _,HO1,HB1⟩
  case round=>
    obtain ⟨k,rfl,hk,hO,hB⟩:=hrel;clear HO HS HB0 HO1 HB1
    by_cases hlt:k<room
    · have hkI:(k:Int)<(room:Int):=by omega
      have HN:Hid (xs++marks 0 (k+1)=(xs++marks 0 k)++mark 0 k):=by
        show _=_;rw [marks_next,List.append_assoc]
      go_wp2_with (first
        | (go_at_call 121;refine (lot_any k _).mono ?_;rintro e w' ⟨rfl,hww⟩;rw [hww])
        | (at_builtin;refine append_els wr [.int .i64 (lotI k)] 1 rfl (by decide) rfl (.tmp 18) (.tmp 21) 29 3 (.int .i64 0) 8 rfl rli_und rli_info rfl w.heap.size _ _ _ (by rfl) hO.out (mark_one (f:=0) k) _ rfl (by rfl) (by unfold maxLen;omega) (by omega) hB.out.size ?_;intro v2 w2 ho2 hg2 hn2))
      have HO2:Hid (w2.ownsRow w.heap.size 3 1 v2 (n+(k+1)) (xs++marks 0 (k+1))):=by
        rw [HN.out];exact ho2
      have HB2:Hid (Below w.heap.size w w2):=(hB.out.alloc hB.out.size _).grown hg2 (by have:=hB.out.size;simp;omega) (fun g hg=>(hO.out.lt g hg).1);clear ho2 hg2 hn2;go_wp2_with fail
      go_roundw
      case rel=>exact ⟨k+1,by go_num,by omega,HO2,HB2⟩
      case measure=>simp [intOf];omega
    · have hkI:¬ (k:Int)<(room:Int):=by omega
      obtain rfl:k=room:=by omega
      have hRw:=HR.out.kept hB.out;obtain ⟨v0,hv0,ho0,hl0⟩:=hRw.field 0 (by decide);obtain ⟨b,cp,cur,hfv,hbb,hbg,hbc,hbm,hbs,hbt⟩:∃ b cp cur,_=Value.slice (some ⟨b,0,none⟩) (n+k) cp/\w.heap.size<=b/\wr.heap[b]?=some (.cells cur 3 (0,0))/\n+k<=cp/\cp<=maxLen/\cur.size=cp*1/\cur.toList.take ((n+k)*1)=xs++marks 0 k:=by
        rcases hO.out.2 with ⟨_,hn⟩ | h
        · omega
        · exact h
      subst hfv;have hSb:S b=0:=HR.out.top b hbb;have hbw:b<wr.heap.size:=(Array.getElem?_eq_some_iff.1 hbg).1;have HCB:Hid (∀ j u,(xs++marks 0 k)[j]?=some u->wr.cell? ⟨b,j,none⟩=some u):=fun j u hj=>by
        have:=hO.out.cells (g:=b) rfl j u hj
        rwa [addr_noneR,Nat.zero_add] at this
      have HAG:Hid (Agree S S w wr):=Agree.of_below S hB.out;have HBG:Hid (∃ cur t,wr.heap[b]?=some (.cells cur t (0,0))):=⟨_,_,hbg⟩;have HBs:Hid (base<=b):=Nat.le_trans HR.out.bas hbb;have HBW:Hid (Below w.heap.size w wr):=hB.out;have HRW:Hid (RoomAt ety base R S F wr):=hRw;have HL0:Hid (∀ g,v0.ownBlock=some g->S g=0+1):=hl0;have HO0:Hid (wr.ownsRow base (ety 0) 1 v0 (F 0).length (F 0)):=ho0;have Hcp:Hid (cp<=maxLen/\n+k<=cp):=⟨hbm,hbc⟩;have hcpI:(n:Int)+(k:Int)<=(cp:Int):=by omega
      have HFb:Hid ((F 0).length<=1000000/\(F 1).length<=1000000):=by have:=HLn.out;exact ⟨by omega,by omega⟩
      unfold maxLen at hbm;clear ho0 hl0 hRw hbg hbs hbt hO hB
      go_wp2_with (first
        | (at_builtin;refine append_oneR wr (.slice (some ⟨b,0,none⟩) (n+k) cp) rfl (.tmp 27) (.tmp 29) 28 29 (.slice none 0 0) 24 rfl rli_undo rli_infoo rfl base v0 _ _ (by rfl) HO0.out rfl _ rfl (by rfl) (by have:=HFb.out.1;unfold maxLen;omega) (by have:=HFb.out.1;omega) HRW.out.bas ?_;intro v1 w1 ho1 hg1 hn1;
           obtain ⟨a1,c1,hf1⟩:=own_formS ho1;
           subst hf1;
           have hW1:Below wr.heap.size wr (wr.alloc (.cells #[.slice (some ⟨b,0,none⟩) (n+k) cp] 29)):=(Below.refl _ _).alloc (Nat.le_refl _) _;
           obtain ⟨hcR,hfR⟩:=HRW.out.after (f:=0) (by decide) hW1 hv0 hg1;
           obtain ⟨S1,hR1,hA1,hz1⟩:=HRW.out.push (f:=0) (by decide) hW1 hv0 ho1 hg1 (by simpa using hn1);
           have hh1:=HRW.out.push_high (v':=.slice a1 ((F 0).length+1) c1) (f:=0) (by decide) hW1 hv0 hg1;
           have q0:=(hcR 0).trans hv0;
           have q1:=hfR 0;
           obtain ⟨w2,hw2⟩:∃ w2,w1.setCell ⟨R,0,none⟩ (.slice a1 ((F 0).length+1) c1)=w2:=⟨_,rfl⟩;
           rw [hw2] at hR1 hA1 hh1;
           have HH1:Hid (∀ k,k<wr.heap.size->150<=S k->w2.heap[k]?=wr.heap[k]?):=hh1;
           have HR1:Hid (RoomAt ety base R S1 (fun j=>if j=0 then F 0++[.slice (some ⟨b,0,none⟩) (n+k) cp] else F j) w2):=hR1;
           have HA1:Hid (Agree S S1 wr w2):=hA1;
           clear ho1 hg1 hn1 hW1 hcR hfR hA1 hz1 hh1;
           obtain ⟨vA,hvA,hoA,hlA⟩:=hR1.field 1 (by decide);
           have HOA:Hid (w2.ownsRow base 3 1 vA (F 1).length (F 1)):=hoA;
           clear hR1 hoA hlA)
        | (at_builtin;refine append_oneR w2 (.int .i64 (n:Int)) rfl (.tmp 37) (.tmp 40) 29 3 (.int .i64 0) 8 rfl rli_undi rli_infoi rfl base vA _ _ (by rfl) HOA.out rfl _ rfl (by rfl) (by have:=HFb.out.2;unfold maxLen;omega) (by have:=HFb.out.2;omega) HR1.out.bas ?_;intro v3 w3 ho3 hg3 hn3;
           obtain ⟨a3,c3,hf3⟩:=own_formS ho3;
           subst hf3;
           have hW3:Below w2.heap.size w2 (w2.alloc (.cells #[.int .i64 (n:Int)] 3)):=(Below.refl _ _).alloc (Nat.le_refl _) _;
           obtain ⟨hcR3,hfR3⟩:=HR1.out.after (f:=1) (by decide) hW3 hvA hg3;
           obtain ⟨S3,hR3,hA3,hz3⟩:=HR1.out.push (f:=1) (by decide) hW3 hvA ho3 hg3 (by simpa using hn3);
           have hh3:=HR1.out.push_high (v':=.slice a3 ((F 1).length+1) c3) (f:=1) (by decide) hW3 hvA hg3;
           have q3:=(hcR3 1).trans hvA;
           have q4:=hfR3 1;
           obtain ⟨w4,hw4⟩:∃ w4,w3.setCell ⟨R,1,none⟩ (.slice a3 ((F 1).length+1) c3)=w4:=⟨_,rfl⟩;
           rw [hw4] at hR3 hA3 hh3;
           have HH3:Hid (∀ k,k<w2.heap.size->150<=S1 k->w4.heap[k]?=w2.heap[k]?):=hh3;
           have HR3:Hid (RoomAt ety base R S3 (fun j=>if j=1 then F 1++[.int .i64 (n:Int)] else if j=0 then F 0++[.slice (some ⟨b,0,none⟩) (n+k) cp] else F j) w4):=hR3;
           have HA3:Hid (Agree S1 S3 w2 w4):=hA3;
           clear ho3 hg3 hn3 hW3 hcR3 hfR3 hR3 hA3 hz3 hh3))
      go_ret;have hs1:S1 b=0:=(HA1.out.lab b hbw).trans hSb;have hbw2:b<w2.heap.size:=Nat.lt_of_lt_of_le hbw HA1.out.size;have hall:∀ j u,(xs++marks 0 k)[j]?=some u->w4.cell? ⟨b,j,none⟩=some u:=fun j u hj=>
        (HA3.out.cell (a:=⟨b,j,none⟩) hbw2 (.inl hs1)).trans ((HA1.out.cell (a:=⟨b,j,none⟩) hbw (.inl hSb)).trans (HCB.out j u hj))
      have hAg:Agree S S3 w w4:=(HAG.out.trans HA1.out).trans HA3.out;have hb4:b<w4.heap.size:=Nat.lt_of_lt_of_le hbw2 HA3.out.size;have hs3:S3 b=0:=(HA3.out.lab b hbw2).trans hs1;have hg4:∃ cur t,w4.heap[b]?=some (.cells cur t (0,0)):=by
        obtain ⟨cur,t,h⟩:=HBG.out;exact ⟨cur,t,(HA3.out.block b hbw2 (.inl hs1)).trans ((HA1.out.block b hbw (.inl hSb)).trans h)⟩
      refine ⟨⟨b,mk1 S3 b (lb 0 n),rfl,hbb,hb4,⟨mk1_at _ _ _,hb4,hg4⟩,HF.out.fin (f:=0) (by decide) (by decide) hAg HR3.out hs3 hb4 HBs.out ⟨b,n,k,cp,rfl,rfl,hl,hr,Hcp.out.2,mk1_at _ _ _,hb4,fun j hj q u hu=>hall _ _ ?_⟩,hAg.mk1 hbb _,fun j u hj=>hall j u ?_,fun q hq hS=>?_⟩⟩
      · have hm:=marks_get (f:=0) (by decide) hj hu
        have hle:xs.length<=(n+j)*esz 0+q:=by
          rw [HXl.out,Nat.add_mul];show n*1<=n*1+j*1+q;omega
        rw [List.getElem?_append_right hle];have he:(n+j)*esz 0+q-xs.length=j*esz 0+q:=by
          rw [HXl.out,Nat.add_mul];show n*1+j*1+q-n*1=j*1+q;omega
        rw [he];exact hm
      · have hj':=(List.getElem?_eq_some_iff.1 hj).1
        rw [List.getElem?_append_left hj'];exact hj
      · have hq1:q<wr.heap.size:=Nat.lt_of_lt_of_le hq HBW.out.size
        exact (HH3.out q (Nat.lt_of_lt_of_le hq1 HA1.out.size) (by rw [HA1.out.lab q hq1];exact hS)).trans ((HH1.out q hq1 hS).trans (HBW.out.block q hq))
end Go.Proofs.YtpcijhecaedkpaaGreatDoor

namespace Go.Proofs.YtpcijhecaedkpaaGreatDoor
open Go.RowKit
set_option maxRecDepth 10000
set_option maxHeartbeats 8000000
theorem rlt_und:Tryz.prog.underlying 22=some (.slice 9):=by kernel_rfl
theorem rlt_info:(Tryz.prog.info? 9).map (fun i=>(i.zero,i.size,i.bytes))=some (some (.string ⟨#[]⟩),1,16):=by kernel_rfl
theorem rlt_undo:Tryz.prog.underlying 30=some (.slice 22):=by kernel_rfl
theorem rlt_infoo:(Tryz.prog.info? 22).map (fun i=>(i.zero,i.size,i.bytes))=some (some (.slice none 0 0),1,24):=by kernel_rfl
theorem rlt_undi:Tryz.prog.underlying 29=some (.slice 3):=by kernel_rfl
theorem rlt_infoi:(Tryz.prog.info? 3).map (fun i=>(i.zero,i.size,i.bytes))=some (some (.int .i64 0),1,8):=by kernel_rfl
theorem layTexts_any (base R:Nat) (S:Lab) (N:Nat) (v:Value) (n:Nat) (xs:List Value) (room:Nat) (w:World) (hG:RoomG base R S N w) (hv:SrcAt w v n 1 xs) (hl:n<=1000000) (hr0:0<room) (hr:room<=40) (hN:N<=1000000) :
    Calls Tryz.prog 210 #[.pointer (some ⟨R,0,none⟩),v,.int .i64 (room:Int)] w (LaidX base R S N w 1 n xs room):=by
  obtain ⟨F,hF⟩:=hG;have HF:Hid (RoomF base R S N F w):=hF;have HR:Hid (RoomAt ety base R S F w):=hF.room;have HLn:Hid ((F 2).length<=N/\(F 3).length=(F 2).length):=hF.len 1 (by decide);obtain ⟨a,cap,rfl,hxl,hx1,hx2,hx3⟩:=hv;clear hF;have hb0:Below w.heap.size w (w.alloc (.cells #[] 9)):=(Below.refl _ _).alloc (Nat.le_refl _) _;have HO:Hid ((w.alloc (.cells #[] 9)).ownsRow w.heap.size 9 1 (.slice (some ⟨w.heap.size,0,none⟩) 0 0) 0 []):=World.ownsRow_made w #[] 0 (Nat.le_refl _) (by unfold maxLen;omega) rfl
  have HS:Hid (SrcAt (w.alloc (.cells #[] 9)) (.slice a n cap) n 1 xs):=⟨a,cap,rfl,hxl,hx1,hx2,fun ad ha j u hj=>by
    have h:=hx3 ad ha j u hj
    exact (hb0.cell (World.block_lt_of_cell? w _ h)).trans h⟩
  have HB0:Hid (Below w.heap.size w (w.alloc (.cells #[] 9))):=hb0;have HXl:Hid (xs.length=n*1):=hxl;clear hb0 hxl hx1 hx2 hx3;go_enter Tryz.func210,Tryz.ntmps210;go_wp2_with (at_builtin;refine app_src _ rfl (.tmp 10) (.tmp 11) 22 9 (.string ⟨#[]⟩) 1 16 rfl rlt_und rlt_info rfl (by decide) w.heap.size _ _ 0 n [] _ (by rfl) (by rfl) HO.out HS.out (by unfold maxLen;omega) (by omega) HB0.out.size ?_;intro v1 w1 ho1 hg1 hn1);have HO1:Hid (w1.ownsRow w.heap.size 9 1 v1 (n+0) (xs++marks 1 0)):=by
    have e1:xs++marks 1 0=[]++xs:=by rw [marks_zero];simp
    rw [e1,Nat.add_comm];exact ho1
  have HB1:Hid (Below w.heap.size w w1):=HB0.out.grown hg1 HB0.out.size (fun g hg=>by simp [Value.ownBlock] at hg;omega);clear ho1 hg1 hn1;go_loopw [7,8] (fun fv iv wr=>∃ k:Nat,iv=.int .i64 (k:Int)/\k<=room/\Hid (wr.ownsRow w.heap.size 9 1 fv (n+k) (xs++marks 1 k))/\Hid (Below w.heap.size w wr)) (fun _ iv _=>room-(intOf iv).toNat)
  case atStart=>exact ⟨0,rfl,Nat.zero_le _,HO1,HB1⟩
  case round=>
    obtain ⟨k,rfl,hk,hO,hB⟩:=hrel;clear HO HS HB0 HO1 HB1
    by_cases hlt:k<room
    · have hkI:(k:Int)<(room:Int):=by omega
      have HN:Hid (xs++marks 1 (k+1)=(xs++marks 1 k)++mark 1 k):=by
        show _=_;rw [marks_next,List.append_assoc]
      go_wp2_with (first
        | (go_at_call 132;refine (word_any k _).mono ?_;rintro e w' ⟨rfl,hww⟩;rw [hww])
        | (at_builtin;refine append_els wr [.string (wordB k)] 1 rfl (by decide) rfl (.tmp 18) (.tmp 21) 22 9 (.string ⟨#[]⟩) 16 rfl rlt_und rlt_info rfl w.heap.size _ _ _ (by rfl) hO.out (mark_one (f:=1) k) _ rfl (by rfl) (by unfold maxLen;omega) (by omega) hB.out.size ?_;intro v2 w2 ho2 hg2 hn2))
      have HO2:Hid (w2.ownsRow w.heap.size 9 1 v2 (n+(k+1)) (xs++marks 1 (k+1))):=by
        rw [HN.out];exact ho2
      have HB2:Hid (Below w.heap.size w w2):=(hB.out.alloc hB.out.size _).grown hg2 (by have:=hB.out.size;simp;omega) (fun g hg=>(hO.out.lt g hg).1);clear ho2 hg2 hn2;go_wp2_with fail
      go_roundw
      case rel=>exact ⟨k+1,by go_num,by omega,HO2,HB2⟩
      case measure=>simp [intOf];omega
    · have hkI:¬ (k:Int)<(room:Int):=by omega
      obtain rfl:k=room:=by omega
      have hRw:=HR.out.kept hB.out;obtain ⟨v0,hv0,ho0,hl0⟩:=hRw.field 2 (by decide);obtain ⟨b,cp,cur,hfv,hbb,hbg,hbc,hbm,hbs,hbt⟩:∃ b cp cur,_=Value.slice (some ⟨b,0,none⟩) (n+k) cp/\w.heap.size<=b/\wr.heap[b]?=some (.cells cur 9 (0,0))/\n+k<=cp/\cp<=maxLen/\cur.size=cp*1/\cur.toList.take ((n+k)*1)=xs++marks 1 k:=by
        rcases hO.out.2 with ⟨_,hn⟩ | h
        · omega
        · exact h
      subst hfv;have hSb:S b=0:=HR.out.top b hbb;have hbw:b<wr.heap.size:=(Array.getElem?_eq_some_iff.1 hbg).1;have HCB:Hid (∀ j u,(xs++marks 1 k)[j]?=some u->wr.cell? ⟨b,j,none⟩=some u):=fun j u hj=>by
        have:=hO.out.cells (g:=b) rfl j u hj
        rwa [addr_noneR,Nat.zero_add] at this
      have HAG:Hid (Agree S S w wr):=Agree.of_below S hB.out;have HBG:Hid (∃ cur t,wr.heap[b]?=some (.cells cur t (0,0))):=⟨_,_,hbg⟩;have HBs:Hid (base<=b):=Nat.le_trans HR.out.bas hbb;have HBW:Hid (Below w.heap.size w wr):=hB.out;have HRW:Hid (RoomAt ety base R S F wr):=hRw;have HL0:Hid (∀ g,v0.ownBlock=some g->S g=2+1):=hl0;have HO0:Hid (wr.ownsRow base (ety 2) 1 v0 (F 2).length (F 2)):=ho0;have Hcp:Hid (cp<=maxLen/\n+k<=cp):=⟨hbm,hbc⟩;have hcpI:(n:Int)+(k:Int)<=(cp:Int):=by omega
      have HFb:Hid ((F 2).length<=1000000/\(F 3).length<=1000000):=by have:=HLn.out;exact ⟨by omega,by omega⟩
      unfold maxLen at hbm;clear ho0 hl0 hRw hbg hbs hbt hO hB
      go_wp2_with (first
        | (at_builtin;refine append_oneR wr (.slice (some ⟨b,0,none⟩) (n+k) cp) rfl (.tmp 27) (.tmp 29) 30 22 (.slice none 0 0) 24 rfl rlt_undo rlt_infoo rfl base v0 _ _ (by rfl) HO0.out rfl _ rfl (by rfl) (by have:=HFb.out.1;unfold maxLen;omega) (by have:=HFb.out.1;omega) HRW.out.bas ?_;intro v1 w1 ho1 hg1 hn1;
           obtain ⟨a1,c1,hf1⟩:=own_formS ho1;
           subst hf1;
           have hW1:Below wr.heap.size wr (wr.alloc (.cells #[.slice (some ⟨b,0,none⟩) (n+k) cp] 22)):=(Below.refl _ _).alloc (Nat.le_refl _) _;
           obtain ⟨hcR,hfR⟩:=HRW.out.after (f:=2) (by decide) hW1 hv0 hg1;
           obtain ⟨S1,hR1,hA1,hz1⟩:=HRW.out.push (f:=2) (by decide) hW1 hv0 ho1 hg1 (by simpa using hn1);
           have hh1:=HRW.out.push_high (v':=.slice a1 ((F 2).length+1) c1) (f:=2) (by decide) hW1 hv0 hg1;
           have q0:=(hcR 2).trans hv0;
           have q1:=hfR 2;
           obtain ⟨w2,hw2⟩:∃ w2,w1.setCell ⟨R,2,none⟩ (.slice a1 ((F 2).length+1) c1)=w2:=⟨_,rfl⟩;
           rw [hw2] at hR1 hA1 hh1;
           have HH1:Hid (∀ k,k<wr.heap.size->150<=S k->w2.heap[k]?=wr.heap[k]?):=hh1;
           have HR1:Hid (RoomAt ety base R S1 (fun j=>if j=2 then F 2++[.slice (some ⟨b,0,none⟩) (n+k) cp] else F j) w2):=hR1;
           have HA1:Hid (Agree S S1 wr w2):=hA1;
           clear ho1 hg1 hn1 hW1 hcR hfR hA1 hz1 hh1;
           obtain ⟨vA,hvA,hoA,hlA⟩:=hR1.field 3 (by decide);
           have HOA:Hid (w2.ownsRow base 3 1 vA (F 3).length (F 3)):=hoA;
           clear hR1 hoA hlA)
        | (at_builtin;refine append_oneR w2 (.int .i64 (n:Int)) rfl (.tmp 37) (.tmp 40) 29 3 (.int .i64 0) 8 rfl rlt_undi rlt_infoi rfl base vA _ _ (by rfl) HOA.out rfl _ rfl (by rfl) (by have:=HFb.out.2;unfold maxLen;omega) (by have:=HFb.out.2;omega) HR1.out.bas ?_;intro v3 w3 ho3 hg3 hn3;
           obtain ⟨a3,c3,hf3⟩:=own_formS ho3;
           subst hf3;
           have hW3:Below w2.heap.size w2 (w2.alloc (.cells #[.int .i64 (n:Int)] 3)):=(Below.refl _ _).alloc (Nat.le_refl _) _;
           obtain ⟨hcR3,hfR3⟩:=HR1.out.after (f:=3) (by decide) hW3 hvA hg3;
           obtain ⟨S3,hR3,hA3,hz3⟩:=HR1.out.push (f:=3) (by decide) hW3 hvA ho3 hg3 (by simpa using hn3);
           have hh3:=HR1.out.push_high (v':=.slice a3 ((F 3).length+1) c3) (f:=3) (by decide) hW3 hvA hg3;
           have q3:=(hcR3 3).trans hvA;
           have q4:=hfR3 3;
           obtain ⟨w4,hw4⟩:∃ w4,w3.setCell ⟨R,3,none⟩ (.slice a3 ((F 3).length+1) c3)=w4:=⟨_,rfl⟩;
           rw [hw4] at hR3 hA3 hh3;
           have HH3:Hid (∀ k,k<w2.heap.size->150<=S1 k->w4.heap[k]?=w2.heap[k]?):=hh3;
           have HR3:Hid (RoomAt ety base R S3 (fun j=>if j=3 then F 3++[.int .i64 (n:Int)] else if j=2 then F 2++[.slice (some ⟨b,0,none⟩) (n+k) cp] else F j) w4):=hR3;
           have HA3:Hid (Agree S1 S3 w2 w4):=hA3;
           clear ho3 hg3 hn3 hW3 hcR3 hfR3 hR3 hA3 hz3 hh3))
      go_ret;have hs1:S1 b=0:=(HA1.out.lab b hbw).trans hSb;have hbw2:b<w2.heap.size:=Nat.lt_of_lt_of_le hbw HA1.out.size;have hall:∀ j u,(xs++marks 1 k)[j]?=some u->w4.cell? ⟨b,j,none⟩=some u:=fun j u hj=>
        (HA3.out.cell (a:=⟨b,j,none⟩) hbw2 (.inl hs1)).trans ((HA1.out.cell (a:=⟨b,j,none⟩) hbw (.inl hSb)).trans (HCB.out j u hj))
      have hAg:Agree S S3 w w4:=(HAG.out.trans HA1.out).trans HA3.out;have hb4:b<w4.heap.size:=Nat.lt_of_lt_of_le hbw2 HA3.out.size;have hs3:S3 b=0:=(HA3.out.lab b hbw2).trans hs1;have hg4:∃ cur t,w4.heap[b]?=some (.cells cur t (0,0)):=by
        obtain ⟨cur,t,h⟩:=HBG.out;exact ⟨cur,t,(HA3.out.block b hbw2 (.inl hs1)).trans ((HA1.out.block b hbw (.inl hSb)).trans h)⟩
      refine ⟨⟨b,mk1 S3 b (lb 1 n),rfl,hbb,hb4,⟨mk1_at _ _ _,hb4,hg4⟩,HF.out.fin (f:=1) (by decide) (by decide) hAg HR3.out hs3 hb4 HBs.out ⟨b,n,k,cp,rfl,rfl,hl,hr,Hcp.out.2,mk1_at _ _ _,hb4,fun j hj q u hu=>hall _ _ ?_⟩,hAg.mk1 hbb _,fun j u hj=>hall j u ?_,fun q hq hS=>?_⟩⟩
      · have hm:=marks_get (f:=1) (by decide) hj hu
        have hle:xs.length<=(n+j)*esz 1+q:=by
          rw [HXl.out,Nat.add_mul];show n*1<=n*1+j*1+q;omega
        rw [List.getElem?_append_right hle];have he:(n+j)*esz 1+q-xs.length=j*esz 1+q:=by
          rw [HXl.out,Nat.add_mul];show n*1+j*1+q-n*1=j*1+q;omega
        rw [he];exact hm
      · have hj':=(List.getElem?_eq_some_iff.1 hj).1
        rw [List.getElem?_append_left hj'];exact hj
      · have hq1:q<wr.heap.size:=Nat.lt_of_lt_of_le hq HBW.out.size
        exact (HH3.out q (Nat.lt_of_lt_of_le hq1 HA1.out.size) (by rw [HA1.out.lab q hq1];exact hS)).trans ((HH1.out q hq1 hS).trans (HBW.out.block q hq))
end Go.Proofs.YtpcijhecaedkpaaGreatDoor

namespace Go.Proofs.YtpcijhecaedkpaaGreatDoor
open Go.RowKit
set_option maxRecDepth 10000
set_option maxHeartbeats 8000000
theorem rlo_und:Tryz.prog.underlying 46=some (.slice 106):=by kernel_rfl
theorem rlo_info:(Tryz.prog.info? 106).map (fun i=>(i.zero,i.size,i.bytes))=some (some (.agg #[.int .i64 0,.string ⟨#[]⟩,.int .i64 0]),3,32):=by kernel_rfl
theorem rlo_undo:Tryz.prog.underlying 34=some (.slice 46):=by kernel_rfl
theorem rlo_infoo:(Tryz.prog.info? 46).map (fun i=>(i.zero,i.size,i.bytes))=some (some (.slice none 0 0),1,24):=by kernel_rfl
theorem rlo_undi:Tryz.prog.underlying 29=some (.slice 3):=by kernel_rfl
theorem rlo_infoi:(Tryz.prog.info? 3).map (fun i=>(i.zero,i.size,i.bytes))=some (some (.int .i64 0),1,8):=by kernel_rfl
theorem layOps_any (base R:Nat) (S:Lab) (N:Nat) (v:Value) (n:Nat) (xs:List Value) (room:Nat) (w:World) (hG:RoomG base R S N w) (hv:SrcAt w v n 3 xs) (hl:n<=1000000) (hr0:0<room) (hr:room<=40) (hN:N<=1000000) :
    Calls Tryz.prog 207 #[.pointer (some ⟨R,0,none⟩),v,.int .i64 (room:Int)] w (LaidX base R S N w 5 n xs room):=by
  obtain ⟨F,hF⟩:=hG;have HF:Hid (RoomF base R S N F w):=hF;have HR:Hid (RoomAt ety base R S F w):=hF.room;have HLn:Hid ((F 10).length<=N/\(F 11).length=(F 10).length):=hF.len 5 (by decide);obtain ⟨a,cap,rfl,hxl,hx1,hx2,hx3⟩:=hv;clear hF;have hb0:Below w.heap.size w (w.alloc (.cells #[] 106)):=(Below.refl _ _).alloc (Nat.le_refl _) _;have HO:Hid ((w.alloc (.cells #[] 106)).ownsRow w.heap.size 106 3 (.slice (some ⟨w.heap.size,0,none⟩) 0 0) 0 []):=World.ownsRow_made w #[] 0 (Nat.le_refl _) (by unfold maxLen;omega) rfl
  have HS:Hid (SrcAt (w.alloc (.cells #[] 106)) (.slice a n cap) n 3 xs):=⟨a,cap,rfl,hxl,hx1,hx2,fun ad ha j u hj=>by
    have h:=hx3 ad ha j u hj
    exact (hb0.cell (World.block_lt_of_cell? w _ h)).trans h⟩
  have HB0:Hid (Below w.heap.size w (w.alloc (.cells #[] 106))):=hb0;have HXl:Hid (xs.length=n*3):=hxl;clear hb0 hxl hx1 hx2 hx3;go_enter Tryz.func207,Tryz.ntmps207;go_wp2_with (at_builtin;refine app_src _ rfl (.tmp 10) (.tmp 11) 46 106 (.agg #[.int .i64 0,.string ⟨#[]⟩,.int .i64 0]) 3 32 rfl rlo_und rlo_info rfl (by decide) w.heap.size _ _ 0 n [] _ (by rfl) (by rfl) HO.out HS.out (by unfold maxLen;omega) (by omega) HB0.out.size ?_;intro v1 w1 ho1 hg1 hn1);have HO1:Hid (w1.ownsRow w.heap.size 106 3 v1 (n+0) (xs++marks 5 0)):=by
    have e1:xs++marks 5 0=[]++xs:=by rw [marks_zero];simp
    rw [e1,Nat.add_comm];exact ho1
  have HB1:Hid (Below w.heap.size w w1):=HB0.out.grown hg1 HB0.out.size (fun g hg=>by simp [Value.ownBlock] at hg;omega);clear ho1 hg1 hn1;go_loopw [7,8] (fun fv iv wr=>∃ k:Nat,iv=.int .i64 (k:Int)/\k<=room/\Hid (wr.ownsRow w.heap.size 106 3 fv (n+k) (xs++marks 5 k))/\Hid (Below w.heap.size w wr)) (fun _ iv _=>room-(intOf iv).toNat)
  case atStart=>exact ⟨0,rfl,Nat.zero_le _,HO1,HB1⟩
  case round=>
    obtain ⟨k,rfl,hk,hO,hB⟩:=hrel;clear HO HS HB0 HO1 HB1
    by_cases hlt:k<room
    · have hkI:(k:Int)<(room:Int):=by omega
      have HN:Hid (xs++marks 5 (k+1)=(xs++marks 5 k)++mark 5 k):=by
        show _=_;rw [marks_next,List.append_assoc]
      go_wp2_with (first
        | (go_at_call 121;refine (lot_any k _).mono ?_;rintro e w' ⟨rfl,hww⟩;rw [hww])
        | (at_builtin;refine append_els wr [.int .i64 0,.string ⟨#[]⟩,.int .i64 (lotI k)] 3 rfl (by decide) rfl (.tmp 18) (.tmp 22) 46 106 (.agg #[.int .i64 0,.string ⟨#[]⟩,.int .i64 0]) 32 rfl rlo_und rlo_info rfl w.heap.size _ _ _ (by rfl) hO.out (mark_one (f:=5) k) _ rfl (by rfl) (by unfold maxLen;omega) (by omega) hB.out.size ?_;intro v2 w2 ho2 hg2 hn2))
      have HO2:Hid (w2.ownsRow w.heap.size 106 3 v2 (n+(k+1)) (xs++marks 5 (k+1))):=by
        rw [HN.out];exact ho2
      have HB2:Hid (Below w.heap.size w w2):=(hB.out.alloc hB.out.size _).grown hg2 (by have:=hB.out.size;simp;omega) (fun g hg=>(hO.out.lt g hg).1);clear ho2 hg2 hn2;go_wp2_with fail
      go_roundw
      case rel=>exact ⟨k+1,by go_num,by omega,HO2,HB2⟩
      case measure=>simp [intOf];omega
    · have hkI:¬ (k:Int)<(room:Int):=by omega
      obtain rfl:k=room:=by omega
      have hRw:=HR.out.kept hB.out;obtain ⟨v0,hv0,ho0,hl0⟩:=hRw.field 10 (by decide);obtain ⟨b,cp,cur,hfv,hbb,hbg,hbc,hbm,hbs,hbt⟩:∃ b cp cur,_=Value.slice (some ⟨b,0,none⟩) (n+k) cp/\w.heap.size<=b/\wr.heap[b]?=some (.cells cur 106 (0,0))/\n+k<=cp/\cp<=maxLen/\cur.size=cp*3/\cur.toList.take ((n+k)*3)=xs++marks 5 k:=by
        rcases hO.out.2 with ⟨_,hn⟩ | h
        · omega
        · exact h
      subst hfv;have hSb:S b=0:=HR.out.top b hbb;have hbw:b<wr.heap.size:=(Array.getElem?_eq_some_iff.1 hbg).1;have HCB:Hid (∀ j u,(xs++marks 5 k)[j]?=some u->wr.cell? ⟨b,j,none⟩=some u):=fun j u hj=>by
        have:=hO.out.cells (g:=b) rfl j u hj
        rwa [addr_noneR,Nat.zero_add] at this
      have HAG:Hid (Agree S S w wr):=Agree.of_below S hB.out;have HBG:Hid (∃ cur t,wr.heap[b]?=some (.cells cur t (0,0))):=⟨_,_,hbg⟩;have HBs:Hid (base<=b):=Nat.le_trans HR.out.bas hbb;have HBW:Hid (Below w.heap.size w wr):=hB.out;have HRW:Hid (RoomAt ety base R S F wr):=hRw;have HL0:Hid (∀ g,v0.ownBlock=some g->S g=10+1):=hl0;have HO0:Hid (wr.ownsRow base (ety 10) 1 v0 (F 10).length (F 10)):=ho0;have Hcp:Hid (cp<=maxLen/\n+k<=cp):=⟨hbm,hbc⟩;have hcpI:(n:Int)+(k:Int)<=(cp:Int):=by omega
      have HFb:Hid ((F 10).length<=1000000/\(F 11).length<=1000000):=by have:=HLn.out;exact ⟨by omega,by omega⟩
      unfold maxLen at hbm;clear ho0 hl0 hRw hbg hbs hbt hO hB
      go_wp2_with (first
        | (at_builtin;refine append_oneR wr (.slice (some ⟨b,0,none⟩) (n+k) cp) rfl (.tmp 28) (.tmp 30) 34 46 (.slice none 0 0) 24 rfl rlo_undo rlo_infoo rfl base v0 _ _ (by rfl) HO0.out rfl _ rfl (by rfl) (by have:=HFb.out.1;unfold maxLen;omega) (by have:=HFb.out.1;omega) HRW.out.bas ?_;intro v1 w1 ho1 hg1 hn1;
           obtain ⟨a1,c1,hf1⟩:=own_formS ho1;
           subst hf1;
           have hW1:Below wr.heap.size wr (wr.alloc (.cells #[.slice (some ⟨b,0,none⟩) (n+k) cp] 46)):=(Below.refl _ _).alloc (Nat.le_refl _) _;
           obtain ⟨hcR,hfR⟩:=HRW.out.after (f:=10) (by decide) hW1 hv0 hg1;
           obtain ⟨S1,hR1,hA1,hz1⟩:=HRW.out.push (f:=10) (by decide) hW1 hv0 ho1 hg1 (by simpa using hn1);
           have hh1:=HRW.out.push_high (v':=.slice a1 ((F 10).length+1) c1) (f:=10) (by decide) hW1 hv0 hg1;
           have q0:=(hcR 10).trans hv0;
           have q1:=hfR 10;
           obtain ⟨w2,hw2⟩:∃ w2,w1.setCell ⟨R,10,none⟩ (.slice a1 ((F 10).length+1) c1)=w2:=⟨_,rfl⟩;
           rw [hw2] at hR1 hA1 hh1;
           have HH1:Hid (∀ k,k<wr.heap.size->150<=S k->w2.heap[k]?=wr.heap[k]?):=hh1;
           have HR1:Hid (RoomAt ety base R S1 (fun j=>if j=10 then F 10++[.slice (some ⟨b,0,none⟩) (n+k) cp] else F j) w2):=hR1;
           have HA1:Hid (Agree S S1 wr w2):=hA1;
           clear ho1 hg1 hn1 hW1 hcR hfR hA1 hz1 hh1;
           obtain ⟨vA,hvA,hoA,hlA⟩:=hR1.field 11 (by decide);
           have HOA:Hid (w2.ownsRow base 3 1 vA (F 11).length (F 11)):=hoA;
           clear hR1 hoA hlA)
        | (at_builtin;refine append_oneR w2 (.int .i64 (n:Int)) rfl (.tmp 38) (.tmp 41) 29 3 (.int .i64 0) 8 rfl rlo_undi rlo_infoi rfl base vA _ _ (by rfl) HOA.out rfl _ rfl (by rfl) (by have:=HFb.out.2;unfold maxLen;omega) (by have:=HFb.out.2;omega) HR1.out.bas ?_;intro v3 w3 ho3 hg3 hn3;
           obtain ⟨a3,c3,hf3⟩:=own_formS ho3;
           subst hf3;
           have hW3:Below w2.heap.size w2 (w2.alloc (.cells #[.int .i64 (n:Int)] 3)):=(Below.refl _ _).alloc (Nat.le_refl _) _;
           obtain ⟨hcR3,hfR3⟩:=HR1.out.after (f:=11) (by decide) hW3 hvA hg3;
           obtain ⟨S3,hR3,hA3,hz3⟩:=HR1.out.push (f:=11) (by decide) hW3 hvA ho3 hg3 (by simpa using hn3);
           have hh3:=HR1.out.push_high (v':=.slice a3 ((F 11).length+1) c3) (f:=11) (by decide) hW3 hvA hg3;
           have q3:=(hcR3 11).trans hvA;
           have q4:=hfR3 11;
           obtain ⟨w4,hw4⟩:∃ w4,w3.setCell ⟨R,11,none⟩ (.slice a3 ((F 11).length+1) c3)=w4:=⟨_,rfl⟩;
           rw [hw4] at hR3 hA3 hh3;
           have HH3:Hid (∀ k,k<w2.heap.size->150<=S1 k->w4.heap[k]?=w2.heap[k]?):=hh3;
           have HR3:Hid (RoomAt ety base R S3 (fun j=>if j=11 then F 11++[.int .i64 (n:Int)] else if j=10 then F 10++[.slice (some ⟨b,0,none⟩) (n+k) cp] else F j) w4):=hR3;
           have HA3:Hid (Agree S1 S3 w2 w4):=hA3;
           clear ho3 hg3 hn3 hW3 hcR3 hfR3 hR3 hA3 hz3 hh3))
      go_ret;have hs1:S1 b=0:=(HA1.out.lab b hbw).trans hSb;have hbw2:b<w2.heap.size:=Nat.lt_of_lt_of_le hbw HA1.out.size;have hall:∀ j u,(xs++marks 5 k)[j]?=some u->w4.cell? ⟨b,j,none⟩=some u:=fun j u hj=>
        (HA3.out.cell (a:=⟨b,j,none⟩) hbw2 (.inl hs1)).trans ((HA1.out.cell (a:=⟨b,j,none⟩) hbw (.inl hSb)).trans (HCB.out j u hj))
      have hAg:Agree S S3 w w4:=(HAG.out.trans HA1.out).trans HA3.out;have hb4:b<w4.heap.size:=Nat.lt_of_lt_of_le hbw2 HA3.out.size;have hs3:S3 b=0:=(HA3.out.lab b hbw2).trans hs1;have hg4:∃ cur t,w4.heap[b]?=some (.cells cur t (0,0)):=by
        obtain ⟨cur,t,h⟩:=HBG.out;exact ⟨cur,t,(HA3.out.block b hbw2 (.inl hs1)).trans ((HA1.out.block b hbw (.inl hSb)).trans h)⟩
      refine ⟨⟨b,mk1 S3 b (lb 5 n),rfl,hbb,hb4,⟨mk1_at _ _ _,hb4,hg4⟩,HF.out.fin (f:=5) (by decide) (by decide) hAg HR3.out hs3 hb4 HBs.out ⟨b,n,k,cp,rfl,rfl,hl,hr,Hcp.out.2,mk1_at _ _ _,hb4,fun j hj q u hu=>hall _ _ ?_⟩,hAg.mk1 hbb _,fun j u hj=>hall j u ?_,fun q hq hS=>?_⟩⟩
      · have hm:=marks_get (f:=5) (by decide) hj hu
        have hle:xs.length<=(n+j)*esz 5+q:=by
          rw [HXl.out,Nat.add_mul];show n*3<=n*3+j*3+q;omega
        rw [List.getElem?_append_right hle];have he:(n+j)*esz 5+q-xs.length=j*esz 5+q:=by
          rw [HXl.out,Nat.add_mul];show n*3+j*3+q-n*3=j*3+q;omega
        rw [he];exact hm
      · have hj':=(List.getElem?_eq_some_iff.1 hj).1
        rw [List.getElem?_append_left hj'];exact hj
      · have hq1:q<wr.heap.size:=Nat.lt_of_lt_of_le hq HBW.out.size
        exact (HH3.out q (Nat.lt_of_lt_of_le hq1 HA1.out.size) (by rw [HA1.out.lab q hq1];exact hS)).trans ((HH1.out q hq1 hS).trans (HBW.out.block q hq))
end Go.Proofs.YtpcijhecaedkpaaGreatDoor

namespace Go.Proofs.YtpcijhecaedkpaaGreatDoor
open Go.RowKit
set_option maxRecDepth 10000
set_option maxHeartbeats 8000000
theorem rlp_und:Tryz.prog.underlying 47=some (.slice 160):=by kernel_rfl
theorem rlp_info:(Tryz.prog.info? 160).map (fun i=>(i.zero,i.size,i.bytes))=some (some (.agg #[.string ⟨#[]⟩,.int .i64 0]),2,24):=by kernel_rfl
theorem rlp_undo:Tryz.prog.underlying 33=some (.slice 47):=by kernel_rfl
theorem rlp_infoo:(Tryz.prog.info? 47).map (fun i=>(i.zero,i.size,i.bytes))=some (some (.slice none 0 0),1,24):=by kernel_rfl
theorem rlp_undi:Tryz.prog.underlying 29=some (.slice 3):=by kernel_rfl
theorem rlp_infoi:(Tryz.prog.info? 3).map (fun i=>(i.zero,i.size,i.bytes))=some (some (.int .i64 0),1,8):=by kernel_rfl
theorem layPieces_any (base R:Nat) (S:Lab) (N:Nat) (v:Value) (n:Nat) (xs:List Value) (room:Nat) (w:World) (hG:RoomG base R S N w) (hv:SrcAt w v n 2 xs) (hl:n<=1000000) (hr0:0<room) (hr:room<=40) (hN:N<=1000000) :
    Calls Tryz.prog 243 #[.pointer (some ⟨R,0,none⟩),v,.int .i64 (room:Int)] w (LaidX base R S N w 4 n xs room):=by
  obtain ⟨F,hF⟩:=hG;have HF:Hid (RoomF base R S N F w):=hF;have HR:Hid (RoomAt ety base R S F w):=hF.room;have HLn:Hid ((F 8).length<=N/\(F 9).length=(F 8).length):=hF.len 4 (by decide);obtain ⟨a,cap,rfl,hxl,hx1,hx2,hx3⟩:=hv;clear hF;have hb0:Below w.heap.size w (w.alloc (.cells #[] 160)):=(Below.refl _ _).alloc (Nat.le_refl _) _;have HO:Hid ((w.alloc (.cells #[] 160)).ownsRow w.heap.size 160 2 (.slice (some ⟨w.heap.size,0,none⟩) 0 0) 0 []):=World.ownsRow_made w #[] 0 (Nat.le_refl _) (by unfold maxLen;omega) rfl
  have HS:Hid (SrcAt (w.alloc (.cells #[] 160)) (.slice a n cap) n 2 xs):=⟨a,cap,rfl,hxl,hx1,hx2,fun ad ha j u hj=>by
    have h:=hx3 ad ha j u hj
    exact (hb0.cell (World.block_lt_of_cell? w _ h)).trans h⟩
  have HB0:Hid (Below w.heap.size w (w.alloc (.cells #[] 160))):=hb0;have HXl:Hid (xs.length=n*2):=hxl;clear hb0 hxl hx1 hx2 hx3;go_enter Tryz.func243,Tryz.ntmps243;go_wp2_with (at_builtin;refine app_src _ rfl (.tmp 10) (.tmp 11) 47 160 (.agg #[.string ⟨#[]⟩,.int .i64 0]) 2 24 rfl rlp_und rlp_info rfl (by decide) w.heap.size _ _ 0 n [] _ (by rfl) (by rfl) HO.out HS.out (by unfold maxLen;omega) (by omega) HB0.out.size ?_;intro v1 w1 ho1 hg1 hn1);have HO1:Hid (w1.ownsRow w.heap.size 160 2 v1 (n+0) (xs++marks 4 0)):=by
    have e1:xs++marks 4 0=[]++xs:=by rw [marks_zero];simp
    rw [e1,Nat.add_comm];exact ho1
  have HB1:Hid (Below w.heap.size w w1):=HB0.out.grown hg1 HB0.out.size (fun g hg=>by simp [Value.ownBlock] at hg;omega);clear ho1 hg1 hn1;go_loopw [7,8] (fun fv iv wr=>∃ k:Nat,iv=.int .i64 (k:Int)/\k<=room/\Hid (wr.ownsRow w.heap.size 160 2 fv (n+k) (xs++marks 4 k))/\Hid (Below w.heap.size w wr)) (fun _ iv _=>room-(intOf iv).toNat)
  case atStart=>exact ⟨0,rfl,Nat.zero_le _,HO1,HB1⟩
  case round=>
    obtain ⟨k,rfl,hk,hO,hB⟩:=hrel;clear HO HS HB0 HO1 HB1
    by_cases hlt:k<room
    · have hkI:(k:Int)<(room:Int):=by omega
      have HN:Hid (xs++marks 4 (k+1)=(xs++marks 4 k)++mark 4 k):=by
        show _=_;rw [marks_next,List.append_assoc]
      go_wp2_with (first
        | (go_at_call 121;refine (lot_any k _).mono ?_;rintro e w' ⟨rfl,hww⟩;rw [hww])
        | (at_builtin;refine append_els wr [.string ⟨#[]⟩,.int .i64 (lotI k)] 2 rfl (by decide) rfl (.tmp 18) (.tmp 22) 47 160 (.agg #[.string ⟨#[]⟩,.int .i64 0]) 24 rfl rlp_und rlp_info rfl w.heap.size _ _ _ (by rfl) hO.out (mark_one (f:=4) k) _ rfl (by rfl) (by unfold maxLen;omega) (by omega) hB.out.size ?_;intro v2 w2 ho2 hg2 hn2))
      have HO2:Hid (w2.ownsRow w.heap.size 160 2 v2 (n+(k+1)) (xs++marks 4 (k+1))):=by
        rw [HN.out];exact ho2
      have HB2:Hid (Below w.heap.size w w2):=(hB.out.alloc hB.out.size _).grown hg2 (by have:=hB.out.size;simp;omega) (fun g hg=>(hO.out.lt g hg).1);clear ho2 hg2 hn2;go_wp2_with fail
      go_roundw
      case rel=>exact ⟨k+1,by go_num,by omega,HO2,HB2⟩
      case measure=>simp [intOf];omega
    · have hkI:¬ (k:Int)<(room:Int):=by omega
      obtain rfl:k=room:=by omega
      have hRw:=HR.out.kept hB.out;obtain ⟨v0,hv0,ho0,hl0⟩:=hRw.field 8 (by decide);obtain ⟨b,cp,cur,hfv,hbb,hbg,hbc,hbm,hbs,hbt⟩:∃ b cp cur,_=Value.slice (some ⟨b,0,none⟩) (n+k) cp/\w.heap.size<=b/\wr.heap[b]?=some (.cells cur 160 (0,0))/\n+k<=cp/\cp<=maxLen/\cur.size=cp*2/\cur.toList.take ((n+k)*2)=xs++marks 4 k:=by
        rcases hO.out.2 with ⟨_,hn⟩ | h
        · omega
        · exact h
      subst hfv;have hSb:S b=0:=HR.out.top b hbb;have hbw:b<wr.heap.size:=(Array.getElem?_eq_some_iff.1 hbg).1;have HCB:Hid (∀ j u,(xs++marks 4 k)[j]?=some u->wr.cell? ⟨b,j,none⟩=some u):=fun j u hj=>by
        have:=hO.out.cells (g:=b) rfl j u hj
        rwa [addr_noneR,Nat.zero_add] at this
      have HAG:Hid (Agree S S w wr):=Agree.of_below S hB.out;have HBG:Hid (∃ cur t,wr.heap[b]?=some (.cells cur t (0,0))):=⟨_,_,hbg⟩;have HBs:Hid (base<=b):=Nat.le_trans HR.out.bas hbb;have HBW:Hid (Below w.heap.size w wr):=hB.out;have HRW:Hid (RoomAt ety base R S F wr):=hRw;have HL0:Hid (∀ g,v0.ownBlock=some g->S g=8+1):=hl0;have HO0:Hid (wr.ownsRow base (ety 8) 1 v0 (F 8).length (F 8)):=ho0;have Hcp:Hid (cp<=maxLen/\n+k<=cp):=⟨hbm,hbc⟩;have hcpI:(n:Int)+(k:Int)<=(cp:Int):=by omega
      have HFb:Hid ((F 8).length<=1000000/\(F 9).length<=1000000):=by have:=HLn.out;exact ⟨by omega,by omega⟩
      unfold maxLen at hbm;clear ho0 hl0 hRw hbg hbs hbt hO hB
      go_wp2_with (first
        | (at_builtin;refine append_oneR wr (.slice (some ⟨b,0,none⟩) (n+k) cp) rfl (.tmp 28) (.tmp 30) 33 47 (.slice none 0 0) 24 rfl rlp_undo rlp_infoo rfl base v0 _ _ (by rfl) HO0.out rfl _ rfl (by rfl) (by have:=HFb.out.1;unfold maxLen;omega) (by have:=HFb.out.1;omega) HRW.out.bas ?_;intro v1 w1 ho1 hg1 hn1;
           obtain ⟨a1,c1,hf1⟩:=own_formS ho1;
           subst hf1;
           have hW1:Below wr.heap.size wr (wr.alloc (.cells #[.slice (some ⟨b,0,none⟩) (n+k) cp] 47)):=(Below.refl _ _).alloc (Nat.le_refl _) _;
           obtain ⟨hcR,hfR⟩:=HRW.out.after (f:=8) (by decide) hW1 hv0 hg1;
           obtain ⟨S1,hR1,hA1,hz1⟩:=HRW.out.push (f:=8) (by decide) hW1 hv0 ho1 hg1 (by simpa using hn1);
           have hh1:=HRW.out.push_high (v':=.slice a1 ((F 8).length+1) c1) (f:=8) (by decide) hW1 hv0 hg1;
           have q0:=(hcR 8).trans hv0;
           have q1:=hfR 8;
           obtain ⟨w2,hw2⟩:∃ w2,w1.setCell ⟨R,8,none⟩ (.slice a1 ((F 8).length+1) c1)=w2:=⟨_,rfl⟩;
           rw [hw2] at hR1 hA1 hh1;
           have HH1:Hid (∀ k,k<wr.heap.size->150<=S k->w2.heap[k]?=wr.heap[k]?):=hh1;
           have HR1:Hid (RoomAt ety base R S1 (fun j=>if j=8 then F 8++[.slice (some ⟨b,0,none⟩) (n+k) cp] else F j) w2):=hR1;
           have HA1:Hid (Agree S S1 wr w2):=hA1;
           clear ho1 hg1 hn1 hW1 hcR hfR hA1 hz1 hh1;
           obtain ⟨vA,hvA,hoA,hlA⟩:=hR1.field 9 (by decide);
           have HOA:Hid (w2.ownsRow base 3 1 vA (F 9).length (F 9)):=hoA;
           clear hR1 hoA hlA)
        | (at_builtin;refine append_oneR w2 (.int .i64 (n:Int)) rfl (.tmp 38) (.tmp 41) 29 3 (.int .i64 0) 8 rfl rlp_undi rlp_infoi rfl base vA _ _ (by rfl) HOA.out rfl _ rfl (by rfl) (by have:=HFb.out.2;unfold maxLen;omega) (by have:=HFb.out.2;omega) HR1.out.bas ?_;intro v3 w3 ho3 hg3 hn3;
           obtain ⟨a3,c3,hf3⟩:=own_formS ho3;
           subst hf3;
           have hW3:Below w2.heap.size w2 (w2.alloc (.cells #[.int .i64 (n:Int)] 3)):=(Below.refl _ _).alloc (Nat.le_refl _) _;
           obtain ⟨hcR3,hfR3⟩:=HR1.out.after (f:=9) (by decide) hW3 hvA hg3;
           obtain ⟨S3,hR3,hA3,hz3⟩:=HR1.out.push (f:=9) (by decide) hW3 hvA ho3 hg3 (by simpa using hn3);
           have hh3:=HR1.out.push_high (v':=.slice a3 ((F 9).length+1) c3) (f:=9) (by decide) hW3 hvA hg3;
           have q3:=(hcR3 9).trans hvA;
           have q4:=hfR3 9;
           obtain ⟨w4,hw4⟩:∃ w4,w3.setCell ⟨R,9,none⟩ (.slice a3 ((F 9).length+1) c3)=w4:=⟨_,rfl⟩;
           rw [hw4] at hR3 hA3 hh3;
           have HH3:Hid (∀ k,k<w2.heap.size->150<=S1 k->w4.heap[k]?=w2.heap[k]?):=hh3;
           have HR3:Hid (RoomAt ety base R S3 (fun j=>if j=9 then F 9++[.int .i64 (n:Int)] else if j=8 then F 8++[.slice (some ⟨b,0,none⟩) (n+k) cp] else F j) w4):=hR3;
           have HA3:Hid (Agree S1 S3 w2 w4):=hA3;
           clear ho3 hg3 hn3 hW3 hcR3 hfR3 hR3 hA3 hz3 hh3))
      go_ret;have hs1:S1 b=0:=(HA1.out.lab b hbw).trans hSb;have hbw2:b<w2.heap.size:=Nat.lt_of_lt_of_le hbw HA1.out.size;have hall:∀ j u,(xs++marks 4 k)[j]?=some u->w4.cell? ⟨b,j,none⟩=some u:=fun j u hj=>
        (HA3.out.cell (a:=⟨b,j,none⟩) hbw2 (.inl hs1)).trans ((HA1.out.cell (a:=⟨b,j,none⟩) hbw (.inl hSb)).trans (HCB.out j u hj))
      have hAg:Agree S S3 w w4:=(HAG.out.trans HA1.out).trans HA3.out;have hb4:b<w4.heap.size:=Nat.lt_of_lt_of_le hbw2 HA3.out.size;have hs3:S3 b=0:=(HA3.out.lab b hbw2).trans hs1;have hg4:∃ cur t,w4.heap[b]?=some (.cells cur t (0,0)):=by
        obtain ⟨cur,t,h⟩:=HBG.out;exact ⟨cur,t,(HA3.out.block b hbw2 (.inl hs1)).trans ((HA1.out.block b hbw (.inl hSb)).trans h)⟩
      refine ⟨⟨b,mk1 S3 b (lb 4 n),rfl,hbb,hb4,⟨mk1_at _ _ _,hb4,hg4⟩,HF.out.fin (f:=4) (by decide) (by decide) hAg HR3.out hs3 hb4 HBs.out ⟨b,n,k,cp,rfl,rfl,hl,hr,Hcp.out.2,mk1_at _ _ _,hb4,fun j hj q u hu=>hall _ _ ?_⟩,hAg.mk1 hbb _,fun j u hj=>hall j u ?_,fun q hq hS=>?_⟩⟩
      · have hm:=marks_get (f:=4) (by decide) hj hu
        have hle:xs.length<=(n+j)*esz 4+q:=by
          rw [HXl.out,Nat.add_mul];show n*2<=n*2+j*2+q;omega
        rw [List.getElem?_append_right hle];have he:(n+j)*esz 4+q-xs.length=j*esz 4+q:=by
          rw [HXl.out,Nat.add_mul];show n*2+j*2+q-n*2=j*2+q;omega
        rw [he];exact hm
      · have hj':=(List.getElem?_eq_some_iff.1 hj).1
        rw [List.getElem?_append_left hj'];exact hj
      · have hq1:q<wr.heap.size:=Nat.lt_of_lt_of_le hq HBW.out.size
        exact (HH3.out q (Nat.lt_of_lt_of_le hq1 HA1.out.size) (by rw [HA1.out.lab q hq1];exact hS)).trans ((HH1.out q hq1 hS).trans (HBW.out.block q hq))
end Go.Proofs.YtpcijhecaedkpaaGreatDoor

namespace Go.Proofs.YtpcijhecaedkpaaGreatDoor
open Go.RowKit
set_option maxRecDepth 10000
set_option maxHeartbeats 8000000
theorem layInts_4 (base R:Nat) (S:Lab) (N:Nat) (v:Value) (n:Nat) (xs:List Value) (w:World) (hG:RoomG base R S N w) (hv:SrcAt w v n 1 xs) (hl:n<=1000000) (hN:N<=1000000):Calls Tryz.prog 209 #[.pointer (some ⟨R,0,none⟩),v,.int .i64 4] w (LaidX base R S N w 0 n xs 4):=layInts_any base R S N v n xs 4 w hG hv hl (by decide) (by decide) hN
theorem layTexts_4 (base R:Nat) (S:Lab) (N:Nat) (v:Value) (n:Nat) (xs:List Value) (w:World) (hG:RoomG base R S N w) (hv:SrcAt w v n 1 xs) (hl:n<=1000000) (hN:N<=1000000):Calls Tryz.prog 210 #[.pointer (some ⟨R,0,none⟩),v,.int .i64 4] w (LaidX base R S N w 1 n xs 4):=layTexts_any base R S N v n xs 4 w hG hv hl (by decide) (by decide) hN
theorem layOps_4 (base R:Nat) (S:Lab) (N:Nat) (v:Value) (n:Nat) (xs:List Value) (w:World) (hG:RoomG base R S N w) (hv:SrcAt w v n 3 xs) (hl:n<=1000000) (hN:N<=1000000):Calls Tryz.prog 207 #[.pointer (some ⟨R,0,none⟩),v,.int .i64 4] w (LaidX base R S N w 5 n xs 4):=layOps_any base R S N v n xs 4 w hG hv hl (by decide) (by decide) hN
theorem layPieces_4 (base R:Nat) (S:Lab) (N:Nat) (v:Value) (n:Nat) (xs:List Value) (w:World) (hG:RoomG base R S N w) (hv:SrcAt w v n 2 xs) (hl:n<=1000000) (hN:N<=1000000):Calls Tryz.prog 243 #[.pointer (some ⟨R,0,none⟩),v,.int .i64 4] w (LaidX base R S N w 4 n xs 4):=layPieces_any base R S N v n xs 4 w hG hv hl (by decide) (by decide) hN
structure Bx (base R:Nat) (S:Lab) (w:World) (N:Nat) (t:TypeId) (cs zs:Array Value) (S1:Lab) (W:World):Prop where
  g:RoomG base R S1 N W
  a:Agree S S1 w W
  box:W.heap[w.heap.size]?=some (.cells cs t (0,0))
  zer:W.heap[w.heap.size+1]?=some (.cells zs t (0,0))
  lab:(150<=S1 w.heap.size/\S1 w.heap.size<1000)/\150<=S1 (w.heap.size+1)/\S1 (w.heap.size+1)<1000
  high:∀ k,k<w.heap.size->150<=S k->W.heap[k]?=w.heap[k]?
theorem Bx.lt {base R:Nat} {S:Lab} {w:World} {N:Nat} {t:TypeId} {cs zs:Array Value} {S1:Lab} {W:World} (h:Bx base R S w N t cs zs S1 W):w.heap.size+1<W.heap.size:=(Array.getElem?_eq_some_iff.1 h.zer).1
theorem bx_start {base R:Nat} {S:Lab} {w:World} {N:Nat} (t:TypeId) (cs zs:Array Value) (h:RoomG base R S N w) {W:World} (hW:(w.alloc (.cells cs t)).alloc (.cells zs t)=W):Bx base R S w N t cs zs (lab2 S w.heap.size) W:=by
  have hb:Below w.heap.size w W:=by rw [<-hW];exact ((Below.refl _ _).alloc (Nat.le_refl _) _).alloc (by simp) _
  have hsz:W.heap.size=w.heap.size+1+1:=by rw [<-hW];simp
  refine ⟨h.lab2 hb (by omega),agree_lab2 hb,?_,?_,by unfold lab2;simp,fun k hk _=>hb.block k hk⟩
  · rw [<-hW,Below.heap_alloc _ _ _ (by simp)];exact heap_alloc_new w _
  · rw [<-hW]
    have:=heap_alloc_new (w.alloc (.cells cs t)) (.cells zs t);simpa using this
theorem Bx.call {base R:Nat} {S:Lab} {w:World} {N M:Nat} {t:TypeId} {cs zs:Array Value} {S1 S2:Lab} {W w2:World} (h:Bx base R S w N t cs zs S1 W) (hg:RoomG base R S2 M w2) (ha:Agree S1 S2 W w2) (hh:∀ k,k<W.heap.size->150<=S1 k->w2.heap[k]?=W.heap[k]?):Bx base R S w M t cs zs S2 w2:=by
  have hl:=h.lt;exact ⟨hg,h.a.trans ha,(hh _ (by omega) h.lab.1.1).trans h.box,(hh _ hl h.lab.2.1).trans h.zer,⟨by rw [ha.lab _ (by omega)];exact h.lab.1,by rw [ha.lab _ hl];exact h.lab.2⟩,fun k hk hS=>(hh k (by omega) (by rw [h.a.lab k hk];exact hS)).trans (h.high k hk hS)⟩
theorem Bx.put {base R:Nat} {S:Lab} {w:World} {N:Nat} {t:TypeId} {cs zs:Array Value} {S1:Lab} {W:World} (h:Bx base R S w N t cs zs S1 W) (i:Nat) (v:Value):Bx base R S w N t (cs.setIfInBounds i v) zs S1 (W.setCell ⟨w.heap.size,i,none⟩ v):=
  ⟨h.g.set h.lab.1 i v,h.a.set h.lab.1 i v,by simp [World.setCell,Array.getElem?_modify,h.box],(Below.heap_setCell W ⟨w.heap.size,i,none⟩ v (w.heap.size+1) (by simp)).trans h.zer,h.lab,fun k hk hS=>(Below.heap_setCell W ⟨w.heap.size,i,none⟩ v k (by simp;omega)).trans (h.high k hk hS)⟩
theorem Bx.zput {base R:Nat} {S:Lab} {w:World} {N:Nat} {t:TypeId} {cs zs:Array Value} {S1:Lab} {W:World} (h:Bx base R S w N t cs zs S1 W) (i:Nat) (v:Value):Bx base R S w N t cs (zs.setIfInBounds i v) S1 (W.setCell ⟨w.heap.size+1,i,none⟩ v):=
  ⟨h.g.set h.lab.2 i v,h.a.set h.lab.2 i v,(Below.heap_setCell W ⟨w.heap.size+1,i,none⟩ v w.heap.size (by simp)).trans h.box,by simp [World.setCell,Array.getElem?_modify,h.zer],h.lab,fun k hk hS=>(Below.heap_setCell W ⟨w.heap.size+1,i,none⟩ v k (by simp;omega)).trans (h.high k hk hS)⟩
theorem Agree.zput {base R:Nat} {S:Lab} {w:World} {N:Nat} {t:TypeId} {cs zs:Array Value} {S1:Lab} {W:World} (h:Bx base R S w N t cs zs S1 W) (i:Nat) (v:Value):Agree S1 S1 W (W.setCell ⟨w.heap.size+1,i,none⟩ v):=(Agree.refl _ _).set h.lab.2 i v
theorem Agree.bput {base R:Nat} {S:Lab} {w:World} {N:Nat} {t:TypeId} {cs zs:Array Value} {S1:Lab} {W:World} (h:Bx base R S w N t cs zs S1 W) (i:Nat) (v:Value):Agree S1 S1 W (W.setCell ⟨w.heap.size,i,none⟩ v):=(Agree.refl _ _).set h.lab.1 i v
theorem box2 {w:World} {N:Nat} {a0 a1:Value} {t:TypeId} (h:w.heap[N]?=some (.cells #[a0,a1] t (0,0))):(w.cell? ⟨N,0,none⟩=some a0/\w.cell? ⟨N,1,none⟩=some a1)/\∀ j,w.frozen? ⟨N,j,none⟩=false:=
  ⟨⟨by simp [World.cell?,h],by simp [World.cell?,h]⟩,fun j=>by simp [World.frozen?,h]⟩
structure LaidR (base R:Nat) (S:Lab) (N:Nat) (w:World) (n:Nat) (xs:List Value) (dg:Value) (e:Ending) (w':World):Prop where
  out:∃ (b:Nat) (S':Lab),e=.returned (.agg #[.slice (some ⟨b,0,none⟩) n (n+4),dg])/\RoomG base R S' (N+1) w'/\Agree S S' w w'/\(Rd0 S' w' (.slice (some ⟨b,0,none⟩) n (n+4)) n xs/\Lb S' w' 4 b n)/\∀ k,k<w.heap.size->150<=S k->w'.heap[k]?=w.heap[k]?
theorem row_room (base R:Nat) (S:Lab) (N:Nat) (v:Value) (n:Nat) (xs:List Value) (dg:ByteArray) (w:World) (hG:RoomG base R S N w) (hv:Rd0 S w v n xs) (hxl:xs.length=n*2) (hx1:∀ u∈xs,u.oneCell'=true) (hl:n<=1000000) (hN:N<=1000000) :
    Calls Tryz.prog 208 #[.pointer (some ⟨R,0,none⟩),.agg #[v,.string dg]] w (LaidR base R S N w n xs (.string dg)):=by
  obtain ⟨va,vc,rfl,_⟩:=id hv.now;obtain ⟨W,hW⟩:∃ W,(w.alloc (.cells #[.slice va n vc,.string dg] 49)).alloc (.cells #[.slice none 0 0,.string ⟨#[]⟩] 49)=W:=⟨_,rfl⟩;have HX:Hid (Bx base R S w N 49 #[.slice va n vc,.string dg] #[.slice none 0 0,.string ⟨#[]⟩] (lab2 S w.heap.size) W):=bx_start 49 _ _ hG hW;have HV:Hid (Rd0 S w (.slice va n vc) n xs):=hv;have HI:Hid (xs.length=n*2/\∀ u∈xs,u.oneCell'=true):=⟨hxl,hx1⟩;obtain ⟨⟨p0,p1⟩,hfz⟩:=box2 HX.out.box;have hNI:w.heap.size+1<W.heap.size:=HX.out.lt;generalize lab2 S w.heap.size=S1 at *
  clear hG hv hxl hx1;go_enter Tryz.func208,Tryz.ntmps208
  go_wp2_with (first
    | (go_at_call 243;refine calls_at (layPieces_4 base R S1 N _ n xs W HX.out.g ((HV.out.agree HX.out.a).now.src HI.out.1 HI.out.2) hl hN) (by with_reducible rfl) (by with_reducible rfl) ?_;rintro e w2 ⟨⟨b,S2,he,hb1,hb2,hS2,hG2,hA2,hc2,hh2⟩⟩;subst he;
       have HX2:Hid (Bx base R S w (N+1) 49 #[.slice va n vc,.string dg] #[.slice none 0 0,.string ⟨#[]⟩] S2 w2):=HX.out.call hG2 hA2 hh2;
       have HD2:Hid (Rd0 S2 w2 (.slice (some ⟨b,0,none⟩) n (n+4)) n xs/\Lb S2 w2 4 b n):=⟨rd0_of hS2.fre hb2 (by omega) hc2,hS2⟩;
       obtain ⟨V,hV⟩:∃ V,w2.setCell ⟨w.heap.size,0,none⟩ (.slice (some ⟨b,0,none⟩) n (n+4))=V:=⟨_,rfl⟩;
       have HX3:Hid (Bx base R S w (N+1) 49 #[.slice (some ⟨b,0,none⟩) n (n+4),.string dg] #[.slice none 0 0,.string ⟨#[]⟩] S2 V):=(by rw [<-hV];exact HX2.out.put 0 _);
       have HD3:Hid (Rd0 S2 V (.slice (some ⟨b,0,none⟩) n (n+4)) n xs/\Lb S2 V 4 b n):=(by rw [<-hV];exact ⟨HD2.out.1.agree (Agree.bput HX2.out 0 _),HD2.out.2.agree (Agree.bput HX2.out 0 _)⟩);
       clear p0 p1 hfz hNI hb1 hb2 hS2 hG2 hA2 hc2 hh2;
       obtain ⟨⟨q0,q1⟩,hfq⟩:=box2 HX2.out.box;
       obtain ⟨⟨p0,p1⟩,hfz⟩:=box2 HX3.out.box;
       obtain ⟨⟨z0,z1⟩,hfzz⟩:=box2 HX3.out.zer;
       have hNI:w.heap.size+1<V.heap.size:=HX3.out.lt))
  have h1:=HX3.out.zput 0 (.slice (some ⟨b,0,none⟩) n (n+4));have h2:=h1.zput 1 (.string dg);refine bodyPost_ret (v:=.agg #[.slice (some ⟨b,0,none⟩) n (n+4),.string dg]) (by simp [results,Tryz.results208,go_sem,World.cell?,World.setCell,Array.getElem?_modify,HX3.out.zer]) rfl ⟨⟨b,S2,rfl,h2.g,h2.a,?_,h2.high⟩⟩;exact ⟨(HD3.out.1.agree (Agree.zput HX3.out 0 _)).agree (Agree.zput h1 1 _),(HD3.out.2.agree (Agree.zput HX3.out 0 _)).agree (Agree.zput h1 1 _)⟩
end Go.Proofs.YtpcijhecaedkpaaGreatDoor

namespace Go.Proofs.YtpcijhecaedkpaaGreatDoor
open Go.RowKit
set_option maxRecDepth 10000
set_option maxHeartbeats 8000000
theorem ro_opsL (L:List OpL):(opsC L).length=L.length*3:=by
  induction L with
  | nil=>rfl
  | cons a L ih=>unfold opsC at *;rw [List.flatMap_cons,List.length_append,ih,List.length_cons,Nat.succ_mul];show 3+_=_;omega
theorem ro_ops1 (L:List OpL):∀ u∈opsC L,u.oneCell'=true:=by
  intro u hu;unfold opsC at hu;obtain ⟨o,_,h⟩:=List.mem_flatMap.1 hu;simp only [opC,List.mem_cons,List.not_mem_nil,or_false] at h
  rcases h with rfl | rfl | rfl <;> rfl
theorem ro_pcsL (L:List PcL):(pcsC L).length=L.length*2:=by
  induction L with
  | nil=>rfl
  | cons a L ih=>unfold pcsC at *;rw [List.flatMap_cons,List.length_append,ih,List.length_cons,Nat.succ_mul];show 2+_=_;omega
theorem ro_pcs1 (L:List PcL):∀ u∈pcsC L,u.oneCell'=true:=by
  intro u hu;unfold pcsC at hu;obtain ⟨o,_,h⟩:=List.mem_flatMap.1 hu;simp only [pcC,List.mem_cons,List.not_mem_nil,or_false] at h
  rcases h with rfl | rfl <;> rfl
theorem ro_lits1 (L:List Int):∀ u∈L.map (Value.int .i64),u.oneCell'=true:=by
  intro u hu;obtain ⟨o,_,rfl⟩:=List.mem_map.1 hu;rfl
theorem ro_ids1 (L:List (List UInt8)):∀ u∈L.map (fun x=>Value.string (txtOf x)),u.oneCell'=true:=by
  intro u hu;obtain ⟨o,_,rfl⟩:=List.mem_map.1 hu;rfl
def Sl0 (S:Lab) (w:World) (d:SL) (vo vp vl vi:Value):Prop:=Rd0 S w vo d.ops.length (opsC d.ops)/\Rd0 S w vp d.pcs.length (pcsC d.pcs)/\Rd0 S w vl d.lits.length (d.lits.map (.int .i64))/\Rd0 S w vi d.ids.length (d.ids.map fun x=>.string (txtOf x))
theorem Sl0.agree {S S':Lab} {w w':World} {d:SL} {vo vp vl vi:Value} (h:Sl0 S w d vo vp vl vi) (ha:Agree S S' w w'):Sl0 S' w' d vo vp vl vi:=⟨h.1.agree ha,h.2.1.agree ha,h.2.2.1.agree ha,h.2.2.2.agree ha⟩
theorem Sl0.now {S:Lab} {w:World} {d:SL} {vo vp vl vi:Value} (h:Sl0 S w d vo vp vl vi):SlR w d vo vp vl vi:=⟨h.1.now,h.2.1.now,h.2.2.1.now,h.2.2.2.now⟩
def Few1 (d:SL):Prop:=d.ops.length<=1000000/\d.pcs.length<=1000000/\d.lits.length<=1000000/\d.ids.length<=1000000
structure Sv where
  d:SL
  o:Value
  p:Value
  l:Value
  i:Value
def Lbs (S:Lab) (w:World) (s:Sv):Prop:=∃ bO bP bL bI:Nat,s.o=.slice (some ⟨bO,0,none⟩) s.d.ops.length (s.d.ops.length+4)/\s.p=.slice (some ⟨bP,0,none⟩) s.d.pcs.length (s.d.pcs.length+4)/\s.l=.slice (some ⟨bL,0,none⟩) s.d.lits.length (s.d.lits.length+4)/\s.i=.slice (some ⟨bI,0,none⟩) s.d.ids.length (s.d.ids.length+4)/\Lb S w 5 bO s.d.ops.length/\Lb S w 4 bP s.d.pcs.length/\Lb S w 0 bL s.d.lits.length/\Lb S w 1 bI s.d.ids.length
def SlB (S:Lab) (w:World) (s:Sv):Prop:=Sl0 S w s.d s.o s.p s.l s.i/\Lbs S w s
theorem SlB.agree {S S':Lab} {w w':World} {s:Sv} (h:SlB S w s) (ha:Agree S S' w w'):SlB S' w' s:=by
  obtain ⟨h0,bO,bP,bL,bI,e1,e2,e3,e4,h1,h2,h3,h4⟩:=h;exact ⟨h0.agree ha,bO,bP,bL,bI,e1,e2,e3,e4,h1.agree ha,h2.agree ha,h3.agree ha,h4.agree ha⟩
structure LaidS (base R:Nat) (S:Lab) (N:Nat) (w:World) (d:SL) (e:Ending) (w':World):Prop where
  out:∃ (bO bP bL bI:Nat) (S':Lab),e=.returned (.agg (slC d (.slice (some ⟨bO,0,none⟩) d.ops.length (d.ops.length+4)) (.slice (some ⟨bP,0,none⟩) d.pcs.length (d.pcs.length+4)) (.slice (some ⟨bL,0,none⟩) d.lits.length (d.lits.length+4)) (.slice (some ⟨bI,0,none⟩) d.ids.length (d.ids.length+4))))/\RoomG base R S' (N+4) w'/\Agree S S' w w'/\SlB S' w' ⟨d,.slice (some ⟨bO,0,none⟩) d.ops.length (d.ops.length+4),.slice (some ⟨bP,0,none⟩) d.pcs.length (d.pcs.length+4),.slice (some ⟨bL,0,none⟩) d.lits.length (d.lits.length+4),.slice (some ⟨bI,0,none⟩) d.ids.length (d.ids.length+4)⟩/\∀ k,k<w.heap.size->150<=S k->w'.heap[k]?=w.heap[k]?
theorem step_room (base R:Nat) (S:Lab) (N:Nat) (d:SL) (vo vp vl vi:Value) (w:World) (hG:RoomG base R S N w) (hv:Sl0 S w d vo vp vl vi) (hl:Few1 d) (hN:N<=900000) :
    Calls Tryz.prog 120 #[.pointer (some ⟨R,0,none⟩),.agg (slC d vo vp vl vi)] w (LaidS base R S N w d):=by
  obtain ⟨oa,oc,rfl,_⟩:=id hv.1.now;obtain ⟨pa,pc,rfl,_⟩:=id hv.2.1.now;obtain ⟨la,lc,rfl,_⟩:=id hv.2.2.1.now;obtain ⟨ia,ic,rfl,_⟩:=id hv.2.2.2.now;obtain ⟨W,hW⟩:∃ W,(w.alloc (.cells #[.int .i64 d.k,.string (txtOf d.n),.slice oa d.ops.length oc,.slice pa d.pcs.length pc,.string (txtOf d.deg),.slice la d.lits.length lc,.slice ia d.ids.length ic,.int .i64 d.ends,.string (txtOf d.low),.string (txtOf d.high)] 51)).alloc (.cells #[.int .i64 0,.string ⟨#[]⟩,.slice none 0 0,.slice none 0 0,.string ⟨#[]⟩,.slice none 0 0,.slice none 0 0,.int .i64 0,.string ⟨#[]⟩,.string ⟨#[]⟩] 51)=W:=⟨_,rfl⟩
  have HX:Hid (Bx base R S w N 51 #[.int .i64 d.k,.string (txtOf d.n),.slice oa d.ops.length oc,.slice pa d.pcs.length pc,.string (txtOf d.deg),.slice la d.lits.length lc,.slice ia d.ids.length ic,.int .i64 d.ends,.string (txtOf d.low),.string (txtOf d.high)] #[.int .i64 0,.string ⟨#[]⟩,.slice none 0 0,.slice none 0 0,.string ⟨#[]⟩,.slice none 0 0,.slice none 0 0,.int .i64 0,.string ⟨#[]⟩,.string ⟨#[]⟩] (lab2 S w.heap.size) W):=bx_start 51 _ _ hG hW;have HV:Hid (Rd0 S w (.slice oa d.ops.length oc) d.ops.length (opsC d.ops)/\Rd0 S w (.slice pa d.pcs.length pc) d.pcs.length (pcsC d.pcs)/\Rd0 S w (.slice la d.lits.length lc) d.lits.length (d.lits.map (.int .i64))/\Rd0 S w (.slice ia d.ids.length ic) d.ids.length (d.ids.map fun x=>.string (txtOf x))):=hv
  have HL:Hid (d.ops.length<=1000000/\d.pcs.length<=1000000/\d.lits.length<=1000000/\d.ids.length<=1000000):=hl;obtain ⟨⟨p0,p1,p2,p3,p4,p5,p6,p7,p8,p9⟩,hfz⟩:=box10 HX.out.box;have hNI:w.heap.size+1<W.heap.size:=HX.out.lt;generalize lab2 S w.heap.size=S1 at *
  clear hG hv hl;unfold slC;go_enter Tryz.func120,Tryz.ntmps120
  go_wp2_with (first
    | (go_at_call 207;refine calls_at (layOps_4 base R S1 N _ d.ops.length (opsC d.ops) W HX.out.g ((HV.out.1.agree HX.out.a).now.src (ro_opsL _) (ro_ops1 _)) HL.out.1 (by omega)) (by with_reducible rfl) (by with_reducible rfl) ?_;rintro e u1 ⟨⟨bO,T1,he,hb1,hb2,hS2,hG2,hA2,hc2,hh2⟩⟩;subst he;
       have HX1:Hid (Bx base R S w (N+1) 51 #[.int .i64 d.k,.string (txtOf d.n),.slice oa d.ops.length oc,.slice pa d.pcs.length pc,.string (txtOf d.deg),.slice la d.lits.length lc,.slice ia d.ids.length ic,.int .i64 d.ends,.string (txtOf d.low),.string (txtOf d.high)] #[.int .i64 0,.string ⟨#[]⟩,.slice none 0 0,.slice none 0 0,.string ⟨#[]⟩,.slice none 0 0,.slice none 0 0,.int .i64 0,.string ⟨#[]⟩,.string ⟨#[]⟩] T1 u1):=HX.out.call hG2 hA2 hh2;
       have HD1:Hid (Rd0 T1 u1 (.slice (some ⟨bO,0,none⟩) d.ops.length (d.ops.length+4)) d.ops.length (opsC d.ops)/\Lb T1 u1 5 bO d.ops.length):=⟨rd0_of hS2.fre hb2 (by have:=HL.out.1;omega) hc2,hS2⟩;
       have HA1:Hid (Agree S1 T1 W u1):=hA2;
       obtain ⟨V1,hV1⟩:∃ V,u1.setCell ⟨w.heap.size,2,none⟩ (.slice (some ⟨bO,0,none⟩) d.ops.length (d.ops.length+4))=V:=⟨_,rfl⟩;
       have HY1:Hid (Bx base R S w (N+1) 51 #[.int .i64 d.k,.string (txtOf d.n),.slice (some ⟨bO,0,none⟩) d.ops.length (d.ops.length+4),.slice pa d.pcs.length pc,.string (txtOf d.deg),.slice la d.lits.length lc,.slice ia d.ids.length ic,.int .i64 d.ends,.string (txtOf d.low),.string (txtOf d.high)] #[.int .i64 0,.string ⟨#[]⟩,.slice none 0 0,.slice none 0 0,.string ⟨#[]⟩,.slice none 0 0,.slice none 0 0,.int .i64 0,.string ⟨#[]⟩,.string ⟨#[]⟩] T1 V1):=(by rw [<-hV1];exact (HX1.out.put 2 _));
       have HB1:Hid (Agree T1 T1 u1 V1):=(by rw [<-hV1];exact Agree.bput HX1.out 2 _);
       clear p0 p1 p2 p3 p4 p5 p6 p7 p8 p9 hfz hNI hG2 hA2 hh2 hb1 hb2 hS2 hc2;
       obtain ⟨⟨q0,q1,q2,q3,q4,q5,q6,q7,q8,q9⟩,hfq⟩:=box10 HX1.out.box;
       obtain ⟨⟨p0,p1,p2,p3,p4,p5,p6,p7,p8,p9⟩,hfz⟩:=box10 HY1.out.box;
       have hNI:w.heap.size+1<V1.heap.size:=HY1.out.lt)
    | (go_at_call 208;refine calls_at (row_room base R T1 (N+1) _ d.pcs.length (pcsC d.pcs) (txtOf d.deg) V1 HY1.out.g (HV.out.2.1.agree HY1.out.a) (ro_pcsL _) (ro_pcs1 _) HL.out.2.1 (by omega)) (by with_reducible rfl) (by with_reducible rfl) ?_;rintro e u2 ⟨⟨bP,T2,he,hG2,hA2,hD2,hh2⟩⟩;subst he;
       have HX2:Hid (Bx base R S w (N+2) 51 #[.int .i64 d.k,.string (txtOf d.n),.slice (some ⟨bO,0,none⟩) d.ops.length (d.ops.length+4),.slice pa d.pcs.length pc,.string (txtOf d.deg),.slice la d.lits.length lc,.slice ia d.ids.length ic,.int .i64 d.ends,.string (txtOf d.low),.string (txtOf d.high)] #[.int .i64 0,.string ⟨#[]⟩,.slice none 0 0,.slice none 0 0,.string ⟨#[]⟩,.slice none 0 0,.slice none 0 0,.int .i64 0,.string ⟨#[]⟩,.string ⟨#[]⟩] T2 u2):=HY1.out.call hG2 hA2 hh2;
       have HD2:Hid (Rd0 T2 u2 (.slice (some ⟨bP,0,none⟩) d.pcs.length (d.pcs.length+4)) d.pcs.length (pcsC d.pcs)/\Lb T2 u2 4 bP d.pcs.length):=hD2;
       have HA2:Hid (Agree T1 T2 V1 u2):=hA2;
       obtain ⟨V2,hV2⟩:∃ V,(u2.setCell ⟨w.heap.size,3,none⟩ (.slice (some ⟨bP,0,none⟩) d.pcs.length (d.pcs.length+4))).setCell ⟨w.heap.size,4,none⟩ (.string (txtOf d.deg))=V:=⟨_,rfl⟩;
       have HY2:Hid (Bx base R S w (N+2) 51 #[.int .i64 d.k,.string (txtOf d.n),.slice (some ⟨bO,0,none⟩) d.ops.length (d.ops.length+4),.slice (some ⟨bP,0,none⟩) d.pcs.length (d.pcs.length+4),.string (txtOf d.deg),.slice la d.lits.length lc,.slice ia d.ids.length ic,.int .i64 d.ends,.string (txtOf d.low),.string (txtOf d.high)] #[.int .i64 0,.string ⟨#[]⟩,.slice none 0 0,.slice none 0 0,.string ⟨#[]⟩,.slice none 0 0,.slice none 0 0,.int .i64 0,.string ⟨#[]⟩,.string ⟨#[]⟩] T2 V2):=(by rw [<-hV2];exact ((HX2.out.put 3 _).put 4 _));
       have HB2:Hid (Agree T2 T2 u2 V2):=(by rw [<-hV2];exact (Agree.bput HX2.out 3 _).trans (Agree.bput (HX2.out.put 3 _) 4 _));
       clear p0 p1 p2 p3 p4 p5 p6 p7 p8 p9 hfz q0 q1 q2 q3 q4 q5 q6 q7 q8 q9 hfq hNI hG2 hA2 hh2 hD2;
       obtain ⟨⟨q0,q1,q2,q3,q4,q5,q6,q7,q8,q9⟩,hfq⟩:=box10 HX2.out.box;
       obtain ⟨⟨p0,p1,p2,p3,p4,p5,p6,p7,p8,p9⟩,hfz⟩:=box10 HY2.out.box;
       have hNI:w.heap.size+1<V2.heap.size:=HY2.out.lt)
    | (go_at_call 209;refine calls_at (layInts_4 base R T2 (N+2) _ d.lits.length (d.lits.map (.int .i64)) V2 HY2.out.g ((HV.out.2.2.1.agree HY2.out.a).now.src (by simp) (ro_lits1 _)) HL.out.2.2.1 (by omega)) (by with_reducible rfl) (by with_reducible rfl) ?_;rintro e u3 ⟨⟨bL,T3,he,hb1,hb2,hS2,hG2,hA2,hc2,hh2⟩⟩;subst he;
       have HX3:Hid (Bx base R S w (N+3) 51 #[.int .i64 d.k,.string (txtOf d.n),.slice (some ⟨bO,0,none⟩) d.ops.length (d.ops.length+4),.slice (some ⟨bP,0,none⟩) d.pcs.length (d.pcs.length+4),.string (txtOf d.deg),.slice la d.lits.length lc,.slice ia d.ids.length ic,.int .i64 d.ends,.string (txtOf d.low),.string (txtOf d.high)] #[.int .i64 0,.string ⟨#[]⟩,.slice none 0 0,.slice none 0 0,.string ⟨#[]⟩,.slice none 0 0,.slice none 0 0,.int .i64 0,.string ⟨#[]⟩,.string ⟨#[]⟩] T3 u3):=HY2.out.call hG2 hA2 hh2;
       have HD3:Hid (Rd0 T3 u3 (.slice (some ⟨bL,0,none⟩) d.lits.length (d.lits.length+4)) d.lits.length (d.lits.map (.int .i64))/\Lb T3 u3 0 bL d.lits.length):=⟨rd0_of hS2.fre hb2 (by have:=HL.out.2.2.1;omega) hc2,hS2⟩;
       have HA3:Hid (Agree T2 T3 V2 u3):=hA2;
       obtain ⟨V3,hV3⟩:∃ V,u3.setCell ⟨w.heap.size,5,none⟩ (.slice (some ⟨bL,0,none⟩) d.lits.length (d.lits.length+4))=V:=⟨_,rfl⟩;
       have HY3:Hid (Bx base R S w (N+3) 51 #[.int .i64 d.k,.string (txtOf d.n),.slice (some ⟨bO,0,none⟩) d.ops.length (d.ops.length+4),.slice (some ⟨bP,0,none⟩) d.pcs.length (d.pcs.length+4),.string (txtOf d.deg),.slice (some ⟨bL,0,none⟩) d.lits.length (d.lits.length+4),.slice ia d.ids.length ic,.int .i64 d.ends,.string (txtOf d.low),.string (txtOf d.high)] #[.int .i64 0,.string ⟨#[]⟩,.slice none 0 0,.slice none 0 0,.string ⟨#[]⟩,.slice none 0 0,.slice none 0 0,.int .i64 0,.string ⟨#[]⟩,.string ⟨#[]⟩] T3 V3):=(by rw [<-hV3];exact (HX3.out.put 5 _));
       have HB3:Hid (Agree T3 T3 u3 V3):=(by rw [<-hV3];exact Agree.bput HX3.out 5 _);
       clear p0 p1 p2 p3 p4 p5 p6 p7 p8 p9 hfz q0 q1 q2 q3 q4 q5 q6 q7 q8 q9 hfq hNI hG2 hA2 hh2 hb1 hb2 hS2 hc2;
       obtain ⟨⟨q0,q1,q2,q3,q4,q5,q6,q7,q8,q9⟩,hfq⟩:=box10 HX3.out.box;
       obtain ⟨⟨p0,p1,p2,p3,p4,p5,p6,p7,p8,p9⟩,hfz⟩:=box10 HY3.out.box;
       have hNI:w.heap.size+1<V3.heap.size:=HY3.out.lt)
    | (go_at_call 210;refine calls_at (layTexts_4 base R T3 (N+3) _ d.ids.length (d.ids.map fun x=>.string (txtOf x)) V3 HY3.out.g ((HV.out.2.2.2.agree HY3.out.a).now.src (by simp) (ro_ids1 _)) HL.out.2.2.2 (by omega)) (by with_reducible rfl) (by with_reducible rfl) ?_;rintro e u4 ⟨⟨bI,T4,he,hb1,hb2,hS2,hG2,hA2,hc2,hh2⟩⟩;subst he;
       have HX4:Hid (Bx base R S w (N+4) 51 #[.int .i64 d.k,.string (txtOf d.n),.slice (some ⟨bO,0,none⟩) d.ops.length (d.ops.length+4),.slice (some ⟨bP,0,none⟩) d.pcs.length (d.pcs.length+4),.string (txtOf d.deg),.slice (some ⟨bL,0,none⟩) d.lits.length (d.lits.length+4),.slice ia d.ids.length ic,.int .i64 d.ends,.string (txtOf d.low),.string (txtOf d.high)] #[.int .i64 0,.string ⟨#[]⟩,.slice none 0 0,.slice none 0 0,.string ⟨#[]⟩,.slice none 0 0,.slice none 0 0,.int .i64 0,.string ⟨#[]⟩,.string ⟨#[]⟩] T4 u4):=HY3.out.call hG2 hA2 hh2;
       have HD4:Hid (Rd0 T4 u4 (.slice (some ⟨bI,0,none⟩) d.ids.length (d.ids.length+4)) d.ids.length (d.ids.map fun x=>.string (txtOf x))/\Lb T4 u4 1 bI d.ids.length):=⟨rd0_of hS2.fre hb2 (by have:=HL.out.2.2.2;omega) hc2,hS2⟩;
       have HA4:Hid (Agree T3 T4 V3 u4):=hA2;
       obtain ⟨V4,hV4⟩:∃ V,u4.setCell ⟨w.heap.size,6,none⟩ (.slice (some ⟨bI,0,none⟩) d.ids.length (d.ids.length+4))=V:=⟨_,rfl⟩;
       have HY4:Hid (Bx base R S w (N+4) 51 #[.int .i64 d.k,.string (txtOf d.n),.slice (some ⟨bO,0,none⟩) d.ops.length (d.ops.length+4),.slice (some ⟨bP,0,none⟩) d.pcs.length (d.pcs.length+4),.string (txtOf d.deg),.slice (some ⟨bL,0,none⟩) d.lits.length (d.lits.length+4),.slice (some ⟨bI,0,none⟩) d.ids.length (d.ids.length+4),.int .i64 d.ends,.string (txtOf d.low),.string (txtOf d.high)] #[.int .i64 0,.string ⟨#[]⟩,.slice none 0 0,.slice none 0 0,.string ⟨#[]⟩,.slice none 0 0,.slice none 0 0,.int .i64 0,.string ⟨#[]⟩,.string ⟨#[]⟩] T4 V4):=(by rw [<-hV4];exact (HX4.out.put 6 _));
       have HB4:Hid (Agree T4 T4 u4 V4):=(by rw [<-hV4];exact Agree.bput HX4.out 6 _);
       clear p0 p1 p2 p3 p4 p5 p6 p7 p8 p9 hfz q0 q1 q2 q3 q4 q5 q6 q7 q8 q9 hfq hNI hG2 hA2 hh2 hb1 hb2 hS2 hc2;
       obtain ⟨⟨q0,q1,q2,q3,q4,q5,q6,q7,q8,q9⟩,hfq⟩:=box10 HX4.out.box;
       obtain ⟨⟨p0,p1,p2,p3,p4,p5,p6,p7,p8,p9⟩,hfz⟩:=box10 HY4.out.box;
       obtain ⟨⟨z0,z1,z2,z3,z4,z5,z6,z7,z8,z9⟩,hfzz⟩:=box10 HY4.out.zer;
       have hNI:w.heap.size+1<V4.heap.size:=HY4.out.lt))
  have z0x:=HY4.out.zput 0 (.int .i64 d.k);have z1x:=z0x.zput 1 (.string (txtOf d.n));have z2x:=z1x.zput 2 (.slice (some ⟨bO,0,none⟩) d.ops.length (d.ops.length+4));have z3x:=z2x.zput 3 (.slice (some ⟨bP,0,none⟩) d.pcs.length (d.pcs.length+4));have z4x:=z3x.zput 4 (.string (txtOf d.deg));have z5x:=z4x.zput 5 (.slice (some ⟨bL,0,none⟩) d.lits.length (d.lits.length+4));have z6x:=z5x.zput 6 (.slice (some ⟨bI,0,none⟩) d.ids.length (d.ids.length+4));have z7x:=z6x.zput 7 (.int .i64 d.ends);have z8x:=z7x.zput 8 (.string (txtOf d.low));have z9x:=z8x.zput 9 (.string (txtOf d.high))
  refine bodyPost_ret (v:=.agg #[.int .i64 d.k,.string (txtOf d.n),.slice (some ⟨bO,0,none⟩) d.ops.length (d.ops.length+4),.slice (some ⟨bP,0,none⟩) d.pcs.length (d.pcs.length+4),.string (txtOf d.deg),.slice (some ⟨bL,0,none⟩) d.lits.length (d.lits.length+4),.slice (some ⟨bI,0,none⟩) d.ids.length (d.ids.length+4),.int .i64 d.ends,.string (txtOf d.low),.string (txtOf d.high)]) (by simp [results,Tryz.results120,go_sem,World.cell?,World.setCell,Array.getElem?_modify,HY4.out.zer]) rfl ⟨⟨bO,bP,bL,bI,T4,rfl,z9x.g,z9x.a,?_,z9x.high⟩⟩
  have hE:Agree T4 T4 V4 _:=(((((((((Agree.zput HY4.out 0 (.int .i64 d.k)).trans (Agree.zput z0x 1 (.string (txtOf d.n)))).trans (Agree.zput z1x 2 (.slice (some ⟨bO,0,none⟩) d.ops.length (d.ops.length+4)))).trans (Agree.zput z2x 3 (.slice (some ⟨bP,0,none⟩) d.pcs.length (d.pcs.length+4)))).trans (Agree.zput z3x 4 (.string (txtOf d.deg)))).trans (Agree.zput z4x 5 (.slice (some ⟨bL,0,none⟩) d.lits.length (d.lits.length+4)))).trans (Agree.zput z5x 6 (.slice (some ⟨bI,0,none⟩) d.ids.length (d.ids.length+4)))).trans (Agree.zput z6x 7 (.int .i64 d.ends))).trans (Agree.zput z7x 8 (.string (txtOf d.low)))).trans (Agree.zput z8x 9 (.string (txtOf d.high)));have h34:Agree T3 T4 V3 V4:=HA4.out.trans HB4.out;have h24:Agree T2 T4 V2 V4:=(HA3.out.trans HB3.out).trans h34;have h14:Agree T1 T4 V1 V4:=(HA2.out.trans HB2.out).trans h24
  exact SlB.agree (S:=T4) (w:=V4) ⟨⟨HD1.out.1.agree (HB1.out.trans h14),HD2.out.1.agree (HB2.out.trans h24),HD3.out.1.agree (HB3.out.trans h34),HD4.out.1.agree HB4.out⟩,bO,bP,bL,bI,rfl,rfl,rfl,rfl,HD1.out.2.agree (HB1.out.trans h14),HD2.out.2.agree (HB2.out.trans h24),HD3.out.2.agree (HB3.out.trans h34),HD4.out.2.agree HB4.out⟩ hE
end Go.Proofs.YtpcijhecaedkpaaGreatDoor

namespace Go.Proofs.YtpcijhecaedkpaaGreatDoor
open Go.RowKit
set_option maxRecDepth 10000
set_option maxHeartbeats 8000000
theorem row_cellR {w:World} {base:Nat} {e:TypeId} {a:Option Addr} {n c:Nat} {xs:List Value} (h:w.ownsRow base e 1 (.slice a n c) n xs) (i:Nat) (hi:i<xs.length):∃ g,a=some ⟨g,0,none⟩/\w.cell? ⟨g,i,none⟩=some xs[i]:=by
  rcases h.2 with ⟨h1,h2⟩ | ⟨g,cap,cur,h1,_⟩
  · have:=h.1;omega
  · injection h1 with e1 e2 e3
    subst e1;refine ⟨g,rfl,?_⟩;have:=h.cells (g:=g) rfl i xs[i] (List.getElem?_eq_getElem hi)
    rwa [addr_noneR,Nat.zero_add] at this
theorem bl_drewH {B:Nat} {a w:World} (h:Below B a w) (n:Nat):Below B a (w.drewN n):=h.trans ⟨rfl,rfl,rfl,Nat.le_refl _,fun _ _=>rfl⟩
theorem hold64 (base R:Nat) (S:Lab) (N:Nat) (F:Nat->List Value) (w:World) (hF:RoomF base R S N F w):Calls Tryz.prog 64 #[.pointer (some ⟨R,0,none⟩)] w fun e w'=>e=.returned (.bool true)/\Below w.heap.size w w':=by
  obtain ⟨v0,hv0,ho0,_⟩:=hF.room.field 4 (by decide);have hn:F 4=[]:=hF.none 2 (by decide) (by decide);rw [hn] at ho0;obtain ⟨xa,xc,rfl⟩:=own_formS ho0;simp only [List.length_nil] at hv0;clear ho0 hF hn;go_enter Tryz.func64,Tryz.ntmps64;go_wp2_with fail
  go_loop [3] (fun iv=>iv=.int .i64 0) (fun _=>0)
  case atStart=>rfl
  case round=>
    subst hrel;go_wp2_with fail
    go_ret;exact ⟨rfl,Below.refl _ _⟩
theorem hold65 (base R:Nat) (S:Lab) (N:Nat) (F:Nat->List Value) (w:World) (hF:RoomF base R S N F w):Calls Tryz.prog 65 #[.pointer (some ⟨R,0,none⟩)] w fun e w'=>e=.returned (.bool true)/\Below w.heap.size w w':=by
  obtain ⟨v0,hv0,ho0,_⟩:=hF.room.field 6 (by decide);have hn:F 6=[]:=hF.none 3 (by decide) (by decide);rw [hn] at ho0;obtain ⟨xa,xc,rfl⟩:=own_formS ho0;simp only [List.length_nil] at hv0;clear ho0 hF hn;go_enter Tryz.func65,Tryz.ntmps65;go_wp2_with fail
  go_loop [3] (fun iv=>iv=.int .i64 0) (fun _=>0)
  case atStart=>rfl
  case round=>
    subst hrel;go_wp2_with fail
    go_ret;exact ⟨rfl,Below.refl _ _⟩
theorem hold68 (base R:Nat) (S:Lab) (N:Nat) (F:Nat->List Value) (w:World) (hF:RoomF base R S N F w):Calls Tryz.prog 68 #[.pointer (some ⟨R,0,none⟩)] w fun e w'=>e=.returned (.bool true)/\Below w.heap.size w w':=by
  obtain ⟨v0,hv0,ho0,_⟩:=hF.room.field 12 (by decide);have hn:F 12=[]:=hF.none 6 (by decide) (by decide);rw [hn] at ho0;obtain ⟨xa,xc,rfl⟩:=own_formS ho0;simp only [List.length_nil] at hv0;clear ho0 hF hn;go_enter Tryz.func68,Tryz.ntmps68;go_wp2_with fail
  go_loop [3] (fun iv=>iv=.int .i64 0) (fun _=>0)
  case atStart=>rfl
  case round=>
    subst hrel;go_wp2_with fail
    go_ret;exact ⟨rfl,Below.refl _ _⟩
theorem hold69 (base R:Nat) (S:Lab) (N:Nat) (F:Nat->List Value) (w:World) (hF:RoomF base R S N F w):Calls Tryz.prog 69 #[.pointer (some ⟨R,0,none⟩)] w fun e w'=>e=.returned (.bool true)/\Below w.heap.size w w':=by
  obtain ⟨v0,hv0,ho0,_⟩:=hF.room.field 14 (by decide);have hn:F 14=[]:=hF.none 7 (by decide) (by decide);rw [hn] at ho0;obtain ⟨xa,xc,rfl⟩:=own_formS ho0;simp only [List.length_nil] at hv0;clear ho0 hF hn;go_enter Tryz.func69,Tryz.ntmps69;go_wp2_with fail
  go_loop [3] (fun iv=>iv=.int .i64 0) (fun _=>0)
  case atStart=>rfl
  case round=>
    subst hrel;go_wp2_with fail
    go_ret;exact ⟨rfl,Below.refl _ _⟩
theorem hold70 (base R:Nat) (S:Lab) (N:Nat) (F:Nat->List Value) (w:World) (hF:RoomF base R S N F w):Calls Tryz.prog 70 #[.pointer (some ⟨R,0,none⟩)] w fun e w'=>e=.returned (.bool true)/\Below w.heap.size w w':=by
  obtain ⟨v0,hv0,ho0,_⟩:=hF.room.field 16 (by decide);have hn:F 16=[]:=hF.none 8 (by decide) (by decide);rw [hn] at ho0;obtain ⟨xa,xc,rfl⟩:=own_formS ho0;simp only [List.length_nil] at hv0;clear ho0 hF hn;go_enter Tryz.func70,Tryz.ntmps70;go_wp2_with fail
  go_loop [3] (fun iv=>iv=.int .i64 0) (fun _=>0)
  case atStart=>rfl
  case round=>
    subst hrel;go_wp2_with fail
    go_ret;exact ⟨rfl,Below.refl _ _⟩
theorem hold71 (base R:Nat) (S:Lab) (N:Nat) (F:Nat->List Value) (w:World) (hF:RoomF base R S N F w):Calls Tryz.prog 71 #[.pointer (some ⟨R,0,none⟩)] w fun e w'=>e=.returned (.bool true)/\Below w.heap.size w w':=by
  obtain ⟨v0,hv0,ho0,_⟩:=hF.room.field 18 (by decide);have hn:F 18=[]:=hF.none 9 (by decide) (by decide);rw [hn] at ho0;obtain ⟨xa,xc,rfl⟩:=own_formS ho0;simp only [List.length_nil] at hv0;clear ho0 hF hn;go_enter Tryz.func71,Tryz.ntmps71;go_wp2_with fail
  go_loop [3] (fun iv=>iv=.int .i64 0) (fun _=>0)
  case atStart=>rfl
  case round=>
    subst hrel;go_wp2_with fail
    go_ret;exact ⟨rfl,Below.refl _ _⟩
theorem hold72 (base R:Nat) (S:Lab) (N:Nat) (F:Nat->List Value) (w:World) (hF:RoomF base R S N F w):Calls Tryz.prog 72 #[.pointer (some ⟨R,0,none⟩)] w fun e w'=>e=.returned (.bool true)/\Below w.heap.size w w':=by
  obtain ⟨v0,hv0,ho0,_⟩:=hF.room.field 20 (by decide);have hn:F 20=[]:=hF.none 10 (by decide) (by decide);rw [hn] at ho0;obtain ⟨xa,xc,rfl⟩:=own_formS ho0;simp only [List.length_nil] at hv0;clear ho0 hF hn;go_enter Tryz.func72,Tryz.ntmps72;go_wp2_with fail
  go_loop [3] (fun iv=>iv=.int .i64 0) (fun _=>0)
  case atStart=>rfl
  case round=>
    subst hrel;go_wp2_with fail
    go_ret;exact ⟨rfl,Below.refl _ _⟩
theorem hold74 (base R:Nat) (S:Lab) (N:Nat) (F:Nat->List Value) (w:World) (hF:RoomF base R S N F w):Calls Tryz.prog 74 #[.pointer (some ⟨R,0,none⟩)] w fun e w'=>e=.returned (.bool true)/\Below w.heap.size w w':=by
  obtain ⟨v0,hv0,ho0,_⟩:=hF.room.field 24 (by decide);have hn:F 24=[]:=hF.none 12 (by decide) (by decide);rw [hn] at ho0;obtain ⟨xa,xc,rfl⟩:=own_formS ho0;simp only [List.length_nil] at hv0;clear ho0 hF hn;go_enter Tryz.func74,Tryz.ntmps74;go_wp2_with fail
  go_loop [3] (fun iv=>iv=.int .i64 0) (fun _=>0)
  case atStart=>rfl
  case round=>
    subst hrel;go_wp2_with fail
    go_ret;exact ⟨rfl,Below.refl _ _⟩
theorem hold75 (base R:Nat) (S:Lab) (N:Nat) (F:Nat->List Value) (w:World) (hF:RoomF base R S N F w):Calls Tryz.prog 75 #[.pointer (some ⟨R,0,none⟩)] w fun e w'=>e=.returned (.bool true)/\Below w.heap.size w w':=by
  obtain ⟨v0,hv0,ho0,_⟩:=hF.room.field 26 (by decide);have hn:F 26=[]:=hF.none 13 (by decide) (by decide);rw [hn] at ho0;obtain ⟨xa,xc,rfl⟩:=own_formS ho0;simp only [List.length_nil] at hv0;clear ho0 hF hn;go_enter Tryz.func75,Tryz.ntmps75;go_wp2_with fail
  go_loop [3] (fun iv=>iv=.int .i64 0) (fun _=>0)
  case atStart=>rfl
  case round=>
    subst hrel;go_wp2_with fail
    go_ret;exact ⟨rfl,Below.refl _ _⟩
end Go.Proofs.YtpcijhecaedkpaaGreatDoor

namespace Go.Proofs.YtpcijhecaedkpaaGreatDoor
open Go.RowKit
set_option maxRecDepth 10000
set_option maxHeartbeats 8000000
theorem holdInts_any (base R:Nat) (S:Lab) (N:Nat) (F:Nat->List Value) (w:World) (hF:RoomF base R S N F w) (hN:N<=1000000) :
    Calls Tryz.prog 62 #[.pointer (some ⟨R,0,none⟩)] w fun e w'=>e=.returned (.bool true)/\Below w.heap.size w w':=by
  have hR:=hF.room;obtain ⟨v0,hv0,ho0,_⟩:=hR.field 0 (by decide);obtain ⟨v1,hv1,ho1,_⟩:=hR.field 1 (by decide);have hlen:(F 0).length<=1000000:=Nat.le_trans (hF.len 0 (by decide)).1 hN;have hl:(F 0).length=(F 1).length:=(hF.len 0 (by decide)).2.symm;have HG:Hid (∀ (i:Nat) (x a:Value),(F 0)[i]?=some x->(F 1)[i]?=some a->Ent S w 0 x a):=fun i x a h1 h2=>hF.ent 0 (by decide) i x a h1 h2
  have hRl:=hR.lt;obtain ⟨X,hX⟩:∃ X,F 0=X:=⟨_,rfl⟩;obtain ⟨A,hA⟩:∃ A,F 1=A:=⟨_,rfl⟩;rw [hX] at HG ho0 hlen hl;rw [hA] at HG ho1 hl;obtain ⟨xa,xc,rfl⟩:=own_formS ho0;obtain ⟨aa,ac,rfl⟩:=own_formS ho1;have HOX:Hid (∀ i (hi:i<X.length),∃ g,xa=some ⟨g,0,none⟩/\w.cell? ⟨g,i,none⟩=some X[i]):=fun i hi=>row_cellR ho0 i hi
  have HOA:Hid (∀ i (hi:i<A.length),∃ g,aa=some ⟨g,0,none⟩/\w.cell? ⟨g,i,none⟩=some A[i]):=fun i hi=>row_cellR ho1 i hi
  rw [<-hl] at hv1;have HLE:Hid (X.length=A.length):=hl;clear hR hF ho0 ho1 hX hA hl;go_enter Tryz.func62,Tryz.ntmps62;go_wp2_with fail
  go_loopw [3] (fun iv wr=>∃ k:Nat,iv=.int .i64 (k:Int)/\k<=X.length/\Hid (Below w.heap.size w wr)) (fun iv _=>X.length-(intOf iv).toNat)
  case atStart=>exact ⟨0,rfl,Nat.zero_le _,Below.refl _ _⟩
  case round=>
    obtain ⟨k,rfl,hk,hB⟩:=hrel;have r0:=(hB.out.cell (p:=⟨R,0,none⟩) hRl).trans hv0;have r1:=(hB.out.cell (p:=⟨R,1,none⟩) hRl).trans hv1
    by_cases hlt:k<X.length
    · have hkI:(k:Int)<(X.length:Int):=by omega
      have hltA:k<A.length:=by have:=HLE.out;omega
      obtain ⟨gx,rfl,hcx⟩:=HOX.out k hlt;obtain ⟨ga,rfl,hca⟩:=HOA.out k hltA;obtain ⟨b,n,room,cap,hx,ha,hn,hroom,hcap,_,hbl,hmark⟩:=HG.out k _ _ (List.getElem?_eq_getElem hlt) (List.getElem?_eq_getElem hltA);rw [hx] at hcx;rw [ha] at hca;have hgx:=World.block_lt_of_cell? w _ hcx;have hga:=World.block_lt_of_cell? w _ hca;have s0:=(hB.out.cell (p:=⟨gx,k,none⟩) hgx).trans hcx;have s1:=(hB.out.cell (p:=⟨ga,k,none⟩) hga).trans hca;have HMK:Hid (∀ j,j<room->w.cell? ⟨b,n+j,none⟩=some (.int .i64 (lotI j))):=fun j hj=>by have h:=hmark j hj 0 _ rfl;simpa [esz] using h
      have HS0:Hid (∀ w',Below w.heap.size w w'->w'.cell? ⟨gx,k,none⟩=some (.slice (some ⟨b,0,none⟩) (n+room) cap)):=fun w' hb=>(hb.cell (p:=⟨gx,k,none⟩) hgx).trans hcx
      clear hx ha hcx hca hmark;go_wp2_with fail
      go_loopw [5] (fun jv wq=>∃ j:Nat,jv=.int .i64 ((n:Int)+(j:Int))/\j<=room/\Hid (Below w.heap.size w wq)) (fun jv _=>n+room-(intOf jv).toNat)
      case atStart=>exact ⟨0,by simp,Nat.zero_le _,hB⟩
      case round=>
        obtain ⟨j,rfl,hj,hQ⟩:=hrel;clear s0 s1 r0 r1;have r0:=(hQ.out.cell (p:=⟨R,0,none⟩) hRl).trans hv0;have s0:=HS0.out _ hQ.out
        by_cases hjl:j<room
        · have hjI:(n:Int)+(j:Int)<(n:Int)+(room:Int):=by omega
          have hbd:(n:Int)+(j:Int)<=1000100:=by omega
          have hc0:=HMK.out j hjl;have hw0:=(hQ.out.cell (p:=⟨b,n+j,none⟩) hbl).trans hc0;clear hc0;have hsub:(n:Int)+(j:Int)-(n:Int)=(j:Int):=by omega
          have HLOT:Hid (∀ w',Calls Tryz.prog 121 #[.int .i64 (j:Int)] w' fun e w''=>e=.returned (.int .i64 (lotI j))/\w''=w'):=fun w'=>lot_any j w'
          generalize lotI j=y at *
          go_wp2_with (go_at_call 121;refine calls_at (HLOT.out _) (by first | (with_reducible rfl) | (simp [hsub])) (by with_reducible rfl) ?_;rintro e w' ⟨rfl,hww⟩;rw [hww]);go_roundw
          case rel=>exact ⟨j+1,by go_num,by omega,hQ⟩
          case measure=>simp [intOf];omega
        · have hjI:¬ (n:Int)+(j:Int)<(n:Int)+(room:Int):=by omega
          go_wp2_with fail
          go_roundw
          case rel=>exact ⟨k+1,by go_num,by omega,hQ⟩
          case measure=>simp [intOf];omega
    · have hkI:¬ (k:Int)<(X.length:Int):=by omega
      go_wp2_with fail
      go_ret;exact ⟨rfl,hB.out⟩
end Go.Proofs.YtpcijhecaedkpaaGreatDoor

namespace Go.Proofs.YtpcijhecaedkpaaGreatDoor
open Go.RowKit
set_option maxRecDepth 10000
set_option maxHeartbeats 8000000
theorem holdTexts_any (base R:Nat) (S:Lab) (N:Nat) (F:Nat->List Value) (w:World) (hF:RoomF base R S N F w) (hN:N<=1000000) :
    Calls Tryz.prog 63 #[.pointer (some ⟨R,0,none⟩)] w fun e w'=>e=.returned (.bool true)/\Below w.heap.size w w':=by
  have hR:=hF.room;obtain ⟨v0,hv0,ho0,_⟩:=hR.field 2 (by decide);obtain ⟨v1,hv1,ho1,_⟩:=hR.field 3 (by decide);have hlen:(F 2).length<=1000000:=Nat.le_trans (hF.len 1 (by decide)).1 hN;have hl:(F 2).length=(F 3).length:=(hF.len 1 (by decide)).2.symm;have HG:Hid (∀ (i:Nat) (x a:Value),(F 2)[i]?=some x->(F 3)[i]?=some a->Ent S w 1 x a):=fun i x a h1 h2=>hF.ent 1 (by decide) i x a h1 h2
  have hRl:=hR.lt;obtain ⟨X,hX⟩:∃ X,F 2=X:=⟨_,rfl⟩;obtain ⟨A,hA⟩:∃ A,F 3=A:=⟨_,rfl⟩;rw [hX] at HG ho0 hlen hl;rw [hA] at HG ho1 hl;obtain ⟨xa,xc,rfl⟩:=own_formS ho0;obtain ⟨aa,ac,rfl⟩:=own_formS ho1;have HOX:Hid (∀ i (hi:i<X.length),∃ g,xa=some ⟨g,0,none⟩/\w.cell? ⟨g,i,none⟩=some X[i]):=fun i hi=>row_cellR ho0 i hi
  have HOA:Hid (∀ i (hi:i<A.length),∃ g,aa=some ⟨g,0,none⟩/\w.cell? ⟨g,i,none⟩=some A[i]):=fun i hi=>row_cellR ho1 i hi
  rw [<-hl] at hv1;have HLE:Hid (X.length=A.length):=hl;clear hR hF ho0 ho1 hX hA hl;go_enter Tryz.func63,Tryz.ntmps63;go_wp2_with fail
  go_loopw [3] (fun iv wr=>∃ k:Nat,iv=.int .i64 (k:Int)/\k<=X.length/\Hid (Below w.heap.size w wr)) (fun iv _=>X.length-(intOf iv).toNat)
  case atStart=>exact ⟨0,rfl,Nat.zero_le _,Below.refl _ _⟩
  case round=>
    obtain ⟨k,rfl,hk,hB⟩:=hrel;have r0:=(hB.out.cell (p:=⟨R,2,none⟩) hRl).trans hv0;have r1:=(hB.out.cell (p:=⟨R,3,none⟩) hRl).trans hv1
    by_cases hlt:k<X.length
    · have hkI:(k:Int)<(X.length:Int):=by omega
      have hltA:k<A.length:=by have:=HLE.out;omega
      obtain ⟨gx,rfl,hcx⟩:=HOX.out k hlt;obtain ⟨ga,rfl,hca⟩:=HOA.out k hltA;obtain ⟨b,n,room,cap,hx,ha,hn,hroom,hcap,_,hbl,hmark⟩:=HG.out k _ _ (List.getElem?_eq_getElem hlt) (List.getElem?_eq_getElem hltA);rw [hx] at hcx;rw [ha] at hca;have hgx:=World.block_lt_of_cell? w _ hcx;have hga:=World.block_lt_of_cell? w _ hca;have s0:=(hB.out.cell (p:=⟨gx,k,none⟩) hgx).trans hcx;have s1:=(hB.out.cell (p:=⟨ga,k,none⟩) hga).trans hca;have HMK:Hid (∀ j,j<room->w.cell? ⟨b,n+j,none⟩=some (.string (wordB j))):=fun j hj=>by have h:=hmark j hj 0 _ rfl;simpa [esz] using h
      have HS0:Hid (∀ w',Below w.heap.size w w'->w'.cell? ⟨gx,k,none⟩=some (.slice (some ⟨b,0,none⟩) (n+room) cap)):=fun w' hb=>(hb.cell (p:=⟨gx,k,none⟩) hgx).trans hcx
      clear hx ha hcx hca hmark;go_wp2_with fail
      go_loopw [5] (fun jv wq=>∃ j:Nat,jv=.int .i64 ((n:Int)+(j:Int))/\j<=room/\Hid (Below w.heap.size w wq)) (fun jv _=>n+room-(intOf jv).toNat)
      case atStart=>exact ⟨0,by simp,Nat.zero_le _,hB⟩
      case round=>
        obtain ⟨j,rfl,hj,hQ⟩:=hrel;clear s0 s1 r0 r1;have r0:=(hQ.out.cell (p:=⟨R,2,none⟩) hRl).trans hv0;have s0:=HS0.out _ hQ.out
        by_cases hjl:j<room
        · have hjI:(n:Int)+(j:Int)<(n:Int)+(room:Int):=by omega
          have hbd:(n:Int)+(j:Int)<=1000100:=by omega
          have hc0:=HMK.out j hjl;have hw0:=(hQ.out.cell (p:=⟨b,n+j,none⟩) hbl).trans hc0;clear hc0;have hsub:(n:Int)+(j:Int)-(n:Int)=(j:Int):=by omega
          have HLOT:Hid (∀ w',Calls Tryz.prog 132 #[.int .i64 (j:Int)] w' fun e w''=>e=.returned (.string (wordB j))/\w''=w'):=fun w'=>word_any j w'
          generalize wordB j=y at *
          have hself:(y.toList==y.toList)=true:=by simp
          go_wp2_with (go_at_call 132;refine calls_at (HLOT.out _) (by first | (with_reducible rfl) | (simp [hsub])) (by with_reducible rfl) ?_;rintro e w' ⟨rfl,hww⟩;rw [hww]);go_roundw
          case rel=>exact ⟨j+1,by go_num,by omega,hQ⟩
          case measure=>simp [intOf];omega
        · have hjI:¬ (n:Int)+(j:Int)<(n:Int)+(room:Int):=by omega
          go_wp2_with fail
          go_roundw
          case rel=>exact ⟨k+1,by go_num,by omega,hQ⟩
          case measure=>simp [intOf];omega
    · have hkI:¬ (k:Int)<(X.length:Int):=by omega
      go_wp2_with fail
      go_ret;exact ⟨rfl,hB.out⟩
end Go.Proofs.YtpcijhecaedkpaaGreatDoor

namespace Go.Proofs.YtpcijhecaedkpaaGreatDoor
open Go.RowKit
set_option maxRecDepth 10000
set_option maxHeartbeats 8000000
theorem holdPieces_any (base R:Nat) (S:Lab) (N:Nat) (F:Nat->List Value) (w:World) (hF:RoomF base R S N F w) (hN:N<=1000000) :
    Calls Tryz.prog 66 #[.pointer (some ⟨R,0,none⟩)] w fun e w'=>e=.returned (.bool true)/\Below w.heap.size w w':=by
  have hR:=hF.room;obtain ⟨v0,hv0,ho0,_⟩:=hR.field 8 (by decide);obtain ⟨v1,hv1,ho1,_⟩:=hR.field 9 (by decide);have hlen:(F 8).length<=1000000:=Nat.le_trans (hF.len 4 (by decide)).1 hN;have hl:(F 8).length=(F 9).length:=(hF.len 4 (by decide)).2.symm;have HG:Hid (∀ (i:Nat) (x a:Value),(F 8)[i]?=some x->(F 9)[i]?=some a->Ent S w 4 x a):=fun i x a h1 h2=>hF.ent 4 (by decide) i x a h1 h2
  have hRl:=hR.lt;obtain ⟨X,hX⟩:∃ X,F 8=X:=⟨_,rfl⟩;obtain ⟨A,hA⟩:∃ A,F 9=A:=⟨_,rfl⟩;rw [hX] at HG ho0 hlen hl;rw [hA] at HG ho1 hl;obtain ⟨xa,xc,rfl⟩:=own_formS ho0;obtain ⟨aa,ac,rfl⟩:=own_formS ho1;have HOX:Hid (∀ i (hi:i<X.length),∃ g,xa=some ⟨g,0,none⟩/\w.cell? ⟨g,i,none⟩=some X[i]):=fun i hi=>row_cellR ho0 i hi
  have HOA:Hid (∀ i (hi:i<A.length),∃ g,aa=some ⟨g,0,none⟩/\w.cell? ⟨g,i,none⟩=some A[i]):=fun i hi=>row_cellR ho1 i hi
  rw [<-hl] at hv1;have HLE:Hid (X.length=A.length):=hl;clear hR hF ho0 ho1 hX hA hl;go_enter Tryz.func66,Tryz.ntmps66;go_wp2_with fail
  go_loopw [3] (fun iv wr=>∃ k:Nat,iv=.int .i64 (k:Int)/\k<=X.length/\Hid (Below w.heap.size w wr)) (fun iv _=>X.length-(intOf iv).toNat)
  case atStart=>exact ⟨0,rfl,Nat.zero_le _,Below.refl _ _⟩
  case round=>
    obtain ⟨k,rfl,hk,hB⟩:=hrel;have r0:=(hB.out.cell (p:=⟨R,8,none⟩) hRl).trans hv0;have r1:=(hB.out.cell (p:=⟨R,9,none⟩) hRl).trans hv1
    by_cases hlt:k<X.length
    · have hkI:(k:Int)<(X.length:Int):=by omega
      have hltA:k<A.length:=by have:=HLE.out;omega
      obtain ⟨gx,rfl,hcx⟩:=HOX.out k hlt;obtain ⟨ga,rfl,hca⟩:=HOA.out k hltA;obtain ⟨b,n,room,cap,hx,ha,hn,hroom,hcap,_,hbl,hmark⟩:=HG.out k _ _ (List.getElem?_eq_getElem hlt) (List.getElem?_eq_getElem hltA);rw [hx] at hcx;rw [ha] at hca;have hgx:=World.block_lt_of_cell? w _ hcx;have hga:=World.block_lt_of_cell? w _ hca;have s0:=(hB.out.cell (p:=⟨gx,k,none⟩) hgx).trans hcx;have s1:=(hB.out.cell (p:=⟨ga,k,none⟩) hga).trans hca;have HMK:Hid (∀ j,j<room->w.cell? ⟨b,(n+j)*2,none⟩=some (.string ⟨#[]⟩)/\w.cell? ⟨b,(n+j)*2+1,none⟩=some (.int .i64 (lotI j))):=fun j hj=>⟨hmark j hj 0 _ rfl,hmark j hj 1 _ rfl⟩
      have HS0:Hid (∀ w',Below w.heap.size w w'->w'.cell? ⟨gx,k,none⟩=some (.slice (some ⟨b,0,none⟩) (n+room) cap)):=fun w' hb=>(hb.cell (p:=⟨gx,k,none⟩) hgx).trans hcx
      clear hx ha hcx hca hmark;go_wp2_with fail
      go_loopw [5] (fun jv wq=>∃ j:Nat,jv=.int .i64 ((n:Int)+(j:Int))/\j<=room/\Hid (Below w.heap.size w wq)) (fun jv _=>n+room-(intOf jv).toNat)
      case atStart=>exact ⟨0,by simp,Nat.zero_le _,hB⟩
      case round=>
        obtain ⟨j,rfl,hj,hQ⟩:=hrel;clear s0 s1 r0 r1;have r0:=(hQ.out.cell (p:=⟨R,8,none⟩) hRl).trans hv0;have s0:=HS0.out _ hQ.out
        by_cases hjl:j<room
        · have hjI:(n:Int)+(j:Int)<(n:Int)+(room:Int):=by omega
          have hbd:(n:Int)+(j:Int)<=1000100:=by omega
          obtain ⟨hc0,hc1⟩:=HMK.out j hjl;have hw0:=(hQ.out.cell (p:=⟨b,(n+j)*2,none⟩) hbl).trans hc0;have hw1:=(hQ.out.cell (p:=⟨b,(n+j)*2+1,none⟩) hbl).trans hc1;clear hc0 hc1;have hsub:IntKind.i64.wrap ((n:Int)+(j:Int)-(n:Int))=(j:Int):=by rw [IntKind.wrap_i64];omega
          have hsub2:(n:Int)+(j:Int)-(n:Int)=(j:Int):=by omega
          have hbin:∀ w',(binOp .neq 160 (.agg #[.string ⟨#[]⟩,.int .i64 (lotI j)]) (.agg #[.string ⟨#[]⟩,.int .i64 (lotI j)])).run Tryz.prog w'=.ok (.bool false) w':=fun w'=>by rw [pc_neq];simp
          rename World=>wq;have hBV:Hid (Below w.heap.size w (wq.alloc (.cells #[.string ⟨#[]⟩,.int .i64 (lotI j)] 160))):=hQ.out.alloc hQ.out.size _;have HLOT:Hid (∀ w',Calls Tryz.prog 121 #[.int .i64 (j:Int)] w' fun e w''=>e=.returned (.int .i64 (lotI j))/\w''=w'):=fun w'=>lot_any j w'
          generalize lotI j=y at *
          go_wp2_with fail
          go_quiet ((go_at_call 121;exact Calls.quiet_of_same (HLOT.out _)));go_wp2_with fail
          go_roundw
          case rel=>exact ⟨j+1,by go_num,by omega,bl_drewH hBV.out _⟩
          case measure=>simp [intOf];omega
        · have hjI:¬ (n:Int)+(j:Int)<(n:Int)+(room:Int):=by omega
          go_wp2_with fail
          go_roundw
          case rel=>exact ⟨k+1,by go_num,by omega,hQ⟩
          case measure=>simp [intOf];omega
    · have hkI:¬ (k:Int)<(X.length:Int):=by omega
      go_wp2_with fail
      go_ret;exact ⟨rfl,hB.out⟩
end Go.Proofs.YtpcijhecaedkpaaGreatDoor

namespace Go.Proofs.YtpcijhecaedkpaaGreatDoor
open Go.RowKit
set_option maxRecDepth 10000
set_option maxHeartbeats 8000000
theorem holdOps_any (base R:Nat) (S:Lab) (N:Nat) (F:Nat->List Value) (w:World) (hF:RoomF base R S N F w) (hN:N<=1000000) :
    Calls Tryz.prog 67 #[.pointer (some ⟨R,0,none⟩)] w fun e w'=>e=.returned (.bool true)/\Below w.heap.size w w':=by
  have hR:=hF.room;obtain ⟨v0,hv0,ho0,_⟩:=hR.field 10 (by decide);obtain ⟨v1,hv1,ho1,_⟩:=hR.field 11 (by decide);have hlen:(F 10).length<=1000000:=Nat.le_trans (hF.len 5 (by decide)).1 hN;have hl:(F 10).length=(F 11).length:=(hF.len 5 (by decide)).2.symm;have HG:Hid (∀ (i:Nat) (x a:Value),(F 10)[i]?=some x->(F 11)[i]?=some a->Ent S w 5 x a):=fun i x a h1 h2=>hF.ent 5 (by decide) i x a h1 h2
  have hRl:=hR.lt;obtain ⟨X,hX⟩:∃ X,F 10=X:=⟨_,rfl⟩;obtain ⟨A,hA⟩:∃ A,F 11=A:=⟨_,rfl⟩;rw [hX] at HG ho0 hlen hl;rw [hA] at HG ho1 hl;obtain ⟨xa,xc,rfl⟩:=own_formS ho0;obtain ⟨aa,ac,rfl⟩:=own_formS ho1;have HOX:Hid (∀ i (hi:i<X.length),∃ g,xa=some ⟨g,0,none⟩/\w.cell? ⟨g,i,none⟩=some X[i]):=fun i hi=>row_cellR ho0 i hi
  have HOA:Hid (∀ i (hi:i<A.length),∃ g,aa=some ⟨g,0,none⟩/\w.cell? ⟨g,i,none⟩=some A[i]):=fun i hi=>row_cellR ho1 i hi
  rw [<-hl] at hv1;have HLE:Hid (X.length=A.length):=hl;clear hR hF ho0 ho1 hX hA hl;go_enter Tryz.func67,Tryz.ntmps67;go_wp2_with fail
  go_loopw [3] (fun iv wr=>∃ k:Nat,iv=.int .i64 (k:Int)/\k<=X.length/\Hid (Below w.heap.size w wr)) (fun iv _=>X.length-(intOf iv).toNat)
  case atStart=>exact ⟨0,rfl,Nat.zero_le _,Below.refl _ _⟩
  case round=>
    obtain ⟨k,rfl,hk,hB⟩:=hrel;have r0:=(hB.out.cell (p:=⟨R,10,none⟩) hRl).trans hv0;have r1:=(hB.out.cell (p:=⟨R,11,none⟩) hRl).trans hv1
    by_cases hlt:k<X.length
    · have hkI:(k:Int)<(X.length:Int):=by omega
      have hltA:k<A.length:=by have:=HLE.out;omega
      obtain ⟨gx,rfl,hcx⟩:=HOX.out k hlt;obtain ⟨ga,rfl,hca⟩:=HOA.out k hltA;obtain ⟨b,n,room,cap,hx,ha,hn,hroom,hcap,_,hbl,hmark⟩:=HG.out k _ _ (List.getElem?_eq_getElem hlt) (List.getElem?_eq_getElem hltA);rw [hx] at hcx;rw [ha] at hca;have hgx:=World.block_lt_of_cell? w _ hcx;have hga:=World.block_lt_of_cell? w _ hca;have s0:=(hB.out.cell (p:=⟨gx,k,none⟩) hgx).trans hcx;have s1:=(hB.out.cell (p:=⟨ga,k,none⟩) hga).trans hca;have HMK:Hid (∀ j,j<room->w.cell? ⟨b,(n+j)*3,none⟩=some (.int .i64 0)/\w.cell? ⟨b,(n+j)*3+1,none⟩=some (.string ⟨#[]⟩)/\w.cell? ⟨b,(n+j)*3+2,none⟩=some (.int .i64 (lotI j))):=fun j hj=>⟨hmark j hj 0 _ rfl,hmark j hj 1 _ rfl,hmark j hj 2 _ rfl⟩
      have HS0:Hid (∀ w',Below w.heap.size w w'->w'.cell? ⟨gx,k,none⟩=some (.slice (some ⟨b,0,none⟩) (n+room) cap)):=fun w' hb=>(hb.cell (p:=⟨gx,k,none⟩) hgx).trans hcx
      clear hx ha hcx hca hmark;go_wp2_with fail
      go_loopw [5] (fun jv wq=>∃ j:Nat,jv=.int .i64 ((n:Int)+(j:Int))/\j<=room/\Hid (Below w.heap.size w wq)) (fun jv _=>n+room-(intOf jv).toNat)
      case atStart=>exact ⟨0,by simp,Nat.zero_le _,hB⟩
      case round=>
        obtain ⟨j,rfl,hj,hQ⟩:=hrel;clear s0 s1 r0 r1;have r0:=(hQ.out.cell (p:=⟨R,10,none⟩) hRl).trans hv0;have s0:=HS0.out _ hQ.out
        by_cases hjl:j<room
        · have hjI:(n:Int)+(j:Int)<(n:Int)+(room:Int):=by omega
          have hbd:(n:Int)+(j:Int)<=1000100:=by omega
          obtain ⟨hc0,hc1,hc2⟩:=HMK.out j hjl;have hw0:=(hQ.out.cell (p:=⟨b,(n+j)*3,none⟩) hbl).trans hc0;have hw1:=(hQ.out.cell (p:=⟨b,(n+j)*3+1,none⟩) hbl).trans hc1;have hw2:=(hQ.out.cell (p:=⟨b,(n+j)*3+2,none⟩) hbl).trans hc2;clear hc0 hc1 hc2;have hsub:IntKind.i64.wrap ((n:Int)+(j:Int)-(n:Int))=(j:Int):=by rw [IntKind.wrap_i64];omega
          have hsub2:(n:Int)+(j:Int)-(n:Int)=(j:Int):=by omega
          have hbin:∀ w',(binOp .neq 106 (.agg #[.int .i64 0,.string ⟨#[]⟩,.int .i64 (lotI j)]) (.agg #[.int .i64 0,.string ⟨#[]⟩,.int .i64 (lotI j)])).run Tryz.prog w'=.ok (.bool false) w':=fun w'=>by rw [op_neq];simp
          rename World=>wq;have hBV:Hid (Below w.heap.size w (wq.alloc (.cells #[.int .i64 0,.string ⟨#[]⟩,.int .i64 (lotI j)] 106))):=hQ.out.alloc hQ.out.size _;have HLOT:Hid (∀ w',Calls Tryz.prog 121 #[.int .i64 (j:Int)] w' fun e w''=>e=.returned (.int .i64 (lotI j))/\w''=w'):=fun w'=>lot_any j w'
          generalize lotI j=y at *
          go_wp2_with fail
          go_quiet ((go_at_call 121;exact Calls.quiet_of_same (HLOT.out _)));go_wp2_with fail
          go_roundw
          case rel=>exact ⟨j+1,by go_num,by omega,bl_drewH hBV.out _⟩
          case measure=>simp [intOf];omega
        · have hjI:¬ (n:Int)+(j:Int)<(n:Int)+(room:Int):=by omega
          go_wp2_with fail
          go_roundw
          case rel=>exact ⟨k+1,by go_num,by omega,hQ⟩
          case measure=>simp [intOf];omega
    · have hkI:¬ (k:Int)<(X.length:Int):=by omega
      go_wp2_with fail
      go_ret;exact ⟨rfl,hB.out⟩
end Go.Proofs.YtpcijhecaedkpaaGreatDoor

namespace Go.Proofs.YtpcijhecaedkpaaGreatDoor
open Go.RowKit
set_option maxRecDepth 10000
set_option maxHeartbeats 8000000
theorem holdSteps_any (base R:Nat) (S:Lab) (N:Nat) (F:Nat->List Value) (w:World) (hF:RoomF base R S N F w) (hN:N<=1000000) :
    Calls Tryz.prog 73 #[.pointer (some ⟨R,0,none⟩)] w fun e w'=>e=.returned (.bool true)/\Below w.heap.size w w':=by
  have hR:=hF.room;obtain ⟨v0,hv0,ho0,_⟩:=hR.field 22 (by decide);obtain ⟨v1,hv1,ho1,_⟩:=hR.field 23 (by decide);have hlen:(F 22).length<=1000000:=Nat.le_trans (hF.len 11 (by decide)).1 hN;have hl:(F 22).length=(F 23).length:=(hF.len 11 (by decide)).2.symm;have HG:Hid (∀ (i:Nat) (x a:Value),(F 22)[i]?=some x->(F 23)[i]?=some a->Ent S w 11 x a):=fun i x a h1 h2=>hF.ent 11 (by decide) i x a h1 h2
  have hRl:=hR.lt;obtain ⟨X,hX⟩:∃ X,F 22=X:=⟨_,rfl⟩;obtain ⟨A,hA⟩:∃ A,F 23=A:=⟨_,rfl⟩;rw [hX] at HG ho0 hlen hl;rw [hA] at HG ho1 hl;obtain ⟨xa,xc,rfl⟩:=own_formS ho0;obtain ⟨aa,ac,rfl⟩:=own_formS ho1;have HOX:Hid (∀ i (hi:i<X.length),∃ g,xa=some ⟨g,0,none⟩/\w.cell? ⟨g,i,none⟩=some X[i]):=fun i hi=>row_cellR ho0 i hi
  have HOA:Hid (∀ i (hi:i<A.length),∃ g,aa=some ⟨g,0,none⟩/\w.cell? ⟨g,i,none⟩=some A[i]):=fun i hi=>row_cellR ho1 i hi
  rw [<-hl] at hv1;have HLE:Hid (X.length=A.length):=hl;clear hR hF ho0 ho1 hX hA hl;go_enter Tryz.func73,Tryz.ntmps73;go_wp2_with fail
  go_loopw [3] (fun iv wr=>∃ k:Nat,iv=.int .i64 (k:Int)/\k<=X.length/\Hid (Below w.heap.size w wr)) (fun iv _=>X.length-(intOf iv).toNat)
  case atStart=>exact ⟨0,rfl,Nat.zero_le _,Below.refl _ _⟩
  case round=>
    obtain ⟨k,rfl,hk,hB⟩:=hrel;have r0:=(hB.out.cell (p:=⟨R,22,none⟩) hRl).trans hv0;have r1:=(hB.out.cell (p:=⟨R,23,none⟩) hRl).trans hv1
    by_cases hlt:k<X.length
    · have hkI:(k:Int)<(X.length:Int):=by omega
      have hltA:k<A.length:=by have:=HLE.out;omega
      obtain ⟨gx,rfl,hcx⟩:=HOX.out k hlt;obtain ⟨ga,rfl,hca⟩:=HOA.out k hltA;obtain ⟨b,n,room,cap,hx,ha,hn,hroom,hcap,_,hbl,hmark⟩:=HG.out k _ _ (List.getElem?_eq_getElem hlt) (List.getElem?_eq_getElem hltA);rw [hx] at hcx;rw [ha] at hca;have hgx:=World.block_lt_of_cell? w _ hcx;have hga:=World.block_lt_of_cell? w _ hca;have s0:=(hB.out.cell (p:=⟨gx,k,none⟩) hgx).trans hcx;have s1:=(hB.out.cell (p:=⟨ga,k,none⟩) hga).trans hca
      have HMK:Hid (∀ j,j<room->w.cell? ⟨b,(n+j)*10,none⟩=some (.int .i64 0)/\w.cell? ⟨b,(n+j)*10+1,none⟩=some (.string ⟨#[]⟩)/\w.cell? ⟨b,(n+j)*10+2,none⟩=some (.slice none 0 0)/\w.cell? ⟨b,(n+j)*10+3,none⟩=some (.slice none 0 0)/\w.cell? ⟨b,(n+j)*10+4,none⟩=some (.string ⟨#[]⟩)/\w.cell? ⟨b,(n+j)*10+5,none⟩=some (.slice none 0 0)/\w.cell? ⟨b,(n+j)*10+6,none⟩=some (.slice none 0 0)/\w.cell? ⟨b,(n+j)*10+7,none⟩=some (.int .i64 (lotI j))/\w.cell? ⟨b,(n+j)*10+8,none⟩=some (.string ⟨#[]⟩)/\w.cell? ⟨b,(n+j)*10+9,none⟩=some (.string ⟨#[]⟩)):=fun j hj=>⟨hmark j hj 0 _ rfl,hmark j hj 1 _ rfl,hmark j hj 2 _ rfl,hmark j hj 3 _ rfl,hmark j hj 4 _ rfl,hmark j hj 5 _ rfl,hmark j hj 6 _ rfl,hmark j hj 7 _ rfl,hmark j hj 8 _ rfl,hmark j hj 9 _ rfl⟩
      have HS0:Hid (∀ w',Below w.heap.size w w'->w'.cell? ⟨gx,k,none⟩=some (.slice (some ⟨b,0,none⟩) (n+room) cap)):=fun w' hb=>(hb.cell (p:=⟨gx,k,none⟩) hgx).trans hcx
      clear hx ha hcx hca hmark;go_wp2_with fail
      go_loopw [5] (fun jv wq=>∃ j:Nat,jv=.int .i64 ((n:Int)+(j:Int))/\j<=room/\Hid (Below w.heap.size w wq)) (fun jv _=>n+room-(intOf jv).toNat)
      case atStart=>exact ⟨0,by simp,Nat.zero_le _,hB⟩
      case round=>
        obtain ⟨j,rfl,hj,hQ⟩:=hrel;clear s0 s1 r0 r1;have r0:=(hQ.out.cell (p:=⟨R,22,none⟩) hRl).trans hv0;have s0:=HS0.out _ hQ.out
        by_cases hjl:j<room
        · have hjI:(n:Int)+(j:Int)<(n:Int)+(room:Int):=by omega
          have hbd:(n:Int)+(j:Int)<=1000100:=by omega
          obtain ⟨hc0,hc1,hc2,hc3,hc4,hc5,hc6,hc7,hc8,hc9⟩:=HMK.out j hjl;have hw0:=(hQ.out.cell (p:=⟨b,(n+j)*10,none⟩) hbl).trans hc0;have hw1:=(hQ.out.cell (p:=⟨b,(n+j)*10+1,none⟩) hbl).trans hc1;have hw2:=(hQ.out.cell (p:=⟨b,(n+j)*10+2,none⟩) hbl).trans hc2;have hw3:=(hQ.out.cell (p:=⟨b,(n+j)*10+3,none⟩) hbl).trans hc3;have hw4:=(hQ.out.cell (p:=⟨b,(n+j)*10+4,none⟩) hbl).trans hc4;have hw5:=(hQ.out.cell (p:=⟨b,(n+j)*10+5,none⟩) hbl).trans hc5;have hw6:=(hQ.out.cell (p:=⟨b,(n+j)*10+6,none⟩) hbl).trans hc6;have hw7:=(hQ.out.cell (p:=⟨b,(n+j)*10+7,none⟩) hbl).trans hc7;have hw8:=(hQ.out.cell (p:=⟨b,(n+j)*10+8,none⟩) hbl).trans hc8;have hw9:=(hQ.out.cell (p:=⟨b,(n+j)*10+9,none⟩) hbl).trans hc9;clear hc0 hc1 hc2 hc3 hc4 hc5 hc6 hc7 hc8 hc9
          have hsub:IntKind.i64.wrap ((n:Int)+(j:Int)-(n:Int))=(j:Int):=by rw [IntKind.wrap_i64];omega
          have hsub2:(n:Int)+(j:Int)-(n:Int)=(j:Int):=by omega
          rename World=>wq;have hBV:Hid (Below w.heap.size w (wq.alloc (.cells #[.int .i64 0,.string ⟨#[]⟩,.slice none 0 0,.slice none 0 0,.string ⟨#[]⟩,.slice none 0 0,.slice none 0 0,.int .i64 (lotI j),.string ⟨#[]⟩,.string ⟨#[]⟩] 51))):=hQ.out.alloc hQ.out.size _;have HLOT:Hid (∀ w',Calls Tryz.prog 121 #[.int .i64 (j:Int)] w' fun e w''=>e=.returned (.int .i64 (lotI j))/\w''=w'):=fun w'=>lot_any j w'
          generalize lotI j=y at *
          have hself:(y != y)=false:=by simp
          go_wp2_with fail
          go_quiet ((go_at_call 121;exact Calls.quiet_of_same (HLOT.out _)));go_wp2_with fail
          go_roundw
          case rel=>exact ⟨j+1,by go_num,by omega,bl_drewH hBV.out _⟩
          case measure=>simp [intOf];omega
        · have hjI:¬ (n:Int)+(j:Int)<(n:Int)+(room:Int):=by omega
          go_wp2_with fail
          go_roundw
          case rel=>exact ⟨k+1,by go_num,by omega,hQ⟩
          case measure=>simp [intOf];omega
    · have hkI:¬ (k:Int)<(X.length:Int):=by omega
      go_wp2_with fail
      go_ret;exact ⟨rfl,hB.out⟩
end Go.Proofs.YtpcijhecaedkpaaGreatDoor

namespace Go.Proofs.YtpcijhecaedkpaaGreatDoor
open Go.RowKit
set_option maxRecDepth 10000
set_option maxHeartbeats 8000000
theorem RoomF.next {base R:Nat} {S:Lab} {N:Nat} {F:Nat->List Value} {w w1 w2:World} (h:RoomF base R S N F w1/\Below w.heap.size w w1) (hb:Below w1.heap.size w1 w2):RoomF base R S N F w2/\Below w.heap.size w w2:=
  ⟨h.1.below hb,h.2.trans (hb.mono h.2.size)⟩
theorem hold_any (base R:Nat) (S:Lab) (N:Nat) (w:World) (hG:RoomG base R S N w) (hN:N<=1000000):Calls Tryz.prog 20 #[.pointer (some ⟨R,0,none⟩)] w fun e w'=>e=.returned (.bool true)/\Below w.heap.size w w':=by
  obtain ⟨F,h⟩:=hG;have K0:Hid (RoomF base R S N F w/\Below w.heap.size w w):=⟨h,Below.refl _ _⟩;clear h;go_enter Tryz.func20,Tryz.ntmps20
  go_wp2_with (first
    | (go_at_call 62;refine calls_at (holdInts_any base R S N F _ K0.out.1 hN) (by with_reducible rfl) (by with_reducible rfl) ?_;rintro e w1 ⟨rfl,hb⟩;have K1:Hid (RoomF base R S N F w1/\Below w.heap.size w w1):=RoomF.next K0.out hb;clear hb)
    | (go_at_call 63;refine calls_at (holdTexts_any base R S N F _ K1.out.1 hN) (by with_reducible rfl) (by with_reducible rfl) ?_;rintro e w2 ⟨rfl,hb⟩;have K2:Hid (RoomF base R S N F w2/\Below w.heap.size w w2):=RoomF.next K1.out hb;clear hb)
    | (go_at_call 64;refine calls_at (hold64 base R S N F _ K2.out.1) (by with_reducible rfl) (by with_reducible rfl) ?_;rintro e w3 ⟨rfl,hb⟩;have K3:Hid (RoomF base R S N F w3/\Below w.heap.size w w3):=RoomF.next K2.out hb;clear hb)
    | (go_at_call 65;refine calls_at (hold65 base R S N F _ K3.out.1) (by with_reducible rfl) (by with_reducible rfl) ?_;rintro e w4 ⟨rfl,hb⟩;have K4:Hid (RoomF base R S N F w4/\Below w.heap.size w w4):=RoomF.next K3.out hb;clear hb)
    | (go_at_call 66;refine calls_at (holdPieces_any base R S N F _ K4.out.1 hN) (by with_reducible rfl) (by with_reducible rfl) ?_;rintro e w5 ⟨rfl,hb⟩;have K5:Hid (RoomF base R S N F w5/\Below w.heap.size w w5):=RoomF.next K4.out hb;clear hb)
    | (go_at_call 67;refine calls_at (holdOps_any base R S N F _ K5.out.1 hN) (by with_reducible rfl) (by with_reducible rfl) ?_;rintro e w6 ⟨rfl,hb⟩;have K6:Hid (RoomF base R S N F w6/\Below w.heap.size w w6):=RoomF.next K5.out hb;clear hb)
    | (go_at_call 68;refine calls_at (hold68 base R S N F _ K6.out.1) (by with_reducible rfl) (by with_reducible rfl) ?_;rintro e w7 ⟨rfl,hb⟩;have K7:Hid (RoomF base R S N F w7/\Below w.heap.size w w7):=RoomF.next K6.out hb;clear hb)
    | (go_at_call 69;refine calls_at (hold69 base R S N F _ K7.out.1) (by with_reducible rfl) (by with_reducible rfl) ?_;rintro e w8 ⟨rfl,hb⟩;have K8:Hid (RoomF base R S N F w8/\Below w.heap.size w w8):=RoomF.next K7.out hb;clear hb)
    | (go_at_call 70;refine calls_at (hold70 base R S N F _ K8.out.1) (by with_reducible rfl) (by with_reducible rfl) ?_;rintro e w9 ⟨rfl,hb⟩;have K9:Hid (RoomF base R S N F w9/\Below w.heap.size w w9):=RoomF.next K8.out hb;clear hb)
    | (go_at_call 71;refine calls_at (hold71 base R S N F _ K9.out.1) (by with_reducible rfl) (by with_reducible rfl) ?_;rintro e w10 ⟨rfl,hb⟩;have K10:Hid (RoomF base R S N F w10/\Below w.heap.size w w10):=RoomF.next K9.out hb;clear hb)
    | (go_at_call 72;refine calls_at (hold72 base R S N F _ K10.out.1) (by with_reducible rfl) (by with_reducible rfl) ?_;rintro e w11 ⟨rfl,hb⟩;have K11:Hid (RoomF base R S N F w11/\Below w.heap.size w w11):=RoomF.next K10.out hb;clear hb)
    | (go_at_call 73;refine calls_at (holdSteps_any base R S N F _ K11.out.1 hN) (by with_reducible rfl) (by with_reducible rfl) ?_;rintro e w12 ⟨rfl,hb⟩;have K12:Hid (RoomF base R S N F w12/\Below w.heap.size w w12):=RoomF.next K11.out hb;clear hb)
    | (go_at_call 74;refine calls_at (hold74 base R S N F _ K12.out.1) (by with_reducible rfl) (by with_reducible rfl) ?_;rintro e w13 ⟨rfl,hb⟩;have K13:Hid (RoomF base R S N F w13/\Below w.heap.size w w13):=RoomF.next K12.out hb;clear hb)
    | (go_at_call 75;refine calls_at (hold75 base R S N F _ K13.out.1) (by with_reducible rfl) (by with_reducible rfl) ?_;rintro e w14 ⟨rfl,hb⟩;have K14:Hid (RoomF base R S N F w14/\Below w.heap.size w w14):=RoomF.next K13.out hb;clear hb))
  go_ret;exact ⟨rfl,K14.out.2⟩
end Go.Proofs.YtpcijhecaedkpaaGreatDoor
