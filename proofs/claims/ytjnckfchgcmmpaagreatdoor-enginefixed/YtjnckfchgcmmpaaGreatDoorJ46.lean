import Derived.Test.YtjnckfchgcmmpaaGreatDoorJ05
import Derived.Test.YtjnckfchgcmmpaaGreatDoorHlSortG
import Derived.Test.YtjnckfchgcmmpaaGreatDoorHlSortN
import Derived.Sort.OwnSortedInts
import Derived.Test.YtjnckfchgcmmpaaGreatDoorJ31
import Derived.BigQuiet
import Derived.Deep.CutRange
namespace Go.Proofs.YtjnckfchgcmmpaaGreatDoor
open Go.RowKit Go.Sort Go.Lib Go.Shelf
set_option maxRecDepth 10000
set_option maxHeartbeats 8000000
def stL (G:List Gr):List Int:=Lib.compact ((G.map Gr.lo).mergeSort fun x y=>decide (x<=y))
theorem info3i:(Tryz.prog.info? 3).map (fun i=>(i.zero,i.size,i.bytes))=some (some (.int .i64 0),1,8):=by kernel_rfl
theorem sortI_out {w:World} {B:Nat} {v:Value} {l:List Int} (ho:w.ownsRow B 3 1 v l.length (l.map (.int .i64))) (hm:l.length<=1000000):Calls Tryz.prog 145 #[v] w fun e w'=>e=.returned (.tuple #[])/\w'.ownsRow B 3 1 v l.length ((l.mergeSort fun x y=>decide (x<=y)).map (.int .i64))/\Below B w w':=by
  rcases ho.2 with ⟨rfl,hn⟩ | ⟨g,cap,cur,rfl,h2,h3,h4,h5,h6,h7⟩
  · refine (sort0 none 0 w).mono ?_
    rintro e w' ⟨rfl,rfl⟩;have h0:l=[]:=List.length_eq_zero_iff.1 hn;subst h0;exact ⟨rfl,by simpa using World.ownsRow_nil _ _ _ _,Below.refl _ _⟩
  · have hH:Holds (Value.int .i64) w g 0 l.toArray:=holds_of_blockI h3 (by rw [Nat.mul_one] at h7;exact h7)
    refine (Tryz.slices_Sort_int g 0 cap l w hH (hLt h3) (by omega)).mono ?_;rintro e w' ⟨rfl,n,os,rfl⟩;refine ⟨rfl,ownsRow_sortedI (List.length_mergeSort _) h2 h3 h4 h5 h6,?_⟩;exact (Below.refl _ _).grown (grownBy_sortedI _) (Nat.le_of_lt (Nat.lt_of_le_of_lt h2 (hLt h3))) (fun k hk=>by injection hk with hk;omega)
theorem compact_len (l:List Int):(Lib.compact l).length<=l.length:=by
  unfold Lib.compact Lib.compactUpTo;rw [List.length_map];exact Nat.le_trans (List.length_filter_le _ _) (by simp)
theorem compI_out {w:World} {B:Nat} {v:Value} {l:List Int} (ho:w.ownsRow B 3 1 v l.length (l.map (.int .i64))) (hm:l.length<=1000000):Calls Tryz.prog 146 #[v] w fun e w'=>∃ a cp,e=.returned (.slice a (Lib.compact l).length cp)/\IntsAt w' (.slice a (Lib.compact l).length cp) (Lib.compact l)/\Below B w w':=by
  rcases ho.2 with ⟨rfl,hn⟩ | ⟨g,cap,cur,rfl,h2,h3,h4,h5,h6,h7⟩
  · refine (Tryz.slices_Compact_int_empty none 0 w).mono ?_
    rintro e w' ⟨rfl,rfl⟩;have h0:l=[]:=List.length_eq_zero_iff.1 hn;subst h0;exact ⟨none,0,rfl,⟨none,0,rfl,by decide,fun h=>absurd h (by decide)⟩,Below.refl _ _⟩
  · have hH:Holds (Value.int .i64) w g 0 l.toArray:=holds_of_blockI h3 (by rw [Nat.mul_one] at h7;exact h7)
    have hg:=(hLt h3);refine (Tryz.slices_Compact_int g 0 cap l w hH (by omega) h4).mono ?_;rintro e w' ⟨rfl,q,rfl⟩;have hc:=compact_len l;have hP:=holds_putRow (Value.int .i64) (Sort.ahead w q) g 0 l.toArray (Lib.compact l++List.replicate (l.length-(Lib.compact l).length) 0).toArray hH (by simp;omega);refine ⟨_,_,rfl,⟨_,_,rfl,by unfold maxLen;omega,fun _=>⟨g,0,rfl,by simpa using hg,fun k hk=>?_⟩⟩,?_⟩
    · have:=(hP k (by simp;omega)).1
      rw [this]
      congr 2
      simp [List.getElem?_append_left hk,hk]
    · refine ⟨rfl,rfl,rfl,by simp,fun k hk=>?_⟩
      have:g≠k:=by omega
      simp [putRow,mapBlock,Sort.ahead,Array.getElem?_modify,this]
def StOut (G:List Gr) (w:World) (e:Ending) (w':World):Prop:=∃ a cp,e=.returned (.slice a (stL G).length cp)/\IntsAt w' (.slice a (stL G).length cp) (stL G)/\Below w.heap.size w w'
theorem starts_any (pv:Value) (ga:Option Addr) (gc:Nat) (G:List Gr) (w:World) (hG:GrsAt w ga G) (hl:G.length<=100000):Calls Tryz.prog 124 #[.agg #[pv,.slice ga G.length gc]] w (StOut G w):=by
  obtain ⟨W,hW⟩:∃ W,w.alloc (.cells #[pv,.slice ga G.length gc] 147)=W:=⟨_,rfl⟩;have hb0:Below w.heap.size w W:=bAe hW;have HB:Hid (Below w.heap.size w W):=hb0;have g0:W.heap[w.heap.size]?=some (.cells #[pv,.slice ga G.length gc] 147 (0,0)):=hAe hW;have p1:=cell_of g0 1;have HG:Hid (∀ w',Below W.heap.size W w'->∀ k (hk:k<G.length),∃ b off,ga=some ⟨b,off,none⟩/\GrAt w' b (off+k*4) G[k]):=fun w' hb k hk=>by
    obtain ⟨b,off,e,hlt,hg⟩:=hG k hk;have hb2:=hb0.trans (hb.mono hb0.size);exact ⟨b,off,e,hg.mono (hb2.block b hlt)⟩
  clear hG g0 hb0;go_enter Tryz.func124,Tryz.ntmps124;go_upto_region 1 with fail
  try rw [hW]
  clear hW;go_upto_region 3 with fail
  clear p1;go_loopw [3,9] (fun sv iv wr=>∃ (k:Nat),iv=.int .i64 (k:Int)/\k<=G.length/\Hid (wr.ownsRow W.heap.size 3 1 sv k (((G.take k).map Gr.lo).map (.int .i64)))/\Hid (Below W.heap.size W wr)) (fun _ iv _=>G.length-(intOf iv).toNat)
  case atStart=>exact ⟨0,rfl,Nat.zero_le _,World.ownsRow_nil _ _ _ _,Below.refl _ _⟩
  case round=>
  obtain ⟨k,rfl,hk,HO,HBr⟩:=hrel;obtain ⟨sa,sc,rfl⟩:=own_slice HO.out
  by_cases hkn:k<G.length
  case neg=>
    have hke:k=G.length:=by omega
    subst hke;have hkI:¬ (G.length:Int)<(G.length:Int):=by omega
    have HO2:Hid (wr.ownsRow W.heap.size 3 1 (.slice sa (G.map Gr.lo).length sc) (G.map Gr.lo).length ((G.map Gr.lo).map (.int .i64))):=by
      have:=HO.out;rw [List.take_length] at this;show wr.ownsRow _ _ _ _ _ _;rw [List.length_map];exact this
    have hS:=sortI_out HO2.out (by rw [List.length_map];omega);have HS:Hid (Calls Tryz.prog 145 #[.slice sa G.length sc] wr fun e w'=>e=.returned (.tuple #[])/\Calls Tryz.prog 146 #[.slice sa G.length sc] w' (fun e w2=>∃ a cp,e=.returned (.slice a (stL G).length cp)/\IntsAt w2 (.slice a (stL G).length cp) (stL G)/\Below W.heap.size W w2)):=by
      rw [List.length_map] at hS;refine hS.mono ?_;rintro e w' ⟨rfl,ho',hb'⟩;refine ⟨rfl,?_⟩;have hm:((G.map Gr.lo).mergeSort fun x y=>decide (x<=y)).length=G.length:=by rw [List.length_mergeSort,List.length_map]
      rw [<-hm] at ho';have hc:=compI_out ho' (by rw [hm];omega);rw [hm] at hc;refine hc.mono ?_;rintro e w2 ⟨a,cp,rfl,hi,hb2⟩;exact ⟨a,cp,rfl,hi,(HBr.out.trans (hb'.mono (Nat.le_refl _))).trans (hb2.mono (Nat.le_refl _))⟩
    clear hS HO HO2;go_wp2_with (first | (go_at_call 145;refine cA HS.out ?_;intro e w2 hh;(obtain ⟨h1,h2⟩:=hh);subst h1;(have HC:Hid _:=h2);clear h2) | (go_at_call 146;refine cA HC.out ?_;intro e w3 hh;(obtain ⟨a,cp,h1,h2,h3⟩:=hh);subst h1));go_ret;exact ⟨a,cp,rfl,h2,HB.out.trans (h3.mono HB.out.size)⟩
  case pos=>
  have hkI:(k:Int)<(G.length:Int):=by omega
  have HN:Hid (((G.take (k+1)).map Gr.lo).map (Value.int .i64)=((G.take k).map Gr.lo).map (Value.int .i64)++[.int .i64 G[k].lo]):=by
    show _=_;rw [List.take_succ_eq_append_getElem hkn,List.map_append,List.map_append];rfl
  obtain ⟨b,off,rfl,hgr⟩:=HG.out wr HBr.out k hkn;obtain ⟨q0,q1,q2,q3⟩:=hgr;obtain ⟨⟨lo,hi,x,n⟩,hgk⟩:∃ g,G[k]=g:=⟨_,rfl⟩;rw [hgk] at q0 q1 q2 q3 HN;dsimp only at q0 q1 q2 q3;clear hgk;obtain ⟨V,hV⟩:∃ V,wr.alloc (.cells #[.int .i64 lo,.int .i64 hi,.int .i64 (x:Int),.int .i64 n] 160)=V:=⟨_,rfl⟩;have hbV:Below wr.heap.size wr V:=bAe hV;have gV:V.heap[wr.heap.size]?=some (.cells #[.int .i64 lo,.int .i64 hi,.int .i64 (x:Int),.int .i64 n] 160 (0,0)):=hAe hV;have v0:=cell_of gV 0;have HOV:Hid (V.ownsRow W.heap.size 3 1 (.slice sa k sc) k (((G.take k).map Gr.lo).map (.int .i64))):=own_bl HO.out hbV;have HBV:Hid (Below W.heap.size W V):=bl_next HBr.out hbV;clear gV hbV HO;go_upto_region 5 with fail
  try rw [hV]
  clear hV q0 q1 q2 q3
  go_wp2_with (first
    | (at_builtin;refine append_one V (.int .i64 lo) rfl (.tmp 13) (.tmp 17) 27 3 (.int .i64 0) 8 rfl und28 info3i rfl W.heap.size _ k _ (by rfl) HOV.out rfl V.heap.size rfl (by rfl) (by unfold maxLen;omega) (by omega) HBV.out.size ?_;intro v1 w1 ho1 hg1 hn1))
  go_roundw
  case rel=>exact ⟨k+1,by go_num,hkn,(by show World.ownsRow _ _ _ _ _ _ _;rw [HN.out];exact ho1),((HBV.out.alloc HBV.out.size _).grown hg1 (by simp;exact Nat.le_succ_of_le HBV.out.size) (fun g hg=>(HOV.out.lt g hg).1))⟩
  case measure=>simp [intOf];omega
end Go.Proofs.YtjnckfchgcmmpaaGreatDoor
namespace Go.Proofs.YtjnckfchgcmmpaaGreatDoor
open Go.RowKit
theorem und5:Tryz.prog.underlying 5=some (.int .u8):=by kernel_rfl
theorem cells5:Tryz.prog.cellsOf 5=1:=by kernel_rfl
theorem info5:(Tryz.prog.info? 5).map (fun i=>(i.zero,i.size,i.bytes))=some (some (.int .u8 0),1,1):=by kernel_rfl
theorem part5 (a0 a1 a2 a3:Value) (w:World):(part 5 #[a0,a1,a2,a3] 0).run Tryz.prog w=.ok a0 w/\(part 5 #[a0,a1,a2,a3] 1).run Tryz.prog w=.ok a1 w/\(part 5 #[a0,a1,a2,a3] 2).run Tryz.prog w=.ok a2 w/\(part 5 #[a0,a1,a2,a3] 3).run Tryz.prog w=.ok a3 w:=⟨by kernel_rfl,by kernel_rfl,by kernel_rfl,by kernel_rfl⟩
theorem ne74 (a b c d a' b' c' d':Int) (w:World):(binOp .neq 155 (.agg #[.int .u8 a,.int .u8 b,.int .u8 c,.int .u8 d]) (.agg #[.int .u8 a',.int .u8 b',.int .u8 c',.int .u8 d'])).run Tryz.prog w=.ok (.bool (!(a==a'&&(b==b'&&(c==c'&&d==d'))))) w:=by
  obtain ⟨i,hi,_⟩:=info_of info5;rw [run_neq_struct,run_equalIn_array (P:=Tryz.prog) w 9999 _ _ und74 hi];have pa:=part5 (.int .u8 a) (.int .u8 b) (.int .u8 c) (.int .u8 d) w;have pb:=part5 (.int .u8 a') (.int .u8 b') (.int .u8 c') (.int .u8 d') w;have eq:=fun a b=>run_equalIn_int (P:=Tryz.prog) w 9998 5 .u8 .u8 a b und5
  have r2:List.range 4=[0,1,2,3]:=rfl;simp only [r2,Op.eqItems,cells5,Nat.mul_one,Sem.run_bind,pa,pb,eq,Result.andThen_ok,Sem.run_ite,Sem.run_pure]
  cases a==a' <;> cases b==b' <;> cases c==c' <;> cases d==d' <;> simp [Result.andThen]
def hsB (f h:Nat->Bool):Bool:=((wd f 0:Int)==(wd h 0:Int))&&(((wd f 1:Int)==(wd h 1:Int))&&(((wd f 2:Int)==(wd h 2:Int))&&((wd f 3:Int)==(wd h 3:Int))))
structure CfS where
  i:Iv
  nar:Nat->Bool
  out:List Iv
def cf1 (a:Int) (i:Iv) (g:Gr):Iv:=if a<=g.lo then Iv.with ⟨i.lo,g.hi,i.f,i.n⟩ g else ⟨i.lo,g.hi,i.f,i.n⟩
def nxE (g:Gr):List Gr->Bool
  | []=>false
  | g' :: _=>decide (g'.hi=g.hi)
def cfStep (a:Int) (S:CfS) (g:Gr) (G:List Gr):CfS:=
  if nxE g G then ⟨cf1 a S.i g,S.nar,S.out⟩
  else ⟨cf1 a S.i g,(cf1 a S.i g).f,if (!hsB (cf1 a S.i g).f S.nar&&decide ((cf1 a S.i g).num<=(cf1 a S.i g).n)) then S.out++[cf1 a S.i g] else S.out⟩
def cfR (a:Int) (S:CfS):List Gr->CfS
  | []=>S
  | g :: G=>cfR a (cfStep a S g G) G
def cf0 (a:Int):CfS:=⟨⟨a,0,fun _=>false,0⟩,fun _=>false,[]⟩
def cfL (a:Int) (G:List Gr):List Iv:=(cfR a (cf0 a) G).out
def ivs (L:List Iv):List Value:=L.flatMap Iv.cells
theorem ivs_append (G G':List Iv):ivs (G++G')=ivs G++ivs G':=by simp [ivs]
theorem ivs_one (g:Iv):ivs [g]=g.cells:=by simp [ivs]
theorem info76:(Tryz.prog.info? 157).map (fun i=>(i.zero,i.size,i.bytes))=some (some (.agg #[.int .i64 0,.int .i64 0,.int .u8 0,.int .u8 0,.int .u8 0,.int .u8 0,.int .i64 0]),7,32):=by kernel_rfl
theorem und68:Tryz.prog.underlying 149=some (.slice 157):=by kernel_rfl
structure CfI (N:Nat) (w:World) (S:CfS) (v:Value) (wr:World):Prop where
  nar:wr.heap[N]?=some (.cells #[.int .u8 (wd S.nar 0:Int),.int .u8 (wd S.nar 1:Int),.int .u8 (wd S.nar 2:Int),.int .u8 (wd S.nar 3:Int)] 155 (0,0))
  iv:wr.heap[N+1]?=some (.cells #[.int .i64 S.i.lo,.int .i64 S.i.hi,.int .u8 (wd S.i.f 0:Int),.int .u8 (wd S.i.f 1:Int),.int .u8 (wd S.i.f 2:Int),.int .u8 (wd S.i.f 3:Int),.int .i64 S.i.n] 157 (0,0))
  own:wr.ownsRow (N+1+1) 157 7 v S.out.length (ivs S.out)
  below:Below N w wr
  size:N+1+1<=wr.heap.size
theorem CfI.later {N:Nat} {w:World} {S:CfS} {v:Value} {wr w':World} (h:CfI N w S v wr) (hN:N<=wr.heap.size) (hb:Below wr.heap.size wr w'):CfI N w S v w':=
  ⟨(hb.block _ (hLt h.nar)).trans h.nar,(hb.block _ (hLt h.iv)).trans h.iv,own_bl h.own hb,h.below.trans (hb.mono hN),Nat.le_trans h.size hb.size⟩
theorem CfI.setI {N:Nat} {w:World} {S:CfS} {v:Value} {wr w':World} (h:CfI N w S v wr) (i':Iv) (ho:Off (fun b=>b=N+1) wr w') (hb:Below (N+1) wr w') (hi:w'.heap[N+1]?=some (.cells #[.int .i64 i'.lo,.int .i64 i'.hi,.int .u8 (wd i'.f 0:Int),.int .u8 (wd i'.f 1:Int),.int .u8 (wd i'.f 2:Int),.int .u8 (wd i'.f 3:Int),.int .i64 i'.n] 157 (0,0))):CfI N w ⟨i',S.nar,S.out⟩ v w':=
  ⟨(hb.block N (by omega)).trans h.nar,hi,own_off h.own (S:=fun b=>b=N+1) (fun g hg e=>by have:=(h.own.lt g hg).1;omega) ho,h.below.trans (hb.mono (by omega)),Nat.le_trans h.size hb.size⟩
theorem CfI.setN {N:Nat} {w:World} {S:CfS} {v:Value} {wr w':World} (h:CfI N w S v wr) (f:Nat->Bool) (ho:Off (fun b=>b=N) wr w') (hb:Below N wr w') (hi:w'.heap[N]?=some (.cells #[.int .u8 (wd f 0:Int),.int .u8 (wd f 1:Int),.int .u8 (wd f 2:Int),.int .u8 (wd f 3:Int)] 155 (0,0))):CfI N w ⟨S.i,f,S.out⟩ v w':=
  ⟨hi,(ho.2 (N+1) (by have:=h.size;omega) (by omega)).trans h.iv,own_off h.own (S:=fun b=>b=N) (fun g hg e=>by have:=(h.own.lt g hg).1;omega) ho,h.below.trans (hb.mono (by omega)),Nat.le_trans h.size hb.size⟩
theorem CfI.put {N:Nat} {w:World} {S:CfS} {v v7:Value} {V w7:World} {i:Iv} (h:CfI N w S v V) (h7:w7.ownsRow (N+1+1) 157 7 v7 (S.out.length+1) (ivs S.out++i.cells)) (hg:V.grownBy w7 v.ownBlock) (hN:N<=V.heap.size):CfI N w ⟨S.i,S.nar,S.out++[i]⟩ v7 w7:=by
  have ne:∀ k,k<=N+1->v.ownBlock≠some k:=fun k hk e=>by have:=(h.own.lt k e).1;omega
  have hs:=h.size;refine ⟨(hg.block _ (by omega) (fun e=>ne N (by omega) e.symm)).trans h.nar,(hg.block _ (by omega) (fun e=>ne (N+1) (by omega) e.symm)).trans h.iv,?_,h.below.grown hg (by omega) (fun k hk=>by have:=(h.own.lt k hk).1;omega),Nat.le_trans hs hg.size⟩;rw [List.length_append,ivs_append,ivs_one];exact h7
theorem src_iv {V:World} {b:Nat} {i:Iv} (h:V.heap[b]?=some (.cells #[.int .i64 i.lo,.int .i64 i.hi,.int .u8 (wd i.f 0:Int),.int .u8 (wd i.f 1:Int),.int .u8 (wd i.f 2:Int),.int .u8 (wd i.f 3:Int),.int .i64 i.n] 157 (0,0))):SrcAt V (.slice (some ⟨b,0,none⟩) 1 1) 1 7 i.cells:=by
  refine ⟨_,1,rfl,rfl,?_,(fun h=>by cases h),fun ad ha j y hj=>?_⟩
  · intro y hy
    simp only [Iv.cells,List.mem_cons,List.not_mem_nil,or_false] at hy
    rcases hy with rfl | rfl | rfl | rfl | rfl | rfl | rfl <;> rfl
  · injection ha with ha
    subst ha;rw [add_none,Nat.zero_add,cell_of h];simpa [Iv.cells] using hj
theorem CfI.set7 {N:Nat} {w:World} {S:CfS} {v:Value} {wr:World} (h:CfI N w S v wr) (b0 b1 b2 b3 b4 b5 b6:Value) (i':Iv) (e:#[b0,b1,b2,b3,b4,b5,b6]=#[.int .i64 i'.lo,.int .i64 i'.hi,.int .u8 (wd i'.f 0:Int),.int .u8 (wd i'.f 1:Int),.int .u8 (wd i'.f 2:Int),.int .u8 (wd i'.f 3:Int),.int .i64 i'.n]) {b:Nat} {o:Obj} (hb:b≠N+1) (ho:wr.heap[b]?=some o) :
    CfI N w ⟨i',S.nar,S.out⟩ v (((((((wr.setCell ⟨N+1,0,none⟩ b0).setCell ⟨N+1,1,none⟩ b1).setCell ⟨N+1,2,none⟩ b2).setCell ⟨N+1,3,none⟩ b3).setCell ⟨N+1,4,none⟩ b4).setCell ⟨N+1,5,none⟩ b5).setCell ⟨N+1,6,none⟩ b6)/\(((((((wr.setCell ⟨N+1,0,none⟩ b0).setCell ⟨N+1,1,none⟩ b1).setCell ⟨N+1,2,none⟩ b2).setCell ⟨N+1,3,none⟩ b3).setCell ⟨N+1,4,none⟩ b4).setCell ⟨N+1,5,none⟩ b5).setCell ⟨N+1,6,none⟩ b6).heap[b]?=some o:=by
  have st:∀ (c:Nat) (u:Value) (w1:World),Off (fun b=>b=N+1) wr w1->Off (fun b=>b=N+1) wr (w1.setCell ⟨N+1,c,none⟩ u):=fun c u w1 h1=>h1.trans (Off.set (S:=fun b=>b=N+1) _ rfl)
  have bt:∀ (c:Nat) (u:Value) (w1:World),Below (N+1) wr w1->Below (N+1) wr (w1.setCell ⟨N+1,c,none⟩ u):=fun c u w1 h1=>h1.setCell (by show N+1<=N+1;exact Nat.le_refl _) _
  have hO:=st 6 b6 _ (st 5 b5 _ (st 4 b4 _ (st 3 b3 _ (st 2 b2 _ (st 1 b1 _ (st 0 b0 _ ⟨Nat.le_refl _,fun _ _ _=>rfl⟩))))));refine ⟨h.setI i' hO (bt 6 b6 _ (bt 5 b5 _ (bt 4 b4 _ (bt 3 b3 _ (bt 2 b2 _ (bt 1 b1 _ (bt 0 b0 _ (Below.refl _ _)))))))) ?_,(hO.2 b (hLt ho) hb).trans ho⟩;rw [<-e];exact Go.Proofs.YtjnckfchgcmmpaaGreatDoor.set7 h.iv _ _ _ _ _ _ _
theorem CfI.set4 {N:Nat} {w:World} {S:CfS} {v:Value} {wr:World} (h:CfI N w S v wr) (f:Nat->Bool):CfI N w ⟨S.i,f,S.out⟩ v ((((wr.setCell ⟨N,0,none⟩ (.int .u8 (wd f 0:Int))).setCell ⟨N,1,none⟩ (.int .u8 (wd f 1:Int))).setCell ⟨N,2,none⟩ (.int .u8 (wd f 2:Int))).setCell ⟨N,3,none⟩ (.int .u8 (wd f 3:Int))):=by
  have st:∀ (c:Nat) (u:Value) (w1:World),Off (fun b=>b=N) wr w1->Off (fun b=>b=N) wr (w1.setCell ⟨N,c,none⟩ u):=fun c u w1 h1=>h1.trans (Off.set (S:=fun b=>b=N) _ rfl)
  have bt:∀ (c:Nat) (u:Value) (w1:World),Below N wr w1->Below N wr (w1.setCell ⟨N,c,none⟩ u):=fun c u w1 h1=>h1.setCell (by show N<=N;exact Nat.le_refl _) _
  refine h.setN f (st 3 _ _ (st 2 _ _ (st 1 _ _ (st 0 _ _ ⟨Nat.le_refl _,fun _ _ _=>rfl⟩)))) (bt 3 _ _ (bt 2 _ _ (bt 1 _ _ (bt 0 _ _ (Below.refl _ _))))) ?_;have hE:=heap_setCell_same _ N 3 _ 155 (.int .u8 (wd f 3:Int)) (heap_setCell_same _ N 2 _ 155 (.int .u8 (wd f 2:Int)) (heap_setCell_same _ N 1 _ 155 (.int .u8 (wd f 1:Int)) (heap_setCell_same wr N 0 _ 155 (.int .u8 (wd f 0:Int)) h.nar)));simpa only [List.setIfInBounds_toArray,List.set_cons_zero,List.set_cons_succ] using hE
end Go.Proofs.YtjnckfchgcmmpaaGreatDoor
namespace Go.Proofs.YtjnckfchgcmmpaaGreatDoor
open Go.RowKit
set_option maxRecDepth 10000
set_option maxHeartbeats 8000000
theorem hbl_drewN (w:World) (q:Nat):Below w.heap.size w (w.drewN q):=⟨rfl,rfl,rfl,Nat.le_refl _,fun _ _=>rfl⟩
def HcfOut (a:Int) (G:List Gr) (w:World) (e:Ending) (w':World):Prop:=∃ v,e=.returned v/\w'.ownsRow w.heap.size 157 7 v (cfL a G).length (ivs (cfL a G))/\Below w.heap.size w w'
theorem cf1_lo (a:Int) (i:Iv) (g:Gr):(cf1 a i g).lo=i.lo:=by unfold cf1 Iv.with;split <;> rfl
theorem cf1_ok {a:Int} {i:Iv} {g:Gr} {k:Nat} (hi:i.Ok) (hg:g.Ok) (hk:i.n<=(k:Int)*1000000) (h:k<64):(cf1 a i g).Ok/\(cf1 a i g).n<=((k+1:Nat):Int)*1000000:=by
  obtain ⟨l1,l2,h1,h2,n1,n2⟩:=hi;obtain ⟨k1,k2,k3,k4,kx,k5,k6⟩:=hg;unfold cf1 Iv.with
  split
  · refine ⟨⟨l1,l2,k3,k4,?_,?_⟩,?_⟩ <;> dsimp only <;> omega
  · refine ⟨⟨l1,l2,k3,k4,?_,?_⟩,?_⟩ <;> dsimp only <;> omega
theorem crowdFrom_any (a:Int) (ha1:-2000000000<=a) (ha2:a<=2000000000) (ga:Option Addr) (gc:Nat) (G:List Gr) (w:World) (hG:GrsAt w ga G) (hok:∀ g∈G,g.Ok) (hl:G.length<=32):Calls Tryz.prog 125 #[.int .i64 a,.slice ga G.length gc] w (HcfOut a G w):=by
  obtain ⟨W,hW⟩:∃ W,(w.alloc (.cells #[.int .u8 0,.int .u8 0,.int .u8 0,.int .u8 0] 155)).alloc (.cells #[.int .i64 a,.int .i64 0,.int .u8 0,.int .u8 0,.int .u8 0,.int .u8 0,.int .i64 0] 157)=W:=⟨_,rfl⟩;have hb0:Below w.heap.size w W:=by rw [<-hW];exact ((Below.refl _ _).alloc (Nat.le_refl _) _).alloc (by simp) _
  have HI0:Hid (CfI w.heap.size w (cf0 a) (.slice none 0 0) W):=by
    refine ⟨?_,?_,World.ownsRow_nil _ _ _ _,hb0,?_⟩
    · rw [<-hW]
      exact (heap_alloc_old (w.alloc _) _ (by simp)).trans (heap_alloc_new w _)
    · rw [<-hW]
      exact heap_alloc2_new w _ _
    · rw [<-hW]
      simp
  have HG:Hid (∀ w',Below w.heap.size w w'->∀ k (hk:k<G.length),∃ b off,ga=some ⟨b,off,none⟩/\GrAt w' b (off+k*4) G[k]):=fun w' hb k hk=>by
    obtain ⟨b,off,e,hlt,hg⟩:=hG k hk;exact ⟨b,off,e,hg.mono (hb.block b hlt)⟩
  have Hok:Hid (∀ k (hk:k<G.length),G[k].Ok):=fun k hk=>hok _ (List.getElem_mem hk)
  clear hG hb0 hok;go_enter Tryz.func125,Tryz.ntmps125;go_upto_region 3 with fail
  obtain ⟨W1,hW1⟩:∃ W1,w.alloc (.cells #[.int .u8 0,.int .u8 0,.int .u8 0,.int .u8 0] 155)=W1:=⟨_,rfl⟩;have Hs1:Hid (W1.heap.size=w.heap.size+1):=by show _=_;rw [<-hW1];simp
  have HW:Hid (W1.alloc (.cells #[.int .i64 a,.int .i64 0,.int .u8 0,.int .u8 0,.int .u8 0,.int .u8 0,.int .i64 0] 157)=W):=by show _=_;rw [<-hW1];exact hW
  clear hW;try rw [hW1]
  clear hW1;go_upto_region 4 with fail
  have hW:=HW.out;have hs1:=Hs1.out;rw [hW,hs1];clear hW hs1 HW Hs1;go_wp2_with fail
  go_loopw [5,15] (fun sv iv wr=>∃ (k:Nat) (S:CfS),iv=.int .i64 (k:Int)/\k<=G.length/\Hid (CfI w.heap.size w S sv wr)/\Hid (cfR a S (G.drop k)=cfR a (cf0 a) G)/\Hid (S.i.Ok/\S.i.lo=a/\S.i.n<=(k:Int)*1000000/\S.out.length<=k)) (fun _ iv _=>G.length-(intOf iv).toNat)
  case atStart=>exact ⟨0,cf0 a,rfl,Nat.zero_le _,HI0,rfl,⟨⟨ha1,ha2,(by show (-2000000000:Int)<=0;decide),(by show (0:Int)<=2000000000;decide),(by show (0:Int)<=0;decide),(by show (0:Int)<=100000000;decide)⟩,rfl,(by show (0:Int)<=_;decide),Nat.le_refl _⟩⟩
  case round=>
  obtain ⟨k,S,rfl,hk,HI,HR,HK⟩:=hrel;obtain ⟨sa,sc,rfl⟩:=own_slice HI.out.own
  by_cases hkn:k<G.length
  case neg=>
    have hke:k=G.length:=by omega
    subst hke;have hkI:¬ (G.length:Int)<(G.length:Int):=by omega
    have HE:Hid (S.out=cfL a G):=by
      have:=HR.out;rw [List.drop_length] at this;exact congrArg CfS.out this
    go_wp2_with fail
    go_ret;refine ⟨_,rfl,?_,HI.out.below⟩;rw [<-HE.out];exact own_base2 HI.out.own (by omega)
  case pos=>
  have hkI:(k:Int)<(G.length:Int):=by omega
  obtain ⟨b,off,rfl,hgr⟩:=HG.out wr HI.out.below k hkn;obtain ⟨q0,q1,q2,q3⟩:=hgr;obtain ⟨g,hgk⟩:∃ g,G[k]=g:=⟨_,rfl⟩;have HDr:Hid (G.drop k=g :: G.drop (k+1)):=by show _=_;rw [<-hgk];exact List.drop_eq_getElem_cons hkn
  have HGo:Hid g.Ok:=by rw [<-hgk];exact Hok.out k hkn
  rw [hgk] at q0 q1 q2 q3;clear hgk;obtain ⟨V,hV⟩:∃ V,wr.alloc (.cells #[.int .i64 g.lo,.int .i64 g.hi,.int .i64 (g.x:Int),.int .i64 g.n] 160)=V:=⟨_,rfl⟩;have hbV:Below wr.heap.size wr V:=bAe hV;have gV:V.heap[wr.heap.size]?=some (.cells #[.int .i64 g.lo,.int .i64 g.hi,.int .i64 (g.x:Int),.int .i64 g.n] 160 (0,0)):=hAe hV;have HIV:Hid (CfI w.heap.size w S (.slice sa S.out.length sc) V):=HI.out.later (HI.out.below.size) hbV;have HV0:Hid (V.heap[wr.heap.size]?=some (.cells #[.int .i64 g.lo,.int .i64 g.hi,.int .i64 (g.x:Int),.int .i64 g.n] 160 (0,0))):=gV;have HSz:Hid (w.heap.size+1+1<=wr.heap.size):=HI.out.size;go_upto_region 7 with fail
  try rw [hV]
  clear hV q0 q1 q2 q3;have r1:=cell_of gV 1;have j1:=cell_of HIV.out.iv 1;have jz:=frozen_of HIV.out.iv 1;clear gV;go_upto_region 8 with fail
  obtain ⟨V2,hV2⟩:∃ V2,V.setCell ⟨w.heap.size+1,1,none⟩ (.int .i64 g.hi)=V2:=⟨_,rfl⟩;have HI2:Hid (CfI w.heap.size w ⟨⟨S.i.lo,g.hi,S.i.f,S.i.n⟩,S.nar,S.out⟩ (.slice sa S.out.length sc) V2):=by
    rw [<-hV2];refine HIV.out.setI ⟨S.i.lo,g.hi,S.i.f,S.i.n⟩ (Off.set (S:=fun b=>b=w.heap.size+1) _ rfl) ((Below.refl (w.heap.size+1) V).setCell (by show w.heap.size+1<=w.heap.size+1;exact Nat.le_refl _) _) ?_;have hE:=heap_setCell_same V (w.heap.size+1) 1 _ 157 (.int .i64 g.hi) HIV.out.iv;simpa only [List.setIfInBounds_toArray,List.set_cons_zero,List.set_cons_succ] using hE
  have HG2:Hid (V2.heap[wr.heap.size]?=some (.cells #[.int .i64 g.lo,.int .i64 g.hi,.int .i64 (g.x:Int),.int .i64 g.n] 160 (0,0))):=by
    rw [<-hV2];show _=_;rw [heap_setCell_other _ _ _ _ (by show wr.heap.size≠w.heap.size+1;have:=HSz.out;omega)];exact HV0.out
  try rw [hV2]
  clear hV2 r1 j1 jz HIV HV0 HI HI0;have r0:=cell_of HG2.out 0;go_cut [29] from 25 to 29 (fun s29 wx=>s29=.bool (decide (a<=g.lo))/\wx=V2)
  case first=>
    go_wp2_with fail
    go_meet;exact ⟨rfl,rfl⟩
  case rest=>
  obtain ⟨rfl,rfl⟩:=hcut;clear r0
  apply_assumption
  go_cut [] from 29 to 32 (fun wx=>Hid (CfI w.heap.size w ⟨cf1 a S.i g,S.nar,S.out⟩ (.slice sa S.out.length sc) wx)/\Hid (wx.heap[wr.heap.size]?=some (.cells #[.int .i64 g.lo,.int .i64 g.hi,.int .i64 (g.x:Int),.int .i64 g.n] 160 (0,0))))
  case first=>
    by_cases hlo:a<=g.lo
    case neg=>
      have hd:decide (a<=g.lo)=false:=decide_eq_false hlo;have HE:Hid (cf1 a S.i g=⟨S.i.lo,g.hi,S.i.f,S.i.n⟩):=by show _=_;unfold cf1;rw [if_neg hlo]
      rw [hd];go_wp2_with fail
      go_meet;exact ⟨(by show CfI _ _ _ _ _;rw [HE.out];exact HI2.out),HG2⟩
    case pos=>
      have hd:decide (a<=g.lo)=true:=decide_eq_true hlo;have HE:Hid (cf1 a S.i g=Iv.with ⟨S.i.lo,g.hi,S.i.f,S.i.n⟩ g):=by show _=_;unfold cf1;rw [if_pos hlo]
      rw [hd];have hi2:(⟨S.i.lo,g.hi,S.i.f,S.i.n⟩:Iv).Ok:=by
        obtain ⟨⟨l1,l2,h1,h2,n1,n2⟩,_⟩:=HK.out;exact ⟨l1,l2,HGo.out.h1,HGo.out.h2,n1,n2⟩
      have HC0:=fun w'=>ivWith_any ⟨S.i.lo,g.hi,S.i.f,S.i.n⟩ g hi2 HGo.out w'
      have HC:Hid (∀ w',Calls Tryz.prog 147 #[.agg #[.int .i64 S.i.lo,.int .i64 g.hi,.int .u8 (wd S.i.f 0:Int),.int .u8 (wd S.i.f 1:Int),.int .u8 (wd S.i.f 2:Int),.int .u8 (wd S.i.f 3:Int),.int .i64 S.i.n],.agg #[.int .i64 g.lo,.int .i64 g.hi,.int .i64 (g.x:Int),.int .i64 g.n]] w' fun e w2=>e=.returned (.agg #[.int .i64 S.i.lo,.int .i64 g.hi,.int .u8 (wd (bWith S.i.f g.x) 0:Int),.int .u8 (wd (bWith S.i.f g.x) 1:Int),.int .u8 (wd (bWith S.i.f g.x) 2:Int),.int .u8 (wd (bWith S.i.f g.x) 3:Int),.int .i64 (S.i.n+g.n)])/\Below w'.heap.size w' w2):=HC0;clear HC0 hi2;have hv:=HI2.out.iv;dsimp only at hv;have c0:=cell_of hv 0;have c1:=cell_of hv 1;have c2:=cell_of hv 2;have c3:=cell_of hv 3;have c4:=cell_of hv 4;have c5:=cell_of hv 5;have c6:=cell_of hv 6;have d0:=cell_of HG2.out 0;have d1:=cell_of HG2.out 1
      have d2:=cell_of HG2.out 2;have d3:=cell_of HG2.out 3;clear hv
      go_wp2_with (go_at_call 147;refine cA (HC.out _) ?_;rintro e w4 ⟨rfl,hb4⟩;(have HI4:Hid (CfI w.heap.size w ⟨⟨S.i.lo,g.hi,S.i.f,S.i.n⟩,S.nar,S.out⟩ (.slice sa S.out.length sc) w4):=HI2.out.later HI2.out.below.size hb4);(have HG4:Hid (w4.heap[wr.heap.size]?=some (.cells #[.int .i64 g.lo,.int .i64 g.hi,.int .i64 (g.x:Int),.int .i64 g.n] 160 (0,0))):=(hb4.block _ (hLt HG2.out)).trans HG2.out);(have hv4:=HI4.out.iv);dsimp only at hv4;(have e0:=cell_of hv4 0);(have e1:=cell_of hv4 1);(have e2:=cell_of hv4 2);(have e3:=cell_of hv4 3);(have e4:=cell_of hv4 4);(have e5:=cell_of hv4 5);(have e6:=cell_of hv4 6);(have ez:∀ i,w4.frozen? ⟨w.heap.size+1,i,none⟩=false:=fun i=>frozen_of hv4 i);(have HV4:Hid (w4.heap[w.heap.size+1]?=some (.cells #[.int .i64 S.i.lo,.int .i64 g.hi,.int .u8 (wd S.i.f 0:Int),.int .u8 (wd S.i.f 1:Int),.int .u8 (wd S.i.f 2:Int),.int .u8 (wd S.i.f 3:Int),.int .i64 S.i.n] 157 (0,0))):=hv4);clear hb4 hv4)
      go_meet;rw [HE.out];exact HI4.out.set7 _ _ _ _ _ _ _ (Iv.with ⟨S.i.lo,g.hi,S.i.f,S.i.n⟩ g) rfl (by have:=HSz.out;omega) HG4.out
  case rest=>
  obtain ⟨HI3,HG3⟩:=hcut;rename World=>X;clear HI2 HG2;obtain ⟨i,hie⟩:∃ i,cf1 a S.i g=i:=⟨_,rfl⟩;have HIk:Hid (i.Ok/\i.lo=a/\i.n<=((k+1:Nat):Int)*1000000/\S.out.length<=k):=by
    obtain ⟨o1,o2,o3,o4⟩:=HK.out;have:=cf1_ok (a:=a) (g:=g) o1 HGo.out o3 (by omega);rw [<-hie];exact ⟨this.1,(cf1_lo a S.i g).trans o2,this.2,o4⟩
  have HSt:Hid (cfR a (cfStep a S g (G.drop (k+1))) (G.drop (k+1))=cfR a (cf0 a) G):=by
    have:=HR.out;rw [HDr.out] at this;exact this
  have HSe:Hid (cfStep a S g (G.drop (k+1))=if nxE g (G.drop (k+1)) then ⟨i,S.nar,S.out⟩ else ⟨i,i.f,if (!hsB i.f S.nar&&decide (i.num<=i.n)) then S.out++[i] else S.out⟩):=by
    show _=_;rw [<-hie];rfl
  rw [hie] at HI3;clear hie;go_upto_region 10 with fail
  go_cut [50] from 33 to 50 (fun s50 wx=>s50=.bool (nxE g (G.drop (k+1)))/\Hid (Below X.heap.size X wx))
  case first=>
    have g1:=cell_of HG3.out 1
    by_cases hk1:k+1<G.length
    case neg=>
      have hd:decide ((k:Int)+1<(G.length:Int))=false:=decide_eq_false (by omega);have HE:Hid (nxE g (G.drop (k+1))=false):=by
        show _=_;rw [List.drop_eq_nil_of_le (by omega)];rfl
      go_quiet (fail)
      go_wp2_with fail
      go_meet;exact ⟨by rw [HE.out],hbl_drewN _ _⟩
    case pos=>
      have hd:decide ((k:Int)+1<(G.length:Int))=true:=decide_eq_true (by omega);obtain ⟨b',off',e,hgr⟩:=HG.out X HI3.out.below (k+1) hk1;injection e with e;injection e with e1 e2;subst e1 e2;have HE:Hid (nxE g (G.drop (k+1))=decide (G[k+1].hi=g.hi)):=by
        show _=_;rw [List.drop_eq_getElem_cons hk1];rfl
      have n1:=hgr.2.1;clear hgr;have hk2:((k+1:Nat):Int)<(G.length:Int):=by omega
      go_quiet (fail)
      go_wp2_with fail
      go_meet;exact ⟨by rw [HE.out];rfl,hbl_drewN _ _⟩
  case rest=>
  obtain ⟨rfl,HBc⟩:=hcut;rename World=>Y;have HI5:Hid (CfI w.heap.size w ⟨i,S.nar,S.out⟩ (.slice sa S.out.length sc) Y):=HI3.out.later HI3.out.below.size HBc.out;clear HI3 HG3 HBc HK HDr HR;obtain ⟨r,hr⟩:∃ r,nxE g (G.drop (k+1))=r:=⟨_,rfl⟩;rw [hr] at HSe ⊢;clear hr
  cases r with
  | true =>
    have HS2:Hid (cfStep a S g (G.drop (k+1))=⟨i,S.nar,S.out⟩):=HSe.out;go_wp2_with fail
    go_roundw
    case rel=>
      refine ⟨k+1,⟨i,S.nar,S.out⟩,by go_num,hkn,HI5,?_,?_⟩
      · show _=_
        rw [<-HS2.out];exact HSt.out
      · obtain ⟨o1,o2,o3,o4⟩:=HIk.out
        exact ⟨o1,o2,o3,Nat.le_succ_of_le o4⟩
    case measure=>simp [intOf];omega
  | false =>
    have HS2:Hid (cfStep a S g (G.drop (k+1))=⟨i,i.f,if (!hsB i.f S.nar&&decide (i.num<=i.n)) then S.out++[i] else S.out⟩):=HSe.out;clear HSe;go_upto_region 11 with fail
    go_cut [58] from 51 to 58 (fun s58 wx=>s58=.bool (!hsB i.f S.nar&&decide (i.num<=i.n))/\Hid (Below Y.heap.size Y wx))
    case first=>
      have hv:=HI5.out.iv;have hn:=HI5.out.nar;dsimp only at hv hn;have c0:=cell_of hv 0;have c1:=cell_of hv 1;have c2:=cell_of hv 2;have c3:=cell_of hv 3;have c4:=cell_of hv 4;have c5:=cell_of hv 5;have c6:=cell_of hv 6;have d0:=cell_of hn 0;have d1:=cell_of hn 1;have d2:=cell_of hn 2;have d3:=cell_of hn 3;clear hv hn;obtain ⟨q,hq⟩:∃ q,hsB i.f S.nar=q:=⟨_,rfl⟩;have hne:∀ w',(binOp .neq 155 (.agg #[.int .u8 (wd i.f 0:Int),.int .u8 (wd i.f 1:Int),.int .u8 (wd i.f 2:Int),.int .u8 (wd i.f 3:Int)]) (.agg #[.int .u8 (wd S.nar 0:Int),.int .u8 (wd S.nar 1:Int),.int .u8 (wd S.nar 2:Int),.int .u8 (wd S.nar 3:Int)])).run Tryz.prog w'=.ok (.bool (!q)) w':=fun w'=>by
        rw [<-hq];exact ne74 _ _ _ _ _ _ _ _ w'
      have HC:Hid (∀ w',Calls Tryz.prog 148 #[.agg #[.int .i64 i.lo,.int .i64 i.hi,.int .u8 (wd i.f 0:Int),.int .u8 (wd i.f 1:Int),.int .u8 (wd i.f 2:Int),.int .u8 (wd i.f 3:Int),.int .i64 i.n]] w' fun e w2=>e=.returned (.bool (decide (i.num<=i.n)))/\Below w'.heap.size w' w2):=fun w'=>isCrowd_any i HIk.out.1 w'
      have HQ:Hid (hsB i.f S.nar=q):=hq;clear hq
      cases q with
      | true =>
        go_wp2_with fail
        go_meet;exact ⟨by rw [HQ.out];rfl,Below.refl _ _⟩
      | false =>
        go_wp2_with (go_at_call 148;refine cA (HC.out _) ?_;rintro e w4 ⟨rfl,hb4⟩);go_meet;exact ⟨by rw [HQ.out];rfl,hb4⟩
    case rest=>
    obtain ⟨rfl,HBc⟩:=hcut;rename World=>Z;have HI6:Hid (CfI w.heap.size w ⟨i,S.nar,S.out⟩ (.slice sa S.out.length sc) Z):=HI5.out.later HI5.out.below.size HBc.out;clear HI5 HBc;obtain ⟨r,hr⟩:∃ r,(!hsB i.f S.nar&&decide (i.num<=i.n))=r:=⟨_,rfl⟩;rw [hr] at HS2 ⊢;clear hr;have hv:=HI6.out.iv;dsimp only at hv;have c0:=cell_of hv 0;have c1:=cell_of hv 1;have c2:=cell_of hv 2;have c3:=cell_of hv 3;have c4:=cell_of hv 4;have c5:=cell_of hv 5;have c6:=cell_of hv 6;clear hv
    cases r with
    | false =>
      have HS3:Hid (cfStep a S g (G.drop (k+1))=⟨i,i.f,S.out⟩):=HS2.out;have hn:=HI6.out.nar;dsimp only at hn;have d0:=cell_of hn 0;have d1:=cell_of hn 1;have d2:=cell_of hn 2;have d3:=cell_of hn 3;have dz:∀ i,Z.frozen? ⟨w.heap.size,i,none⟩=false:=fun i=>frozen_of hn i
      clear hn;go_wp2_with fail
      go_roundw
      case rel=>
        refine ⟨k+1,⟨i,i.f,S.out⟩,by go_num,hkn,HI6.out.set4 i.f,?_,?_⟩
        · show _=_
          rw [<-HS3.out];exact HSt.out
        · obtain ⟨o1,o2,o3,o4⟩:=HIk.out
          exact ⟨o1,o2,o3,Nat.le_succ_of_le o4⟩
      case measure=>simp [intOf];omega
    | true =>
      have HS3:Hid (cfStep a S g (G.drop (k+1))=⟨i,i.f,S.out++[i]⟩):=HS2.out;obtain ⟨T,hT⟩:∃ T,Z.alloc (.cells #[.int .i64 i.lo,.int .i64 i.hi,.int .u8 (wd i.f 0:Int),.int .u8 (wd i.f 1:Int),.int .u8 (wd i.f 2:Int),.int .u8 (wd i.f 3:Int),.int .i64 i.n] 157)=T:=⟨_,rfl⟩;have hbT:Below Z.heap.size Z T:=bAe hT;have HST:Hid (SrcAt T (.slice (some ⟨Z.heap.size,0,none⟩) 1 1) 1 7 i.cells):=by
        refine src_iv ?_;rw [<-hT];exact heap_alloc_new Z _
      have HIT:Hid (CfI w.heap.size w ⟨i,S.nar,S.out⟩ (.slice sa S.out.length sc) T):=HI6.out.later HI6.out.below.size hbT;have hol:S.out.length<=32:=Nat.le_trans HIk.out.2.2.2 (by omega);have HSn:Hid (T.heap.size ≥ w.heap.size+1+1):=HIT.out.size;clear hbT
      go_wp2_with (first
        | (at_builtin;refine append_src T rfl (.tmp 59) (.tmp 61) 149 157 (.agg #[.int .i64 0,.int .i64 0,.int .u8 0,.int .u8 0,.int .u8 0,.int .u8 0,.int .i64 0]) 7 32 rfl und68 info76 rfl (by decide) (w.heap.size+1+1) _ _ S.out.length 1 (ivs S.out) i.cells (by rfl) (by rfl) HIT.out.own HST.out (by unfold maxLen;omega) (by omega) HSn.out ?_;intro v1 w1 ho1 hg1 hn1;(obtain ⟨a1,p1,hv1⟩:=own_slice ho1);subst hv1;(have HI7:Hid (CfI w.heap.size w ⟨i,S.nar,S.out++[i]⟩ (.slice a1 (S.out.length+1) p1) w1):=HIT.out.put ho1 hg1 HIT.out.below.size);clear ho1 hg1 hn1;(have hv:=HI7.out.iv);(have hn:=HI7.out.nar);dsimp only at hv hn;(have m2:=cell_of hv 2);(have m3:=cell_of hv 3);(have m4:=cell_of hv 4);(have m5:=cell_of hv 5);(have d0:=cell_of hn 0);(have d1:=cell_of hn 1);(have d2:=cell_of hn 2);(have d3:=cell_of hn 3);(have dz:∀ i,w1.frozen? ⟨w.heap.size,i,none⟩=false:=fun i=>frozen_of hn i);clear hv hn))
      go_roundw
      case rel=>
        refine ⟨k+1,⟨i,i.f,S.out++[i]⟩,by go_num,hkn,HI7.out.set4 i.f,?_,?_⟩
        · show _=_
          rw [<-HS3.out];exact HSt.out
        · obtain ⟨o1,o2,o3,o4⟩:=HIk.out
          exact ⟨o1,o2,o3,by rw [List.length_append];exact Nat.succ_le_succ o4⟩
      case measure=>simp [intOf];omega
end Go.Proofs.YtjnckfchgcmmpaaGreatDoor
namespace Go.Proofs.YtjnckfchgcmmpaaGreatDoor
open Go.RowKit Go.Sort Go.Lib Go.Shelf
def toG (g:Gr):BGr:=(Fin.ofNat 4000000001 (g.hi+2000000000).toNat,g.lo,g.x,g.n)
theorem fr_to {g:Gr} (h:g.Ok):frG (toG g)=g:=by
  obtain ⟨a,b,c,d⟩:=g;obtain ⟨_,_,k1,k2,_,_,_⟩:=h;dsimp only at k1 k2;unfold frG toG;dsimp only;have:(((Fin.ofNat 4000000001 (b+2000000000).toNat).val:Nat):Int)-2000000000=b:=by
    show (((b+2000000000).toNat % 4000000001:Nat):Int)-2000000000=b;omega
  rw [this]
def bG (G:List Gr):Array BGr:=(G.map toG).toArray
theorem bG_size (G:List Gr):(bG G).size=G.length:=by simp [bG]
theorem bG_get (G:List Gr) (h:∀ g∈G,g.Ok) (j:Nat) (hj:j<G.length):frG (bG G)[j]! = G[j]:=by
  have:j<(bG G).size:=by rw [bG_size];exact hj
  rw [getElem!_pos _ j this];have e:(bG G)[j]=toG G[j]:=by simp [bG]
  rw [e];exact fr_to (h _ (List.getElem_mem hj))
theorem bG_map (G:List Gr) (h:∀ g∈G,g.Ok):(bG G).toList.map frG=G:=by
  unfold bG;rw [List.map_map];have:∀ g∈G,(frG ∘ toG) g=id g:=fun g hg=>fr_to (h g hg)
  rw [List.map_congr_left this];simp
theorem holdsG {w:World} {g:Nat} {cur:Array Value} {G:List Gr} (hok:∀ g∈G,g.Ok) (h3:w.heap[g]?=some (.cells cur 160 (0,0))) (h7:cur.toList.take (G.length*4)=grs G):HoldsK encG 4 w g 0 (bG G):=by
  intro j hj;rw [size_flatK,bG_size] at hj;refine ⟨?_,frozen_of h3 _⟩;rw [get_flatK _ _ _ _ (by rw [bG_size];exact hj),cell_of h3,Nat.zero_add];have hq:j / 4<G.length:=by omega
  obtain ⟨q0,q1,q2,q3⟩:=grs_get G (j / 4) hq;have e:∀ k v,(grs G)[k]?=some v->k<G.length*4->cur[k]?=some v:=fun k v hk hlt=>by
    rw [<-h7,List.getElem?_take,if_pos hlt] at hk;simpa using hk
  have hen:encG (bG G)[j / 4]! = G[j / 4].cells:=by unfold encG;rw [bG_get G hok _ hq]
  rw [hen];obtain ⟨c,hcd⟩:∃ c,G[j / 4]=c:=⟨_,rfl⟩;rw [hcd] at q0 q1 q2 q3 ⊢;clear hen hcd;have hr:j % 4=0∨j % 4=1∨j % 4=2∨j % 4=3:=by omega
  have hj2:j / 4*4+j % 4=j:=by omega
  rcases hr with hr | hr | hr | hr
  · rw [hr] at hj2 ⊢
    exact e j _ (by rw [Nat.add_zero] at hj2;rw [hj2] at q0;exact q0) hj
  · rw [hr] at hj2 ⊢
    exact e j _ (by rw [hj2] at q1;exact q1) hj
  · rw [hr] at hj2 ⊢
    exact e j _ (by rw [hj2] at q2;exact q2) hj
  · rw [hr] at hj2 ⊢
    exact e j _ (by rw [hj2] at q3;exact q3) hj
theorem sortedG_any {w:World} {B:Nat} {v:Value} {G:List Gr} (ho:w.ownsRow B 160 4 v G.length (grs G)) (hok:∀ g∈G,g.Ok) (hl:G.length<=100000):Calls Tryz.prog 122 #[v,.func (.func 123) #[] #[]] w fun e w'=>e=.returned (.tuple #[])/\∃ Gs a cap,Gs.Perm G/\Gs.Pairwise (fun a b=>a.hi<=b.hi)/\v=.slice a Gs.length cap/\GrsAt w' a Gs/\RowKit.Below B w w':=by
  rcases ho.2 with ⟨rfl,hn⟩ | ⟨g,cap,cur,rfl,h2,h3,h4,h5,h6,h7⟩
  · refine (sortG0 none 0 _ w).mono ?_
    rintro e w' ⟨rfl,rfl⟩;have h0:G=[]:=List.length_eq_zero_iff.1 hn;subst h0;exact ⟨rfl,[],none,0,List.Perm.refl _,List.Pairwise.nil,rfl,(fun j hj=>absurd hj (by simp)),RowKit.Below.refl _ _⟩
  · have hg:=(hLt h3)
    have hH:=holdsG hok h3 h7;have hc:=sortG_call g 0 cap (bG G) w hH hg (by rw [bG_size];omega);rw [bG_size] at hc;refine hc.mono ?_;rintro e w' ⟨rfl,d',n,os,hp,hs,rfl⟩;obtain ⟨hp1,_,hp3⟩:=hp;rw [bG_size] at hp1;have x1:(d'.extract 0 G.length).toList=d'.toList:=by rw [<-hp1];simp
    have x2:((bG G).extract 0 G.length).toList=(bG G).toList:=by
      have:=bG_size G;rw [<-this];simp
    rw [x1,x2] at hp3;have hlen:(d'.toList.map frG).length=G.length:=by simp [hp1]
    have hgi:∀ j (h:j<(d'.toList.map frG).length),(d'.toList.map frG)[j]=frG d'[j]!:=fun j h=>by
      have hj:j<d'.size:=by simpa using h
      rw [getElem!_pos _ j hj];simp
    refine ⟨rfl,d'.toList.map frG,some ⟨g,0,none⟩,cap,?_,?_,?_,?_,?_⟩
    · have:=hp3.map frG
      rw [bG_map G hok] at this;exact this
    · rw [List.pairwise_iff_getElem]
      intro i j hi hj hij;rw [hgi,hgi];have:=hs i j (Nat.zero_le _) hij (by rw [<-hlen];exact hj);rw [cmpG_lt] at this;have:=of_decide_eq_false this;omega
    · rw [hlen]
    · have hK:HoldsK encG 4 (sortWorldK encG 4 w g 0 n d' os) g 0 d':=holdsK_grow encG 4 _ _ _ _ _ (by simpa [putRowK] using hg) (holdsK_putRowK encG 4 _ _ _ (bG G) _ (holdsK_ahead encG 4 _ _ _ _ _ hH) (by rw [hp1,bG_size]))
      intro j hj;have hj2:j<d'.size:=by simpa using hj
      refine ⟨g,0,rfl,Nat.lt_of_lt_of_le hg (sortG_grown w g 0 n d' os).size,?_⟩;have e:encG d'[j]! = (frG d'[j]!).cells:=rfl;rw [hgi];have c0:=(hK.cell hj2 (c:=0) (by decide)).1;have c1:=(hK.cell hj2 (c:=1) (by decide)).1;have c2:=(hK.cell hj2 (c:=2) (by decide)).1;have c3:=(hK.cell hj2 (c:=3) (by decide)).1;rw [e] at c0 c1 c2 c3;exact ⟨c0,c1,c2,c3⟩
    · exact (RowKit.Below.refl _ _).grown (sortG_grown w g 0 n d' os) (Nat.le_of_lt (Nat.lt_of_le_of_lt h2 hg)) (fun k hk=>by injection hk with hk;omega)
end Go.Proofs.YtjnckfchgcmmpaaGreatDoor
namespace Go.Proofs.YtjnckfchgcmmpaaGreatDoor
open Go.RowKit
set_option maxRecDepth 10000
set_option maxHeartbeats 8000000
def crL (Gs G:List Gr):List Iv:=(stL G).flatMap fun a=>cfL a Gs
theorem compact_sub (l:List Int):∀ x∈Lib.compact l,x∈l:=by
  intro x hx;unfold Lib.compact Lib.compactUpTo at hx;rw [List.mem_map] at hx;obtain ⟨j,hj,rfl⟩:=hx;have hlt:j<l.length:=by simpa using (List.mem_filter.1 hj).1
  have:j<l.toArray.size:=by simpa using hlt
  rw [getElem!_pos _ j this];simp
theorem stL_sub {G:List Gr} {a:Int} (h:a∈stL G):∃ g∈G,g.lo=a:=by
  have:=compact_sub _ a h;rw [List.mem_mergeSort,List.mem_map] at this;exact this
theorem stL_len (G:List Gr):(stL G).length<=G.length:=by
  refine Nat.le_trans (compact_len _) ?_;rw [List.length_mergeSort,List.length_map];exact Nat.le_refl _
theorem cfR_len (a:Int) (G:List Gr):∀ S:CfS,(cfR a S G).out.length<=S.out.length+G.length:=by
  induction G with
  | nil=>intro S;exact Nat.le_refl _
  | cons g G ih =>
    intro S;refine Nat.le_trans (ih _) ?_;have:(cfStep a S g G).out.length<=S.out.length+1:=by
      unfold cfStep
      split
      · exact Nat.le_succ _
      · dsimp only
        split
        · simp
        · exact Nat.le_succ _
    rw [List.length_cons];omega
theorem cfL_len (a:Int) (G:List Gr):(cfL a G).length<=G.length:=by
  have:=cfR_len a G (cf0 a);simpa [cfL,cf0] using this
theorem cfR_ok (a:Int) (G:List Gr):∀ (S:CfS) (k:Nat),(∀ g∈G,g.Ok)->S.i.Ok->S.i.n<=(k:Int)*1000000->k+G.length<=64->(∀ i∈S.out,i.Ok)->∀ i∈(cfR a S G).out,i.Ok:=by
  induction G with
  | nil=>intro S k _ _ _ _ h;exact h
  | cons g G ih =>
    intro S k hg hi hn hk ho;have hc:=cf1_ok (a:=a) (k:=k) hi (hg g List.mem_cons_self) hn (by rw [List.length_cons] at hk;omega)
    have e:(cfStep a S g G).i=cf1 a S.i g:=by unfold cfStep;split <;> rfl
    refine ih (cfStep a S g G) (k+1) (fun g' h'=>hg g' (List.mem_cons_of_mem _ h')) (by rw [e];exact hc.1) (by rw [e];exact hc.2) (by rw [List.length_cons] at hk;omega) ?_;intro i hi';unfold cfStep at hi'
    split at hi'
    · exact ho i hi'
    · dsimp only at hi'
      split at hi'
      · rcases List.mem_append.1 hi' with h | h
        · exact ho i h
        · rw [List.mem_singleton.1 h]
          exact hc.1
      · exact ho i hi'
theorem cfL_ok {a:Int} {G:List Gr} (h1:-2000000000<=a) (h2:a<=2000000000) (hg:∀ g∈G,g.Ok) (hl:G.length<=32):∀ i∈cfL a G,i.Ok:=
  cfR_ok a G (cf0 a) 0 hg ⟨h1,h2,(by show (-2000000000:Int)<=0;decide),(by show (0:Int)<=2000000000;decide),(by show (0:Int)<=0;decide),(by show (0:Int)<=100000000;decide)⟩ (by show (0:Int)<=_;decide) (by omega) (fun i h=>absurd h (by simp [cf0]))
theorem flat_len {β:Type} (n:Nat) (f:Int->List β) (h:∀ a,(f a).length<=n):∀ l:List Int,(l.flatMap f).length<=l.length*n
  | []=>by simp
  | a :: l => by
    rw [List.flatMap_cons,List.length_append,List.length_cons,Nat.add_mul,Nat.one_mul];have:=flat_len n f h l;have:=h a;omega
theorem ivs_src {w:World} {B:Nat} {v:Value} {G:List Iv} (h:w.ownsRow B 157 7 v G.length (ivs G)):SrcAt w v G.length 7 (ivs G):=by
  have h1:∀ u∈ivs G,u.oneCell'=true:=by
    intro u hu;unfold ivs at hu;rw [List.mem_flatMap] at hu;obtain ⟨d,_,hu⟩:=hu;simp only [Iv.cells,List.mem_cons,List.not_mem_nil,or_false] at hu
    rcases hu with rfl | rfl | rfl | rfl | rfl | rfl | rfl <;> rfl
  have hl:(ivs G).length=G.length*7:=h.1;rcases h.2 with ⟨rfl,hn⟩ | ⟨g,cap,cur,rfl,_,e3,_,_,_,e7⟩
  · exact ⟨none,0,by rw [hn],hl,h1,(fun _=>hn),fun ad ha=>by cases ha⟩
  · refine ⟨_,cap,rfl,hl,h1,(fun hn=>by cases hn),fun ad ha j u hj=>?_⟩
    injection ha with ha;subst ha;rw [add_none,Nat.zero_add,cell_of e3];have hj2:j<G.length*7:=by
      have:=(List.getElem?_eq_some_iff.1 hj).1;omega
    have:(cur.toList.take (G.length*7))[j]?=some u:=by rw [e7];exact hj
    rw [List.getElem?_take,if_pos hj2] at this;simpa using this
def CrOut (G:List Gr) (w:World) (e:Ending) (w':World):Prop:=∃ Gs v,Gs.Perm G/\Gs.Pairwise (fun a b=>a.hi<=b.hi)/\e=.returned v/\w'.ownsRow w.heap.size 157 7 v (crL Gs G).length (ivs (crL Gs G))/\Below w.heap.size w w'
theorem crowd_any (pv:Value) (B:Nat) (ga:Option Addr) (gc:Nat) (G:List Gr) (w:World) (hG:w.ownsRow B 160 4 (.slice ga G.length gc) G.length (grs G)) (hok:∀ g∈G,g.Ok) (hl:G.length<=32):Calls Tryz.prog 109 #[.agg #[pv,.slice ga G.length gc]] w (CrOut G w):=by
  obtain ⟨W,hW⟩:∃ W,w.alloc (.cells #[pv,.slice ga G.length gc] 147)=W:=⟨_,rfl⟩;have hb0:Below w.heap.size w W:=bAe hW;have HB:Hid (Below w.heap.size w W):=hb0;have g0:W.heap[w.heap.size]?=some (.cells #[pv,.slice ga G.length gc] 147 (0,0)):=hAe hW;have p1:=cell_of g0 1;have HG0:Hid (W.heap[w.heap.size]?=some (.cells #[pv,.slice ga G.length gc] 147 (0,0))):=g0;have HO:Hid (W.ownsRow B 160 4 (.slice ga G.length gc) G.length (grs G)):=own_bl hG hb0;have HCl:Hid (Calls Tryz.prog 121 #[.slice ga G.length gc] W fun e w1=>∃ v1,e=.returned v1/\Below W.heap.size W w1/\Calls Tryz.prog 122 #[v1,.func (.func 123) #[] #[]] w1 fun e w2=>e=.returned (.tuple #[])/\∃ Gs a cap,Gs.Perm G/\Gs.Pairwise (fun a b=>a.hi<=b.hi)/\v1=.slice a Gs.length cap/\GrsAt w2 a Gs/\Below W.heap.size W w2):=by
    refine (cloneG_any B _ G W HO.out (by omega)).mono ?_;rintro e w1 ⟨v1,rfl,ho,hb⟩;refine ⟨v1,rfl,hb,(sortedG_any ho hok (by omega)).mono ?_⟩;rintro e w2 ⟨rfl,Gs,a,cap,h1,h2,h3,h4,h5⟩;exact ⟨rfl,Gs,a,cap,h1,h2,h3,h4,hb.trans (h5.mono (Nat.le_refl _))⟩
  have Hok:Hid (∀ g∈G,g.Ok):=hok;clear hG g0 hb0 hok;go_enter Tryz.func109,Tryz.ntmps109;go_upto_region 1 with fail
  try rw [hW]
  clear hW;go_upto_region 3 with (first | (go_at_call 121;refine cA HCl.out ?_;intro e w1 hh;(obtain ⟨v1,h1,h2,h3⟩:=hh);subst h1;(have HSo:Hid _:=h3);clear h2 h3) | (go_at_call 122;refine cA HSo.out ?_;intro e w2 hh;(obtain ⟨h1,Gs,sa,sc,h2,h3,h4,h5,h6⟩:=hh);subst h1;subst h4));have HPe:Hid (Gs.Perm G):=h2;have HPa:Hid (Gs.Pairwise (fun a b=>a.hi<=b.hi)):=h3;have HGs:Hid (GrsAt w2 sa Gs):=h5;have HB2:Hid (Below W.heap.size W w2):=h6;have hg32:Gs.length<=32:=by rw [h2.length_eq];exact hl
  have HGok:Hid (∀ g∈Gs,g.Ok):=fun g hg=>Hok.out g (h2.mem_iff.1 hg)
  have b2:=(HB2.out.block _ (hLt HG0.out)).trans HG0.out;have z0:=cell_of b2 0;have z1:=cell_of b2 1;clear h2 h3 h5 h6 p1 b2 HSo HCl;have HSt:Hid (Calls Tryz.prog 124 #[.agg #[pv,.slice ga G.length gc]] w2 (StOut G w2)):=by
    refine starts_any pv ga gc G w2 ?_ (by omega);obtain ⟨a,cap,e,hh⟩:=own_grs (own_bl HO.out HB2.out);injection e with e1 e2 e3;subst e1;exact hh
  go_upto_region 5 with (first | (go_at_call 124;refine cA HSt.out ?_;intro e w3 hh;(obtain ⟨ta,tc,h1,h2,h3⟩:=hh);subst h1));have HT:Hid (IntsAt w3 (.slice ta (stL G).length tc) (stL G)):=h2;have HB3:Hid (Below w2.heap.size w2 w3):=h3;clear h2 h3 z0 z1 HSt;have hsl:(stL G).length<=32:=Nat.le_trans (stL_len G) hl;have HBw:Hid (Below w.heap.size w w3):=HB.out.trans ((HB2.out.trans (HB3.out.mono HB2.out.size)).mono HB.out.size);have HGw:Hid (∀ w',Below w3.heap.size w3 w'->GrsAt w' sa Gs):=fun w' hb=>HGs.out.below (HB3.out.trans (hb.mono HB3.out.size))
  have HTw:Hid (∀ w',Below w3.heap.size w3 w'->∀ (k:Nat) (hk:k<(stL G).length),∃ b off,ta=some ⟨b,off,none⟩/\w'.cell? ⟨b,off+k,none⟩=some (.int .i64 (stL G)[k])):=fun w' hb k hk=>by
    obtain ⟨a',c',e,_,hcl⟩:=HT.out;injection e with e1 _ _;subst e1;obtain ⟨b,off,e,hlt,hc⟩:=hcl (by omega);exact ⟨b,off,e,(hb.cell (p:=⟨b,_,none⟩) hlt).trans (hc k hk)⟩
  have HTb:Hid (∀ (k:Nat) (hk:k<(stL G).length),-2000000000<=(stL G)[k]/\(stL G)[k]<=2000000000):=fun k hk=>by
    obtain ⟨g,hg,e⟩:=stL_sub (List.getElem_mem hk);rw [<-e];exact ⟨(Hok.out g hg).l1,(Hok.out g hg).l2⟩
  have HEq:Hid (crL Gs G=(stL G).flatMap fun a=>cfL a Gs):=rfl;obtain ⟨T,hT⟩:∃ T,stL G=T:=⟨_,rfl⟩;rw [hT] at HTw HTb HEq hsl ⊢;clear hT HT HGs HB3 HB2 HG0 HO HB Hok;go_loopw [4,15] (fun sv iv wr=>∃ (k:Nat),iv=.int .i64 (k:Int)/\k<=T.length/\Hid (wr.ownsRow w3.heap.size 157 7 sv ((T.take k).flatMap fun a=>cfL a Gs).length (ivs ((T.take k).flatMap fun a=>cfL a Gs)))/\Hid (Below w3.heap.size w3 wr)) (fun _ iv _=>T.length-(intOf iv).toNat)
  case atStart=>exact ⟨0,rfl,Nat.zero_le _,World.ownsRow_nil _ _ _ _,Below.refl _ _⟩
  case round=>
  obtain ⟨k,rfl,hk,HOr,HBr⟩:=hrel;obtain ⟨oa,oc,rfl⟩:=own_slice HOr.out
  by_cases hkn:k<T.length
  case neg=>
    have hke:k=T.length:=by omega
    subst hke;have hkI:¬ (T.length:Int)<(T.length:Int):=by omega
    obtain ⟨L,hL⟩:∃ L,(T.take T.length).flatMap (fun a=>cfL a Gs)=L:=⟨_,rfl⟩;rw [hL] at HOr ⊢;have HLe:Hid (crL Gs G=L):=by show _=_;rw [HEq.out,<-hL,List.take_length]
    clear hL;go_wp2_with fail
    go_ret;refine ⟨Gs,_,HPe.out,HPa.out,rfl,?_,HBw.out.trans (HBr.out.mono HBw.out.size)⟩;rw [HLe.out];exact own_base2 HOr.out HBw.out.size
  case pos=>
  have hkI:(k:Int)<(T.length:Int):=by omega
  obtain ⟨b,off,rfl,x0⟩:=HTw.out wr HBr.out k hkn;have hab:=HTb.out k hkn;have HN:Hid ((T.take (k+1)).flatMap (fun a=>cfL a Gs)=(T.take k).flatMap (fun a=>cfL a Gs)++cfL T[k] Gs):=by
    show _=_;rw [List.take_succ_eq_append_getElem hkn,List.flatMap_append];simp
  have hfl:((T.take k).flatMap fun a=>cfL a Gs).length<=32*32:=by
    refine Nat.le_trans (flat_len 32 _ (fun a=>Nat.le_trans (cfL_len a Gs) (by omega)) _) ?_;exact Nat.mul_le_mul_right _ (Nat.le_trans (List.length_take_le _ _) (by omega))
  obtain ⟨a,hae⟩:∃ a,T[k]=a:=⟨_,rfl⟩;rw [hae] at x0 hab HN;clear hae;have hcl:(cfL a Gs).length<=32:=Nat.le_trans (cfL_len a Gs) (by omega);have HC:Hid (Calls Tryz.prog 125 #[.int .i64 a,.slice sa Gs.length sc] wr (HcfOut a Gs wr)):=crowdFrom_any a hab.1 hab.2 sa sc Gs wr (HGw.out wr HBr.out) HGok.out (by omega);have HOl:Hid (∀ w',Below wr.heap.size wr w'->w'.ownsRow w3.heap.size 157 7 (.slice oa ((T.take k).flatMap fun a=>cfL a Gs).length oc) ((T.take k).flatMap fun a=>cfL a Gs).length (ivs ((T.take k).flatMap fun a=>cfL a Gs))):=fun w' hb=>own_bl HOr.out hb
  clear hab HOr;obtain ⟨L,hL⟩:∃ L,(T.take k).flatMap (fun a=>cfL a Gs)=L:=⟨_,rfl⟩;rw [hL] at HN hfl HOl ⊢;clear hL
  go_wp2_with (first
    | (go_at_call 125;refine cA HC.out ?_;intro e w4 hh;(obtain ⟨v4,h1,h2,h3⟩:=hh);subst h1;(obtain ⟨va,vc,hv⟩:=own_slice h2);subst hv;(have HS4:Hid (SrcAt w4 (.slice va (cfL a Gs).length vc) (cfL a Gs).length 7 (ivs (cfL a Gs))):=ivs_src h2);(have HB4:Hid (Below wr.heap.size wr w4):=h3);clear h2 h3;(have HS5:Hid (w3.heap.size<=w4.heap.size):=Nat.le_trans HBr.out.size HB4.out.size))
    | (at_builtin;refine append_src w4 rfl (.tmp 19) (.tmp 22) 149 157 (.agg #[.int .i64 0,.int .i64 0,.int .u8 0,.int .u8 0,.int .u8 0,.int .u8 0,.int .i64 0]) 7 32 rfl und68 info76 rfl (by decide) w3.heap.size _ _ L.length (cfL a Gs).length (ivs L) (ivs (cfL a Gs)) (by rfl) (by rfl) (HOl.out w4 HB4.out) HS4.out (by unfold maxLen;omega) (by omega) HS5.out ?_;intro v1 w1' ho1 hg1 hn1))
  go_roundw
  case rel=>
    refine ⟨k+1,by go_num,hkn,?_,?_⟩
    · show World.ownsRow _ _ _ _ _ _ _
      rw [HN.out,List.length_append,ivs_append];exact ho1
    · exact (bl_next HBr.out HB4.out).grown hg1 HS5.out (fun g hg=>((HOl.out w4 HB4.out).lt g hg).1)
  case measure=>simp [intOf];omega
def ov (i:Iv):Bool:=decide (i.num<i.n)
theorem ivs_get (L:List Iv) (j:Nat) (hj:j<L.length) (c:Nat) (hc:c<7):(ivs L)[j*7+c]?=L[j].cells[c]?:=by
  induction L generalizing j with
  | nil=>exact absurd hj (by simp)
  | cons i L ih =>
    have e:ivs (i :: L)=i.cells++ivs L:=by simp [ivs]
    rw [e];have hl:i.cells.length=7:=rfl
    cases j with
    | zero =>
      rw [Nat.zero_mul,Nat.zero_add,List.getElem?_append_left (by omega)];rfl
    | succ j =>
      rw [List.getElem?_append_right (by omega),hl,show (j+1)*7+c-7=j*7+c by omega];exact ih j (by simpa using hj)
theorem own_ivs {w:World} {B:Nat} {v:Value} {L:List Iv} (h:w.ownsRow B 157 7 v L.length (ivs L)):∃ a cap,v=.slice a L.length cap/\IvsAt w a L:=by
  rcases h.2 with ⟨rfl,hn⟩ | ⟨g,cap,cur,rfl,_,h3,_,_,_,h7⟩
  · exact ⟨none,0,by rw [hn],fun j hj=>by omega⟩
  · refine ⟨_,cap,rfl,fun j hj=>⟨g,0,rfl,(hLt h3),?_⟩⟩
    have get:∀ c v,c<7->L[j].cells[c]?=some v->w.cell? ⟨g,0+j*7+c,none⟩=some v:=fun c v hc hk=>by
      rw [cell_of h3,Nat.zero_add];have:=ivs_get L j hj c hc;rw [hk,<-h7,List.getElem?_take,if_pos (by omega)] at this;simpa using this
    exact ⟨get 0 _ (by decide) rfl,get 1 _ (by decide) rfl,get 2 _ (by decide) rfl,get 3 _ (by decide) rfl,get 4 _ (by decide) rfl,get 5 _ (by decide) rfl,get 6 _ (by decide) rfl⟩
theorem IvsAt.below {w w':World} {a:Option Addr} {L:List Iv} (h:IvsAt w a L) (hb:Below w.heap.size w w'):IvsAt w' a L:=fun j hj=>by
  obtain ⟨b,off,e,hlt,hI⟩:=h j hj;exact ⟨b,off,e,Nat.lt_of_lt_of_le hlt hb.size,hI.mono (hb.block b hlt)⟩
theorem any_take {L:List Iv} {k:Nat} (hk:k<L.length):(L.take (k+1)).any ov=((L.take k).any ov||ov L[k]):=by
  rw [List.take_succ_eq_append_getElem hk,List.any_append];simp
def IxOut (L:List Iv) (w:World) (e:Ending) (w':World):Prop:=∃ r:Int,e=.returned (.int .i64 r)/\decide (0<=r)=L.any ov/\Below w.heap.size w w'
theorem index_any (a:Option Addr) (cap:Nat) (L:List Iv) (w:World) (hL:IvsAt w a L) (hok:∀ i∈L,i.Ok) (hl:L.length<=1000000):Calls Tryz.prog 126 #[.slice a L.length cap,.func (.func 111) #[] #[]] w (IxOut L w):=by
  have HL:Hid (∀ w',Below w.heap.size w w'->∀ j (h:j<L.length),∃ b off,a=some ⟨b,off,none⟩/\IvAt w' b (off+j*7) L[j]):=fun w' hb j hj=>by
    obtain ⟨b,off,e,hlt,hI⟩:=hL j hj;exact ⟨b,off,e,hI.mono (hb.block b hlt)⟩
  have Hok:Hid (∀ j (h:j<L.length),L[j].Ok):=fun j hj=>hok _ (List.getElem_mem hj)
  clear hL hok;go_enter Tryz.func126,Tryz.ntmps126;go_wp2_with fail
  go_loopw [8] (fun iv wr=>∃ (k:Nat),iv=.int .i64 (k:Int)/\k<=L.length/\Hid ((L.take k).any ov=false)/\Hid (Below w.heap.size w wr)) (fun iv _=>L.length-(intOf iv).toNat)
  case atStart=>exact ⟨0,rfl,Nat.zero_le _,rfl,Below.refl _ _⟩
  case round=>
  obtain ⟨k,rfl,hk,HA,HB⟩:=hrel
  by_cases hkn:k<L.length
  case neg=>
    have hke:k=L.length:=by omega
    subst hke;have hkI:¬ (L.length:Int)<(L.length:Int):=by omega
    go_wp2_with fail
    go_ret;refine ⟨-1,rfl,?_,HB.out⟩;have:=HA.out;rw [List.take_length] at this;rw [this];rfl
  case pos=>
  have hkI:(k:Int)<(L.length:Int):=by omega
  obtain ⟨b,off,rfl,hI⟩:=HL.out wr HB.out k hkn;have HN:Hid ((L.take (k+1)).any ov=((L.take k).any ov||ov L[k])):=any_take hkn;have HM:Hid (ov L[k]=true->L.any ov=true):=fun h=>List.any_eq_true.2 ⟨_,List.getElem_mem hkn,h⟩
  have hC:=isOver_any L[k] (Hok.out k hkn) wr;obtain ⟨i,hi⟩:∃ i,L[k]=i:=⟨_,rfl⟩;rw [hi] at hI HN hC HM;clear hi;obtain ⟨q0,q1,q2,q3,q4,q5,q6⟩:=hI;obtain ⟨r,hr⟩:∃ r,ov i=r:=⟨_,rfl⟩;rw [hr] at HN HM;have HC:Hid (Calls Tryz.prog 111 #[.agg #[.int .i64 i.lo,.int .i64 i.hi,.int .u8 (wd i.f 0:Int),.int .u8 (wd i.f 1:Int),.int .u8 (wd i.f 2:Int),.int .u8 (wd i.f 3:Int),.int .i64 i.n]] wr fun e w'=>e=.returned (.bool r)/\Below wr.heap.size wr w'):=by rw [<-hr];exact hC
  clear hC hr
  cases r with
  | true =>
    go_wp2_with (go_at_call 111;refine cA HC.out ?_;rintro e w4 ⟨rfl,hb4⟩);go_ret;refine ⟨_,rfl,?_,bl_next HB.out hb4⟩;rw [HM.out (by trivial)];exact decide_eq_true (by omega)
  | false =>
    go_wp2_with (go_at_call 111;refine cA HC.out ?_;rintro e w4 ⟨rfl,hb4⟩);go_roundw
    case rel=>exact ⟨k+1,by go_num,hkn,(by show _=_;rw [HN.out,HA.out];rfl),bl_next HB.out hb4⟩
    case measure=>simp [intOf];omega
theorem contains_any (a:Option Addr) (cap:Nat) (L:List Iv) (w:World) (hL:IvsAt w a L) (hok:∀ i∈L,i.Ok) (hl:L.length<=1000000):Calls Tryz.prog 110 #[.slice a L.length cap,.func (.func 111) #[] #[]] w fun e w'=>e=.returned (.bool (L.any ov))/\Below w.heap.size w w':=by
  have HC:Hid (Calls Tryz.prog 126 #[.slice a L.length cap,.func (.func 111) #[] #[]] w (IxOut L w)):=index_any a cap L w hL hok hl;clear hL hok;go_enter Tryz.func110,Tryz.ntmps110;go_wp2_with (go_at_call 126;refine cA HC.out ?_;intro e w4 hh;(obtain ⟨r,h1,h2,h3⟩:=hh);subst h1);go_ret;exact ⟨by rw [<-h2];rfl,h3⟩
end Go.Proofs.YtjnckfchgcmmpaaGreatDoor
