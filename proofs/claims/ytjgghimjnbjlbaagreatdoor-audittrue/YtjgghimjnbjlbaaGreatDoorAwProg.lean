import Derived.Test.YtjgghimjnbjlbaaGreatDoorJ04
import Derived.Test.YtjgghimjnbjlbaaGreatDoorJ43
import Derived.Test.YtjgghimjnbjlbaaGreatDoorJ51
import Derived.Test.YtjgghimjnbjlbaaGreatDoorJ46
import Derived.Laws.Tables
namespace Go.Proofs.YtjgghimjnbjlbaaGreatDoor
open Go Go.RowKit
set_option maxRecDepth 10000
set_option maxHeartbeats 8000000
def scS (L:List (List UInt8)):Nat->Int:=L.foldl (fun c x=>lay1 c (gd x).k.toNat (gd x).ids.length x.length) (fun _=>0)
theorem y1P (L:List (List UInt8)) (x:List UInt8):scS (L++[x])=lay1 (scS L) (gd x).k.toNat (gd x).ids.length x.length:=by unfold scS;rw [List.foldl_append];rfl
def wtS (L:List (List UInt8)) (y:Int):Array Value:=wtC (scS L) (sumW (scS L) 13) y (wrap64 (wrap64 (scS L 3+scS L 4)+scS L 11))
def zW:Array Value:=#[.int .i64 0,.int .i64 0,.int .i64 0,.int .i64 0,.int .i64 0,.int .i64 0,.int .i64 0,.int .i64 0,.int .i64 0,.int .i64 0,.int .i64 0,.int .i64 0,.int .i64 0,.int .i64 0,.int .i64 0,.int .i64 0,.int .i64 0,.int .i64 0,.int .i64 0]
def WgO (L:List (List UInt8)) (y:Int) (w:World) (e:Ending) (W:World):Prop:=Below w.heap.size w W/\(((∀ x∈L,er x=0)/\e=.returned (.tuple #[.agg (wtS L y),.nilIface])) ∨
  ∃ pre x post f,L=pre++x :: post/\(∀ y∈pre,er y=0)/\er x≠0/\e=.returned (.tuple #[.agg zW,.iface 95 (.pointer (some ⟨f,0,none⟩))])/\W.heap[f]?=some (.cells #[.int .i64 2,.int .i64 (pre.length+1),.int .i64 (er x)] 97 (0,0)))
theorem y1Q {P:Program} {ops:Array Oper} {rest:List Oper} {o:Oper} {a:Act} {w:World} {Q:Exit->Act->World->Prop} (hg:o.guard=none) (t:TypeId) (parts:Array (Nat × Operand)) (ho:o.op=.build t parts) (cells:Array Value)
    (hf:P.built t (parts.map fun (i,x)=>(i,a.eval x)).toList=some cells) (h:wpList P ops Q rest (a.put o.dst (.agg cells)) w):wpList P ops Q (o :: rest) a w:=
  wpList_build hg t parts ho (by rw [hf];rfl) (by rw [hf];exact h)
theorem xS {P:Program} {fn:Func} {p u:Tmp} {ty:TypeId} (h:fn.results=#[.cell p ty,.tmp u]) (tmps:Array Value) (w:World) (g:Nat) (t:TypeId) (cs:Array Value) (fr:Nat × Nat) (d:TypeDesc) (hp:tmps.getD p undef=.pointer (some ⟨g,0,none⟩)) (hg:w.heap[g]?=some (.cells cs t fr)) (hu:P.underlying ty=some d) (hd:(match d with | .struct _ | .array _ _=>true | _=>false)=true) (hi:(P.info? ty).map (·.size)=some cs.size):(results fn tmps).run P w=.ok (.tuple #[.agg cs,tmps.getD u undef]) w:=by
  rw [results_cell_tmp h,hp];simp [asAddr,run_loadVar_row w g t ty cs fr d hg hu hd hi,Result.andThen]
theorem XU (s:ByteArray) (w:World) (hs:s.size<=400000) (hg:Gl w):Calls Tryz.prog 21 #[.string s] w (WgO (lns s.data.toList []) s.size w):=by
  unfold WgO;have hL:=Yz s.data.toList [];have hC:=YA s.data.toList [];have hsz:s.data.toList.length=s.size:=by show s.data.toList.length=s.data.size;exact Array.length_toList
  rw [hsz] at hL hC;have HLn:Hid (∀ w',Calls Tryz.prog 22 #[.string s] w' (Zq s w')):=fun w'=>y1R s w' (by omega)
  unfold Zq at HLn;obtain ⟨xs,hxs⟩:∃ xs,lns s.data.toList []=xs:=⟨_,rfl⟩;rw [hxs] at hL hC HLn ⊢;have hxn:xs.length<=400001:=by omega
  have HXl:Hid (∀ y∈xs,y.length<=9000000):=fun y hy=>by have:=hL y hy;simp at this;omega
  clear hL hC hsz hxs;obtain ⟨W0,hW0⟩:∃ W0,w.alloc (.cells #[.int .i64 0,.int .i64 0,.int .i64 0,.int .i64 0,.int .i64 0,.int .i64 0,.int .i64 0,.int .i64 0,.int .i64 0,.int .i64 0,.int .i64 0,.int .i64 0,.int .i64 0,.int .i64 0,.int .i64 0,.int .i64 0,.int .i64 0,.int .i64 0,.int .i64 0] 55)=W0:=⟨_,rfl⟩;have g0:W0.heap[w.heap.size]?=some (.cells zW 55 (0,0)):=hAe hW0;have z0:W0.heap.size=w.heap.size+1:=by rw [<-hW0];exact Array.size_push _
  have b0:Below w.heap.size w W0:=bAe hW0;obtain ⟨W1,hW1⟩:∃ W1,W0.alloc (.cells #[.int .i64 0,.int .i64 0,.int .i64 0,.int .i64 0,.int .i64 0,.int .i64 0,.int .i64 0,.int .i64 0,.int .i64 0,.int .i64 0,.int .i64 0,.int .i64 0,.int .i64 0,.int .i64 0,.int .i64 0,.int .i64 0] 85)=W1:=⟨_,rfl⟩;have g1:W1.heap[w.heap.size+1]?=some (.cells (scC fun _=>0) 85 (0,0)):=by rw [<-hW1,<-z0];exact heap_alloc_new W0 _
  have z1:W1.heap.size=w.heap.size+2:=by
    have h:W1.heap.size=W0.heap.size+1:=by rw [<-hW1];exact Array.size_push _
    omega
  have b1:Below W0.heap.size W0 W1:=bAe hW1;have HB1:Hid (Below w.heap.size w W1):=ym b0 b1;have HG0:Hid (W1.heap[w.heap.size]?=some (.cells zW 55 (0,0))):=(b1.block _ (by omega)).trans g0;have HS1:Hid (ScAt W1 (w.heap.size+1) (scS [])):=g1;have HZ1:Hid (W1.heap.size=w.heap.size+2):=z1;have HG:Hid (∀ w',Below w.heap.size w w'->Gl w'):=fun w' hb=>hg.next hb
  have HZ0:Hid (W0.heap.size=w.heap.size+1):=z0;clear g0 b0 g1 z1 b1 hg;go_enter Tryz.func21,Tryz.ntmps21;go_wp2_with fail
  try rw [hW0]
  try rw [hW1]
  try rw [z0]
  clear z0;refine cA (HLn.out W1) ?_;rintro e W ⟨v5,rfl,ho5,hb5⟩;obtain ⟨a5,c5,rfl⟩:=yv ho5;rw [HZ1.out] at ho5;have HB2:Hid (Below w.heap.size w W):=ym HB1.out hb5;have HG2:Hid (W.heap[w.heap.size]?=some (.cells zW 55 (0,0))):=(hb5.block _ (by have:=HZ1.out;omega)).trans HG0.out;have HS2:Hid (ScAt W (w.heap.size+1) (scS (xs.take 0))):=HS1.out.below hb5;have HO2:Hid (W.ownsRow (w.heap.size+2) 9 1 (.slice a5 xs.length c5) xs.length (xs.map fun l=>.string (yd l))):=ho5;have HW2:Hid (w.heap.size+2<=W.heap.size):=by have:=HZ1.out;have:=hb5.size;show _<=_;omega
  clear ho5 hb5 HG0 HS1 HB1 HLn hW0 hW1 HZ1 HZ0;go_wp2_with fail
  go_loopw [12] (fun iv wr=>∃ i:Nat,iv=.int .i64 (i:Int)/\i<=xs.length/\Hid (∀ y∈xs.take i,er y=0)/\Hid (Below w.heap.size w wr/\wr.heap[w.heap.size]?=some (.cells zW 55 (0,0))/\ScAt wr (w.heap.size+1) (scS (xs.take i))/\wr.ownsRow (w.heap.size+2) 9 1 (.slice a5 xs.length c5) xs.length (xs.map fun l=>.string (yd l))/\w.heap.size+2<=wr.heap.size)) (fun iv _=>xs.length-(intOf iv).toNat)
  case atStart=>exact ⟨0,rfl,Nat.zero_le _,fun y hy=>absurd hy (by simp),HB2.out,HG2.out,HS2.out,HO2.out,HW2.out⟩
  case round=>
    obtain ⟨i,rfl,hi,HE,HR⟩:=hrel;clear HB2 HG2 HS2 HO2 HW2
    by_cases hin:i<xs.length
    · have hiI:(i:Int)<(xs.length:Int):=by omega
      obtain ⟨lg,loff,rfl,lcell⟩:=(y1S HR.out.2.2.2.1 (y1T HR.out.2.2.2.1)).at i hin;have x0:wr.cell? ⟨lg,loff+i,none⟩=some (.string (yd xs[i])):=lcell i _ (by simp [hin]);have hsp:xs=xs.take i++xs[i] :: xs.drop (i+1):=by rw [<-List.drop_eq_getElem_cons hin,List.take_append_drop]
      have htn:xs.take (i+1)=xs.take i++[xs[i]]:=List.take_succ_eq_append_getElem hin;have hxl:=HXl.out xs[i] (List.getElem_mem hin);obtain ⟨x,hx⟩:∃ x,xs[i]=x:=⟨_,rfl⟩;rw [hx] at x0 hsp htn hxl;have HSp:Hid (xs=xs.take i++x :: xs.drop (i+1)):=hsp;have HTn:Hid (xs.take (i+1)=xs.take i++[x]):=htn;have HPl:Hid ((xs.take i).length=i):=by show _=_;rw [List.length_take];omega
      have hpc:=y1U x wr hxl (HG.out wr HR.out.1);unfold Zr at hpc;obtain ⟨G,hG⟩:∃ G,gd x=G:=⟨_,rfl⟩;obtain ⟨E,hE⟩:∃ E,er x=E:=⟨_,rfl⟩;have hpx:xC x=(G,E):=by rw [<-hG,<-hE];rfl
      rw [hpx] at hpc;have HPc:Hid (Calls Tryz.prog 48 #[.string (yd x)] wr fun e w'=>∃ vo vp vl vi,e=.returned (.tuple #[.agg (slC G vo vp vl vi),.int .i64 E])/\SlOwn wr.heap.size w' G vo vp vl vi/\Below wr.heap.size wr w'):=hpc;have HGx:Hid (gd x=G):=hG;have HEx:Hid (er x=E):=hE;obtain ⟨K,hKI,hK13⟩:∃ K:Nat,G.k=(K:Int)/\K<13:=by
        have:=y1O x;rw [hG] at this;exact ⟨G.k.toNat,by omega,by omega⟩
      have HKI:Hid (G.k=(K:Int)/\K<13):=⟨hKI,hK13⟩;clear hpc hpx hG hE hsp htn hxl hx lcell hKI hK13;go_wp2_with fail
      refine cA HPc.out ?_;rintro e w1 ⟨vo,vp,vl,vi,rfl,ho1,hb1⟩;obtain ⟨oa,oc,rfl⟩:=yv ho1.o;obtain ⟨pa,pc,rfl⟩:=yv ho1.p;obtain ⟨la,lc,rfl⟩:=yv ho1.l;obtain ⟨ia,ic,rfl⟩:=yv ho1.i;have H1:Hid (Below wr.heap.size wr w1):=hb1;clear ho1 hb1 HPc;simp only [slC];rw [HKI.out.1];obtain ⟨w2,hw2⟩:∃ w2,w1.alloc (.cells #[.int .i64 (K:Int),.string (yd G.n),.slice oa G.ops.length oc,.slice pa G.pcs.length pc,.string (yd G.deg),.slice la G.lits.length lc,.slice ia G.ids.length ic,.int .i64 G.ends,.string (yd G.low),.string (yd G.high)] 91)=w2:=⟨_,rfl⟩
      have g2:w2.heap[w1.heap.size]?=some (.cells #[.int .i64 (K:Int),.string (yd G.n),.slice oa G.ops.length oc,.slice pa G.pcs.length pc,.string (yd G.deg),.slice la G.lits.length lc,.slice ia G.ids.length ic,.int .i64 G.ends,.string (yd G.low),.string (yd G.high)] 91 (0,0)):=hAe hw2;have hb2:Below w1.heap.size w1 w2:=bAe hw2;have HB2:Hid (Below wr.heap.size wr w2):=ym H1.out hb2;have HG2:Hid (w2.heap[w1.heap.size]?=some (.cells #[.int .i64 (K:Int),.string (yd G.n),.slice oa G.ops.length oc,.slice pa G.pcs.length pc,.string (yd G.deg),.slice la G.lits.length lc,.slice ia G.ids.length ic,.int .i64 G.ends,.string (yd G.low),.string (yd G.high)] 91 (0,0))):=g2;clear g2 hb2
      by_cases hE0:E=0
      · have hEb:(E != 0)=false:=by simpa using hE0
        have HE0:Hid (E=0):=hE0;have HSc2:Hid (ScAt w2 (w.heap.size+1) (scS (xs.take i))):=HR.out.2.2.1.below HB2.out;have HLy:Hid (∀ a1 a2 a3 a4 a5 a7 a8 a9,Calls Tryz.prog 49 #[.pointer (some ⟨w.heap.size+1,0,none⟩),.string (yd x),.agg #[.int .i64 (K:Int),a1,a2,a3,a4,a5,.slice ia G.ids.length ic,a7,a8,a9]] w2 fun e w'=>e=.returned (.tuple #[])/\ScAt w' (w.heap.size+1) (lay1 (scS (xs.take i)) K G.ids.length (yd x).size)/\Ofw (fun k=>k=w.heap.size+1) w2 w'):=fun a1 a2 a3 a4 a5 a7 a8 a9=>y1V _ _ _ _ HKI.out.2 _ _ _ _ _ _ _ _ _ _ _ _ HSc2.out
        clear hE0;have t0:=yb HG2.out 0;have t1:=yb HG2.out 1;have t2:=yb HG2.out 2;have t3:=yb HG2.out 3;have t4:=yb HG2.out 4;have t5:=yb HG2.out 5;have t6:=yb HG2.out 6;have t7:=yb HG2.out 7;have t8:=yb HG2.out 8;have t9:=yb HG2.out 9;dsimp at t0 t1 t2 t3 t4 t5 t6 t7 t8 t9;go_wp2_with fail
        refine cA (HLy.out _ _ _ _ _ _ _ _) ?_;rintro e w4 ⟨rfl,hs4,ho4⟩;have HR4:Hid (Below w.heap.size w w4/\w4.heap[w.heap.size]?=some (.cells zW 55 (0,0))/\ScAt w4 (w.heap.size+1) (scS (xs.take (i+1)))/\w4.ownsRow (w.heap.size+2) 9 1 (.slice (some ⟨lg,loff,none⟩) xs.length c5) xs.length (xs.map fun l=>.string (yd l))/\w.heap.size+2<=w4.heap.size):=by
          have hbw2:Below w.heap.size w w2:=ym HR.out.1 HB2.out;have hsz:wr.heap.size<=w2.heap.size:=HB2.out.size;have hwr:=HR.out.2.2.2.2;refine ⟨hbw2.trans (ho4.below (fun k e=>by omega) hbw2.size),?_,?_,?_,Nat.le_trans hwr (Nat.le_trans hsz ho4.size)⟩
          · exact (ho4.block _ (by omega) (by omega)).trans ((HB2.out.block _ (by omega)).trans HR.out.2.1)
          · rw [HTn.out,y1P,HGx.out,HKI.out.1,Int.toNat_natCast]
            rw [zA] at hs4;exact hs4
          · refine yN HR.out.2.2.2.1 fun g hg=>?_
            have:=HR.out.2.2.2.1.lt g hg;exact (ho4.block g (by omega) (by omega)).trans (HB2.out.block g (by omega))
        have HE4:Hid (∀ y∈xs.take (i+1),er y=0):=by
          intro y hy;rw [HTn.out] at hy;rcases List.mem_append.1 hy with hy | hy
          · exact HE.out y hy
          · have:y=x:=by simpa using hy
            rw [this,HEx.out,HE0.out]
        clear hs4 ho4 t0 t1 t2 t3 t4 t5 t6 t7 t8 t9 hw2 HLy HSc2 HB2 HG2 HR;go_wp2_with fail
        go_roundw
        case rel=>exact ⟨i+1,by go_num,hin,HE4,HR4⟩
        case measure=>simp [intOf];omega
      · have hEb:(E != 0)=true:=by simpa using hE0
        have HE0:Hid (E≠0):=hE0;have hwr:wrap64 ((i:Int)+1)=(i:Int)+1:=by unfold wrap64;omega
        obtain ⟨w3,hw3⟩:∃ w3,w2.alloc (.cells #[.int .i64 2,.int .i64 ((i:Int)+1),.int .i64 E] 97)=w3:=⟨_,rfl⟩;have g3:w3.heap[w2.heap.size]?=some (.cells #[.int .i64 2,.int .i64 ((i:Int)+1),.int .i64 E] 97 (0,0)):=hAe hw3;have hb3:Below w2.heap.size w2 w3:=bAe hw3;have HB3:Hid (Below wr.heap.size wr w3):=ym HB2.out hb3;have HZ3:Hid (w3.heap[w.heap.size]?=some (.cells zW 55 (0,0))):=(HB3.out.block _ (by have:=HR.out.2.2.2.2;omega)).trans HR.out.2.1;have HF3:Hid (w3.heap[w2.heap.size]?=some (.cells #[.int .i64 2,.int .i64 ((i:Int)+1),.int .i64 E] 97 (0,0))/\w.heap.size≠w2.heap.size):=⟨g3,by have:=HR.out.2.2.2.2;have:=HB2.out.size;omega⟩;clear hE0 g3 hb3
        go_wp2_with (first | (refine y1Q rfl 55 #[] rfl zW (by kernel_rfl) ?_) | (refine wpList_store_row rfl 55 (.tmp 2) (.tmp 24) rfl w.heap.size zW (by rfl) (by rfl) 55 zW HZ3.out infW rfl (by simp [zW,Value.oneCell']) ?_))
        refine bodyPost_ret (xS rfl _ _ w.heap.size 55 _ (0,0) _ rfl (setRow_heap w3 w.heap.size _ zW _ _ HZ3.out) Tryz.underlying55 rfl infW) rfl ⟨?_,.inr ⟨xs.take i,x,xs.drop (i+1),w2.heap.size,HSp.out,HE.out,by rw [HEx.out];exact HE0.out,rfl,?_⟩⟩
        · exact (ym HR.out.1 HB3.out).trans ⟨rfl,rfl,rfl,by simp [World.setRow],fun k hk=>setRow_other w3 _ k _ (by omega)⟩
        · rw [HPl.out,HEx.out]
          exact (setRow_other w3 _ _ _ (fun e=>HF3.out.2 e.symm)).trans HF3.out.1
    · have hiI:¬ (i:Int)<(xs.length:Int):=by omega
      obtain rfl:i=xs.length:=by omega
      have HSc:Hid (ScAt wr (w.heap.size+1) (scS xs)):=by have:=HR.out.2.2.1;rw [List.take_length] at this;exact this
      have HWt:Hid (Calls Tryz.prog 50 #[.pointer (some ⟨w.heap.size+1,0,none⟩),.int .i64 (s.size:Int)] wr fun e w'=>e=.returned (.agg (wtS xs s.size))/\Below wr.heap.size wr w'):=y1W _ _ _ _ HSc.out;go_wp2_with fail
      refine cA HWt.out ?_;rintro e w1 ⟨rfl,hb1⟩;have HZ1:Hid (w1.heap[w.heap.size]?=some (.cells zW 55 (0,0))):=(hb1.block _ (by have:=HR.out.2.2.2.2;omega)).trans HR.out.2.1;have HB1:Hid (Below w.heap.size w w1):=ym HR.out.1 hb1;clear hb1;go_wp2_with (refine wpList_store_row rfl 55 (.tmp 2) (.tmp 37) rfl w.heap.size (wtS xs s.size) (by rfl) (by rfl) 55 zW HZ1.out infW rfl (by simp [wtS,wtC,Value.oneCell']) ?_)
      refine bodyPost_ret (xS rfl _ _ w.heap.size 55 _ (0,0) _ rfl (setRow_heap w1 w.heap.size _ (wtS xs s.size) _ _ HZ1.out) Tryz.underlying55 rfl infW) rfl ⟨?_,.inl ⟨?_,rfl⟩⟩
      · exact HB1.out.trans ⟨rfl,rfl,rfl,by simp [World.setRow],fun k hk=>setRow_other w1 _ k _ (by omega)⟩
      · have h:=HE.out
        rw [List.take_length] at h;exact h
end Go.Proofs.YtjgghimjnbjlbaaGreatDoor
