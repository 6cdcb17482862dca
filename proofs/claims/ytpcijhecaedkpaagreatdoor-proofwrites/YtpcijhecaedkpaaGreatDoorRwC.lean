import Derived.Test.YtpcijhecaedkpaaGreatDoorJ45
import Derived.Test.YtpcijhecaedkpaaGreatDoorRwB
import Derived.Test.YtpcijhecaedkpaaGreatDoorJ42
import Derived.Test.YtpcijhecaedkpaaGreatDoorJ41
namespace Go.Proofs.YtpcijhecaedkpaaGreatDoor
open Go.RowKit
set_option maxRecDepth 20000
set_option maxHeartbeats 8000000
theorem fl_fields : (Tryz.prog.fieldsOf 73).toList.map (fun f => (f.name, f.type, f.offset)) = [("Line", 3, 0), ("Err", 3, 1)] := by kernel_rfl
theorem fl_parts (a b:Value) (w:World):(part 3 #[a,b] 0).run Tryz.prog w=.ok a w/\(part 3 #[a,b] 1).run Tryz.prog w=.ok b w:=⟨by kernel_rfl,by kernel_rfl⟩
theorem fl_equal (s t m n:Int) (w:World):(Op.equalIn 10000 73 (.agg #[.int .i64 s,.int .i64 m]) (.agg #[.int .i64 t,.int .i64 n])).run Tryz.prog w=.ok (s==t&&m==n) w:=by
  rw [run_equalIn_struct (d:=9999) (ht:=by kernel_rfl) (hp:=by kernel_rfl)];have hf:=fl_fields;generalize (Tryz.prog.fieldsOf 73).toList=l at *
  simp only [List.map_eq_cons_iff,List.map_eq_nil_iff,Prod.mk.injEq] at hf;obtain ⟨f1,l1,rfl,⟨n1,t1,o1⟩,f2,l2,rfl,⟨n2,t2,o2⟩,rfl⟩:=hf;have pa:=fl_parts (.int .i64 s) (.int .i64 m) w;have pb:=fl_parts (.int .i64 t) (.int .i64 n) w;have eq:=fun a b=>run_equalIn_int (P:=Tryz.prog) w 9998 3 .i64 .i64 a b Tryz.underlying3
  simp only [Op.eqFields,n1,n2,t1,t2,o1,o2,Sem.run_bind,pa,pb,eq,Result.andThen_ok,Sem.run_ite,Sem.run_pure]
  cases s==t <;> cases m==n <;> simp
theorem fl_neq (s m:Int) (w:World):(binOp .neq 73 (.agg #[.int .i64 s,.int .i64 m]) (.agg #[.int .i64 s,.int .i64 m])).run Tryz.prog w=.ok (.bool false) w:=by
  rw [run_neq_struct,fl_equal];simp [Result.andThen]
def lab0 (R:Nat):Lab:=fun k=>if k=R then 100 else 0
theorem room_new (w:World) (cs:List Value) (hc:cs=List.replicate 28 (.slice none 0 0)):RoomG w.heap.size w.heap.size (lab0 w.heap.size) 0 (w.alloc (.cells cs.toArray 65)):=by
  subst hc;have hn:(w.alloc (.cells (List.replicate 28 (.slice none 0 0)).toArray 65)).heap[w.heap.size]?=some (.cells (List.replicate 28 (.slice none 0 0)).toArray 65 (0,0)):=heap_alloc_new w _;refine ⟨fun _=>[],⟨by simp [lab0],fun k hk=>?_,fun k hk=>?_,by simp,⟨_,_,hn,by simp⟩,fun f hf=>⟨.slice none 0 0,?_,World.ownsRow_nil _ _ _ _,fun g hg=>by simp [Value.ownBlock] at hg⟩⟩,fun f hf=>⟨by simp,rfl⟩,fun f hf _=>rfl,fun f hf i x a h1 _=>by simp at h1⟩
  · have:w.heap.size<k:=by simp at hk;omega
    simp [lab0];omega
  · simp [lab0];omega
  · have h28:(List.replicate 28 (Value.slice none 0 0)).toArray[f]?=some (.slice none 0 0):=by rw [List.getElem?_toArray,List.getElem?_replicate,if_pos hf]
    simp only [World.cell?,hn,h28];rfl
theorem few_of {d:SL} (h:stW d<=200000):Few1 d:=by
  have h1:=len_tot (d.ops.map fun o=>o.2.1);have h2:=len_tot (d.pcs.map fun o=>o.1);have h3:=len_tot d.ids;rw [List.length_map] at h1 h2;unfold stW at h;exact ⟨by omega,by omega,by omega,by omega⟩
theorem wts_count (ds:List SL):ds.length<=wtS ds:=by
  induction ds with
  | nil=>simp
  | cons d ds ih =>
    have h3:4<=stW d:=by unfold stW;omega
    have e:wtS (d :: ds)=stW d+wtS ds:=by simp [wtS]
    rw [e,List.length_cons];omega
theorem first_bad {P:SL->Prop} {ds pre pre' post post':List SL} {d d':SL} (h:ds=pre++d :: post) (h':ds=pre'++d' :: post') (q:∀ x∈pre,P x) (q':∀ x∈pre',P x) (n:¬ P d) (n':¬ P d'):pre.length=pre'.length:=by
  have e:pre++d :: post=pre'++d' :: post':=h.symm.trans h';clear h h'
  induction pre generalizing pre' with
  | nil =>
    cases pre' with
    | nil=>rfl
    | cons y r =>
      have:d=y:=by simpa using (List.cons.inj e).1
      exact absurd (q' y (by simp)) (this▸n)
  | cons x r ih =>
    cases pre' with
    | nil =>
      have:x=d':=by simpa using (List.cons.inj e).1
      exact absurd (q x (by simp)) (this▸n')
    | cons y r' =>
      have e2:r++d :: post=r'++d' :: post':=(List.cons.inj e).2;rw [List.length_cons,List.length_cons,ih (fun z hz=>q z (List.mem_cons_of_mem _ hz)) (fun z hz=>q' z (List.mem_cons_of_mem _ hz)) e2]
def WT (T:ByteArray) (n m:Int) (w:World) (e:Ending) (w':World):Prop:=∃ ev,e=.returned (.tuple #[.string T,ev])/\Below w.heap.size w w'/\Calls Tryz.prog 23 #[ev] w' (fun e w2=>e=.returned (.tuple #[.agg #[.int .i64 n,.int .i64 m],.bool true])/\Below w'.heap.size w' w2)
theorem wt_of {ds:List SL} {w:World} {e:Ending} {w':World} (h:RwO ds w e w'):∃ T n m,e=.returned (.tuple #[.string T,.agg #[.int .i64 n,.int .i64 m]])/\Below w.heap.size w w'/\∀ w1 e1 w2,WlO ds w1 e1 w2->WT T n m w1 e1 w2:=by
  obtain ⟨hb,h⟩:=h;rcases h with ⟨rfl,hok⟩ | ⟨pre,d,post,hsp,hpre,hno,rfl⟩
  · refine ⟨_,_,_,rfl,hb,fun w1 e1 w2 h=>?_⟩
    obtain ⟨hb1,h⟩:=h;rcases h with ⟨rfl,_⟩ | ⟨pre,d,post,f,hsp,_,hno,_⟩
    · exact ⟨_,rfl,hb1,told_nil w2⟩
    · exact absurd (hok d (by rw [hsp];simp)) hno
  · refine ⟨_,_,_,rfl,hb,fun w1 e1 w2 h=>?_⟩
    obtain ⟨hb1,h⟩:=h;rcases h with ⟨_,hok⟩ | ⟨pre',d',post',f,hsp',hpre',hno',rfl,hf⟩
    · exact absurd (hok d (by rw [hsp];simp)) hno
    · have hl:=first_bad (P:=fun x=>parseP (lnT x)=(x,0)) hsp hsp' hpre hpre' hno hno'
      refine ⟨_,rfl,hb1,?_⟩;rw [hl];exact told_hit _ 83 f w2 hf (by omega) (by omega)
theorem writes_any (ds:List SL) (v:Value) (w:World) (hS:StsR w v ds) (hI:∀ d∈ds,SlI d) (hM:∀ d∈ds,SlM d) (hg:Gl w):Calls Tryz.prog 6 #[v] w fun e w'=>e=.returned (.bool true)/\Below w.heap.size w w':=by
  obtain ⟨a,c,rfl,hn,_⟩:=id hS;have HS:Hid (StsR w (.slice a ds.length c) ds):=hS;have HI:Hid (∀ d∈ds,SlI d):=hI;have HG:Hid (∀ w',Below w.heap.size w w'->Gl w'):=fun w' hb=>hg.next hb
  have HCt:Hid (Calls Tryz.prog 16 #[.pointer (some ⟨w.heap.size,0,none⟩),.slice a ds.length c] (w.alloc (.cells #[.int .i64 200000] 90)) fun e w'=>e=.returned (.tuple #[])/\CtO w.heap.size w.heap.size 200000 (wtS ds) (w.alloc (.cells #[.int .i64 200000] 90)) w'):=csteps_any w ds _ hS hM 200000 _ ⟨heap_alloc_new w _,by omega,by omega⟩ (Nat.le_refl _) ((Below.refl _ _).alloc (Nat.le_refl _) _);clear hS hI hM hg;go_enter Tryz.func6,Tryz.ntmps6;go_wp2_with fail
  refine calls_at (many_any w) (by with_reducible rfl) (by with_reducible rfl) ?_;rintro e w1 ⟨rfl,hw1⟩;have HCs:Hid (Calls Tryz.prog 16 #[.pointer (some ⟨w.heap.size,0,none⟩),.slice a ds.length c] w1 fun e w'=>e=.returned (.tuple #[])/\CtO w.heap.size w.heap.size 200000 (wtS ds) w1 w'):=by rw [hw1];exact HCt.out
  have HB1:Hid (Below w.heap.size w w1):=by rw [hw1];exact (Below.refl _ _).alloc (Nat.le_refl _) _
  clear hw1 HCt;go_wp2_with fail
  refine calls_at HCs.out (by with_reducible rfl) (by with_reducible rfl) ?_;rintro e w2 ⟨rfl,L,hL1,hL2,hL3⟩;have HB2:Hid (Below w.heap.size w w2):=HB1.out.trans (hL3.below);have HOk:Hid (Calls Tryz.prog 9 #[.pointer (some ⟨w.heap.size,0,none⟩)] w2 fun e w3=>e=.returned (.bool (decide (0<=L)))/\w3=w2):=cok_any _ L w2 hL1;have HLt:Hid (0<=L->L+(wtS ds:Int)<=200000):=hL2;clear hL1 hL2 hL3 HCs HB1;go_wp2_with fail
  refine calls_at HOk.out (by with_reducible rfl) (by with_reducible rfl) ?_;rintro e w3 ⟨rfl,hw3⟩;rw [hw3];clear hw3 HOk
  by_cases hL:0<=L
  case neg=>
    rw [decide_eq_false hL];clear HLt;go_wp2_with fail
    go_ret;exact ⟨rfl,HB2.out⟩
  rw [decide_eq_true hL];have hwt:wtS ds<=200000:=by have:=HLt.out hL;omega
  have HWt:Hid (wtS ds<=200000):=hwt;have HTT:Hid (tot (ds.map lnT)<=9000000):=Nat.le_trans (txt_wt ds HI.out) (by omega);have hdl:ds.length<=200000:=Nat.le_trans (wts_count ds) hwt;have HPr:Hid (∀ d∈ds,∀ (w':World) (vo vp vl vi:Value),Below w.heap.size w w'->SlR w' d vo vp vl vi->Calls Tryz.prog 19 #[.agg (slC d vo vp vl vi)] w' (PrO d w')):=fun d hd w' vo vp vl vi hb hs=>print_any d vo vp vl vi w' hs (HI.out d hd) (by have:=lnW_len d (HI.out d hd);have:=wt_mem hd;omega) (HG.out w' hb) (HG.out w' hb).size
  have HRp:Hid (∀ d∈ds,∀ (w':World) (vo vp vl vi:Value),Below w.heap.size w w'->SlR w' d vo vp vl vi->Calls Tryz.prog 18 #[.agg (slC d vo vp vl vi)] w' (PrO d w')):=fun d hd w' vo vp vl vi hb hs=>rprint_any d vo vp vl vi w' hs (HI.out d hd) (by have:=sz_le d;have:=wt_mem hd;omega) (HG.out w' hb)
  have HFw:Hid (∀ d∈ds,Few1 d):=fun d hd=>few_of (Nat.le_trans (wt_mem hd) hwt)
  clear hwt HLt hL;go_wp2_with fail
  obtain ⟨W,hW⟩:∃ W,w2.alloc (.cells #[.slice none 0 0,.slice none 0 0,.slice none 0 0,.slice none 0 0,.slice none 0 0,.slice none 0 0,.slice none 0 0,.slice none 0 0,.slice none 0 0,.slice none 0 0,.slice none 0 0,.slice none 0 0,.slice none 0 0,.slice none 0 0,.slice none 0 0,.slice none 0 0,.slice none 0 0,.slice none 0 0,.slice none 0 0,.slice none 0 0,.slice none 0 0,.slice none 0 0,.slice none 0 0,.slice none 0 0,.slice none 0 0,.slice none 0 0,.slice none 0 0,.slice none 0 0] 65)=W:=⟨_,rfl⟩;rw [hW];have hbW:Below w2.heap.size w2 W:=by rw [<-hW];exact (Below.refl _ _).alloc (Nat.le_refl _) _
  have hR0:RoomG w2.heap.size w2.heap.size (lab0 w2.heap.size) 0 W:=by rw [<-hW];exact room_new w2 _ rfl
  have HLd:Hid (Calls Tryz.prog 17 #[.pointer (some ⟨w2.heap.size,0,none⟩),.slice a ds.length c] W (LaidT w2.heap.size w2.heap.size (lab0 w2.heap.size) 0 W ds 40)):=roomSteps_any _ _ _ _ _ ds W hR0 (st0_in (HS.out.below HB2.out) hbW (fun k hk=>by unfold lab0;rw [if_neg (by omega)])) HFw.out hdl (by decide);have HBW:Hid (Below w2.heap.size w2 W):=hbW;clear hW hbW hR0;refine calls_at HLd.out (by with_reducible rfl) (by with_reducible rfl) ?_;rintro e w3 ⟨⟨b,S2,he,hG3,hA3,hS3⟩⟩;obtain ⟨cp,hcp⟩:∃ cp,ds.length+40=cp:=⟨_,rfl⟩;rw [hcp] at he hS3;subst he;have HB3:Hid (Below w.heap.size w w3):=bl_next HB2.out (HBW.out.trans (hA3.below HBW.out.size (fun k hk=>by unfold lab0;rw [if_neg (by omega)])));have HRm:Hid (RoomG w2.heap.size w2.heap.size S2 (4*ds.length+1) w3):=by rw [Nat.zero_add] at hG3;exact hG3
  have HLe:Hid (StsR w3 (.slice (some ⟨b,0,none⟩) ds.length cp) ds):=hS3.now;clear hG3 hA3 hS3 hcp HLd HBW HFw;have HW3:Hid (Calls Tryz.prog 26 #[.slice a ds.length c] w3 (RwO ds w3)):=rwrite_any ds _ w3 (HS.out.below HB3.out) (by have:=HTT.out;omega) (by omega) fun d hd w' vo vp vl vi hb hs=>HRp.out d hd w' vo vp vl vi (bl_next HB3.out hb) hs
  go_wp2_with fail
  refine calls_at HW3.out (by with_reducible rfl) (by with_reducible rfl) ?_;intro e w4 h4;obtain ⟨T,n,m,rfl,hb4,hwt4⟩:=wt_of h4;have HB4:Hid (Below w3.heap.size w3 w4):=hb4;have HWT:Hid (∀ w1 e1 w2,WlO ds w1 e1 w2->WT T n m w1 e1 w2):=hwt4;clear h4 hb4 hwt4 HW3 HRp;obtain ⟨V,hV⟩:∃ V,w4.alloc (.cells #[.int .i64 n,.int .i64 m] 73)=V:=⟨_,rfl⟩;have hbV:Below w4.heap.size w4 V:=by rw [<-hV];exact (Below.refl _ _).alloc (Nat.le_refl _) _
  have gV:V.heap[w4.heap.size]?=some (.cells #[.int .i64 n,.int .i64 m] 73 (0,0)):=by rw [<-hV];exact heap_alloc_new w4 _
  have HGV:Hid (V.heap[w4.heap.size]?=some (.cells #[.int .i64 n,.int .i64 m] 73 (0,0))):=gV;have HVl:Hid (w4.heap.size<V.heap.size):=(Array.getElem?_eq_some_iff.1 gV).1;have HBV:Hid (Below w3.heap.size w3 V):=bl_next HB4.out hbV;have hNe:=fun W=>fl_neq n m W
  clear hbV gV;go_wp2_with fail
  clear hV;go_loopw [8] (fun iv wr=>∃ i:Nat,iv=.int .i64 (i:Int)/\i<=2/\Hid (Below V.heap.size V wr)) (fun iv _=>2-(intOf iv).toNat)
  case atStart=>exact ⟨0,rfl,Nat.zero_le _,Below.refl _ _⟩
  case round=>
    obtain ⟨i,rfl,hi,HBr⟩:=hrel;have HB3r:Hid (Below w3.heap.size w3 wr):=bl_next HBV.out HBr.out;have HBwr:Hid (Below w.heap.size w wr):=bl_next HB3.out HB3r.out
    by_cases hin:i<2
    · have hiI:(i:Int)<2:=by omega
      have HWl:Hid (Calls Tryz.prog 27 #[.slice (some ⟨b,0,none⟩) ds.length cp] wr (WT T n m wr)):=(wlog_any ds _ wr (HLe.out.below HB3r.out) (by have:=HTT.out;omega) (by omega) fun d hd w' vo vp vl vi hb hs=>HPr.out d hd w' vo vp vl vi (bl_next HBwr.out hb) hs).mono fun e w' h=>HWT.out wr e w' h
      go_wp2_with fail
      refine calls_at HWl.out (by with_reducible rfl) (by with_reducible rfl) ?_;rintro e w5 ⟨ev,rfl,hb5,hT5⟩;have HB5:Hid (Below V.heap.size V w5):=bl_next HBr.out hb5;have HT5:Hid (Calls Tryz.prog 23 #[ev] w5 (fun e w2=>e=.returned (.tuple #[.agg #[.int .i64 n,.int .i64 m],.bool true])/\Below w5.heap.size w5 w2)):=hT5;clear hb5 hT5 HWl;go_wp2_with fail
      refine calls_at HT5.out (by with_reducible rfl) (by with_reducible rfl) ?_;rintro e w6 ⟨rfl,hb6⟩;have HB6:Hid (Below V.heap.size V w6):=bl_next HB5.out hb6;clear hb6 HT5;obtain ⟨X,hX⟩:∃ X,w6.alloc (.cells #[.int .i64 n,.int .i64 m] 73)=X:=⟨_,rfl⟩;have hbX:Below w6.heap.size w6 X:=by rw [<-hX];exact (Below.refl _ _).alloc (Nat.le_refl _) _
      have gX:X.heap[w6.heap.size]?=some (.cells #[.int .i64 n,.int .i64 m] 73 (0,0)):=by rw [<-hX];exact heap_alloc_new w6 _
      have HBX:Hid (Below V.heap.size V X):=bl_next HB6.out hbX;have gY:=(HBX.out.block _ HVl.out).trans HGV.out;have x0:X.cell? ⟨w6.heap.size,0,none⟩=some (.int .i64 n):=cell_of gX 0;have x1:X.cell? ⟨w6.heap.size,1,none⟩=some (.int .i64 m):=cell_of gX 1;have y0:X.cell? ⟨w4.heap.size,0,none⟩=some (.int .i64 n):=cell_of gY 0;have y1:X.cell? ⟨w4.heap.size,1,none⟩=some (.int .i64 m):=cell_of gY 1;have hTT:(T.toList==T.toList)=true:=by simp
      have HSs:Hid (Calls Tryz.prog 24 #[.slice (some ⟨b,0,none⟩) ds.length cp,.slice a ds.length c] X fun e w'=>e=.returned (.bool true)/\Below X.heap.size X w'):=ssts_eq ds _ _ X (HLe.out.below (bl_next HBV.out HBX.out)) (HS.out.below (bl_next HB3.out (bl_next HBV.out HBX.out)));clear hbX gX gY;go_wp2_with fail
      refine calls_at HSs.out (by with_reducible rfl) (by with_reducible rfl) ?_;rintro e w7 ⟨rfl,hb7⟩;have HB7:Hid (Below V.heap.size V w7):=bl_next HBX.out hb7;clear hb7 HSs x0 x1 y0 y1 hX;go_wp2_with fail
      go_roundw
      case rel=>exact ⟨i+1,by go_num,hin,HB7⟩
      case measure=>simp [intOf];omega
    · have hiI:¬ (i:Int)<2:=by omega
      have HHo:Hid (Calls Tryz.prog 20 #[.pointer (some ⟨w2.heap.size,0,none⟩)] wr fun e w'=>e=.returned (.bool true)/\Below wr.heap.size wr w'):=hold_any _ _ _ _ wr (HRm.out.below HB3r.out) (by omega);go_wp2_with fail
      refine calls_at HHo.out (by with_reducible rfl) (by with_reducible rfl) ?_;rintro e w5 ⟨rfl,hb5⟩;have HB5:Hid (Below w.heap.size w w5):=bl_next HBwr.out hb5;clear hb5;go_wp2_with fail
      go_ret;exact ⟨rfl,HB5.out⟩
end Go.Proofs.YtpcijhecaedkpaaGreatDoor
