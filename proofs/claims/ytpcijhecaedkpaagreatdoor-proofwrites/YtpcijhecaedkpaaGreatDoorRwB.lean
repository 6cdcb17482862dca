import Derived.Test.YtpcijhecaedkpaaGreatDoorJ42
import Derived.Laws.BytesArg
namespace Go.Proofs.YtpcijhecaedkpaaGreatDoor
open Go.RowKit
set_option maxRecDepth 100000
set_option maxHeartbeats 8000000
theorem res_late {P:Program} {fn:Func} {p u:Tmp} {ty:TypeId} (h:fn.results=#[.tmp u,.cell p ty]) (tmps:Array Value) (w:World) (g:Nat) (t:TypeId) (cs:Array Value) (fr:Nat × Nat) (d:TypeDesc) (hp:tmps.getD p undef=.pointer (some ⟨g,0,none⟩)) (hg:w.heap[g]?=some (.cells cs t fr)) (hu:P.underlying ty=some d) (hd:(match d with | .struct _ | .array _ _=>true | _=>false)=true) (hi:(P.info? ty).map (·.size)=some cs.size):(results fn tmps).run P w=.ok (.tuple #[tmps.getD u undef,.agg cs]) w:=by
  have hp':tmps[p]?.getD undef=.pointer (some ⟨g,0,none⟩):=by simpa using hp
  simp [results,h,Result.andThen,hp',asAddr,run_loadVar_row w g t ty cs fr d hg hu hd hi]
def RwO (ds:List SL) (w:World) (e:Ending) (w':World):Prop:=Below w.heap.size w w'/\((e=.returned (.tuple #[.string (txtOf (txt (ds.map lnT))),.agg #[.int .i64 0,.int .i64 0]])/\∀ d∈ds,parseP (lnT d)=(d,0))∨∃ pre d post,ds=pre++d :: post/\(∀ x∈pre,parseP (lnT x)=(x,0))/\parseP (lnT d)≠(d,0)/\e=.returned (.tuple #[.string ⟨#[]⟩,.agg #[.int .i64 ((pre.length:Int)+1),.int .i64 83]]))
def RwI (ds:List SL) (V:World) (i:Nat) (fv:Value) (wr:World):Prop:=wr.ownsRow V.heap.size 5 1 fv (txt ((ds.take i).map lnT)).length (Lib.byteCells (txt ((ds.take i).map lnT)))/\Below V.heap.size V wr/\∀ d∈ds.take i,parseP (lnT d)=(d,0)
theorem rwrite_any (ds:List SL) (v:Value) (w:World) (hS:StsR w v ds) (hl:tot (ds.map lnT)<=900000000) (hn:ds.length<=900000000) (hP:∀ d∈ds,∀ (w':World) (vo vp vl vi:Value),Below w.heap.size w w'->SlR w' d vo vp vl vi->Calls Tryz.prog 18 #[.agg (slC d vo vp vl vi)] w' (PrO d w')):Calls Tryz.prog 26 #[v] w (RwO ds w):=by
  unfold RwO;obtain ⟨i0,hi0,hz0,hz1,hz2⟩:=Bd.byteInfo;obtain ⟨a,c,rfl,hn0,hC⟩:=id hS;have HS:Hid (StsR w (.slice a ds.length c) ds):=hS;have HL:Hid (tot (ds.map lnT)<=900000000):=hl;have HP:Hid (∀ d∈ds,∀ (w':World) (vo vp vl vi:Value),Below w.heap.size w w'->SlR w' d vo vp vl vi->Calls Tryz.prog 18 #[.agg (slC d vo vp vl vi)] w' (PrO d w')):=hP;clear hS hl hP hC;go_enter Tryz.func26,Tryz.ntmps26;go_wp2_with fail
  obtain ⟨V,hV⟩:∃ V,w.alloc (.cells #[.int .i64 0,.int .i64 0] 73)=V:=⟨_,rfl⟩;rw [hV];have hbV:Below w.heap.size w V:=by rw [<-hV];exact (Below.refl _ _).alloc (Nat.le_refl _) _
  have gV:V.heap[w.heap.size]?=some (.cells #[.int .i64 0,.int .i64 0] 73 (0,0)):=by rw [<-hV];exact heap_alloc_new w _
  have HVs:Hid (w.heap.size<V.heap.size):=(Array.getElem?_eq_some_iff.1 gV).1;have HBV:Hid (Below w.heap.size w V):=hbV;have HGV:Hid (V.heap[w.heap.size]?=some (.cells #[.int .i64 0,.int .i64 0] 73 (0,0))):=gV;have H0:Hid (RwI ds V 0 (.slice none 0 0) V):=⟨own_z _ _ _ _,Below.refl _ _,fun d hd=>absurd hd List.not_mem_nil⟩;clear hV hbV gV;go_loopw [4,5] (fun fv iv wr=>∃ i:Nat,iv=.int .i64 (i:Int)/\i<=ds.length/\Hid (RwI ds V i fv wr)) (fun _ iv _=>ds.length-(intOf iv).toNat)
  case atStart=>exact ⟨0,rfl,Nat.zero_le _,H0⟩
  case round=>
    obtain ⟨i,rfl,hi,HR⟩:=hrel;clear H0;obtain ⟨fa,fc,hfv⟩:=own_slice HR.out.1;subst hfv;have HBr:Hid (Below w.heap.size w wr):=HBV.out.trans (HR.out.2.1.mono HBV.out.size)
    by_cases hin:i<ds.length
    · have hiI:(i:Int)<(ds.length:Int):=by omega
      obtain ⟨a0,c0,e0,_,hC⟩:=HS.out.below HBr.out;obtain ⟨rfl,_,rfl⟩:a=a0/\ds.length=ds.length/\c=c0:=by simpa using e0
      obtain ⟨g,off,vo,vp,vl,vi,rfl,hgl,hsl,hce⟩:=hC i hin;have htk:=txt_take ds i hin;have htl:=tot_le ds i hin;have HPr:=HP.out ds[i] (List.getElem_mem hin);have hsp:ds=ds.take i++ds[i] :: ds.drop (i+1):=by rw [<-List.drop_eq_getElem_cons hin,List.take_append_drop]
      have htn:ds.take (i+1)=ds.take i++[ds[i]]:=List.take_succ_eq_append_getElem hin;obtain ⟨d,hd⟩:∃ d,ds[i]=d:=⟨_,rfl⟩;rw [hd] at hsl hce htk htl HPr hsp htn;have HSp:Hid (ds=ds.take i++d :: ds.drop (i+1)):=hsp;have HTn:Hid (ds.take (i+1)=ds.take i++[d]):=htn;obtain ⟨oa,oc,rfl,_,_⟩:=id hsl.o;obtain ⟨pa,pc,rfl,_,_⟩:=id hsl.p;obtain ⟨la,lc,rfl,_,_⟩:=id hsl.l;obtain ⟨ia,ic,rfl,_,_⟩:=id hsl.i;have q0:wr.cell? ⟨g,off+i*10,none⟩=some (.int .i64 d.k):=hce 0 (by omega);have q1:wr.cell? ⟨g,off+i*10+1,none⟩=some (.string (txtOf d.n)):=hce 1 (by omega);have q2:wr.cell? ⟨g,off+i*10+2,none⟩=some (.slice oa d.ops.length oc):=hce 2 (by omega);have q3:wr.cell? ⟨g,off+i*10+3,none⟩=some (.slice pa d.pcs.length pc):=hce 3 (by omega)
      have q4:wr.cell? ⟨g,off+i*10+4,none⟩=some (.string (txtOf d.deg)):=hce 4 (by omega);have q5:wr.cell? ⟨g,off+i*10+5,none⟩=some (.slice la d.lits.length lc):=hce 5 (by omega);have q6:wr.cell? ⟨g,off+i*10+6,none⟩=some (.slice ia d.ids.length ic):=hce 6 (by omega);have q7:wr.cell? ⟨g,off+i*10+7,none⟩=some (.int .i64 d.ends):=hce 7 (by omega);have q8:wr.cell? ⟨g,off+i*10+8,none⟩=some (.string (txtOf d.low)):=hce 8 (by omega);have q9:wr.cell? ⟨g,off+i*10+9,none⟩=some (.string (txtOf d.high)):=hce 9 (by omega)
      have HPc:Hid (Calls Tryz.prog 18 #[.agg #[.int .i64 d.k,.string (txtOf d.n),.slice oa d.ops.length oc,.slice pa d.pcs.length pc,.string (txtOf d.deg),.slice la d.lits.length lc,.slice ia d.ids.length ic,.int .i64 d.ends,.string (txtOf d.low),.string (txtOf d.high)]] wr (PrO d wr)):=HPr wr _ _ _ _ HBr.out hsl;have HTk:Hid (txt ((ds.take (i+1)).map lnT)=txt ((ds.take i).map lnT)++lnT d++[10]):=htk;have HTl:Hid ((txt ((ds.take i).map lnT)).length+(lnT d).length+1<=900000000):=Nat.le_trans htl HL.out;clear hce hsl HPr htk htl hsp htn hC hd hgl;unfold PrO at HPc
      by_cases hok:parseP (lnT d)=(d,0)
      · have HOk:Hid (parseP (lnT d)=(d,0)):=hok
        rw [prT_yes hok] at HPc;clear hok;obtain ⟨y,hy⟩:∃ y,lnT d=y:=⟨_,rfl⟩;rw [hy] at HPc HTk HTl;have HRo:=HR.out.1;obtain ⟨m,hm⟩:∃ m,txt ((ds.take i).map lnT)=m:=⟨_,rfl⟩;rw [hm] at HTk HTl HRo;obtain ⟨nm,hnm⟩:∃ nm,(txt ((ds.take i).map lnT)).length=nm:=⟨_,rfl⟩;rw [hnm];have HNm:Hid (m.length=nm):=by show _=_;rw [<-hm];exact hnm
        have HRw:Hid (wr.ownsRow V.heap.size 5 1 (.slice fa nm fc) nm (Lib.byteCells m)):=by
          have h:=HRo;rw [HNm.out] at h;exact h
        have HBw:Hid (Below V.heap.size V wr/\∀ d∈ds.take i,parseP (lnT d)=(d,0)):=HR.out.2;clear HR HRo hm hnm;go_wp2_with fail
        refine calls_at HPc.out (by with_reducible rfl) (by with_reducible rfl) ?_;rintro e w1 ⟨rfl,hb1⟩;have HB1:Hid (Below V.heap.size V w1):=HBw.out.1.trans (hb1.mono HBw.out.1.size);have hown:w1.ownsRow V.heap.size 5 1 (.slice fa nm fc) nm (Lib.byteCells m):=own_below HRw.out hb1;clear hb1 q0 q1 q2 q3 q4 q5 q6 q7 q8 q9;go_wp2_with (at_builtin;refine Lib.wpList_append_own_string _ rfl _ _ 123 9 rfl V.heap.size 5 i0 Tryz.underlying123 Tryz.underlying9 hi0 hz0 hz1 hz2 _ _ _ rfl hown (txtOf y) rfl ?c3 ?c4 ?c5 ?_)
        case c3=>have:=HTl.out;have:=HNm.out;rw [txt_size];unfold maxLen;omega
        case c4=>have:=HTl.out;have:=HNm.out;rw [txt_size];omega
        case c5=>exact HB1.out.size
        intro v2 w2 hown2 hgrow2 _;have HB2:Hid (Below V.heap.size V w2):=HB1.out.grown hgrow2 HB1.out.size (fun k hk=>(hown.lt k hk).1);have HO2:Hid (w2.ownsRow V.heap.size 5 1 v2 (m++y).length (Lib.byteCells (m++y))):=by
          have e:Lib.byteCells (m++y)=Lib.byteCells m++Lib.strCells (txtOf y):=by simp [Lib.byteCells,Lib.strCells,txt_list]
          show World.ownsRow _ _ _ _ _ _ _;rw [e,List.length_append,HNm.out];simpa [txt_size] using hown2
        clear hown hgrow2 hown2;obtain ⟨ya,yc,hyv⟩:=own_slice HO2.out;subst hyv;obtain ⟨ny,hny⟩:∃ ny,(m++y).length=ny:=⟨_,rfl⟩;have HNy:Hid ((m++y).length=ny):=hny;have HO3:Hid (w2.ownsRow V.heap.size 5 1 (.slice ya ny yc) ny (Lib.byteCells (m++y))):=by
          have:=HO2.out;rw [hny] at this;exact this
        rw [hny];have hown:w2.ownsRow V.heap.size 5 1 (.slice ya ny yc) ny (Lib.byteCells (m++y)):=HO3.out;clear hny HO2;go_wp2_with (at_builtin;refine wpList_append_own _ rfl _ _ 123 rfl V.heap.size 5 i0 (.int .u8 0) 1 1 Tryz.underlying123 hi0 hz0 hz1 hz2 rfl (by decide) _ _ _ rfl (hown.alloc _) ⟨w2.heap.size,0,none⟩ 1 1 [.int .u8 10] rfl rfl ?c1 ?c2 ?c3 ?c4 ?c5 ?_)
        case c1=>
          intro j u hj
          match j,hj with
          | 0,hj=>simp at hj;subst hj;simp [Addr.add]
        case c2=>intro u hu;simp at hu;subst hu;rfl
        case c3=>have:=HTl.out;have:=HNy.out;rw [List.length_append] at this;unfold maxLen;omega
        case c4=>have:=HTl.out;have:=HNy.out;rw [List.length_append] at this;omega
        case c5=>have:=HB2.out.size;simp;omega
        intro v3 w3 hown3 hgrow3 _;have H3:Hid (RwI ds V (i+1) v3 w3):=by
          have ha:Below V.heap.size V (w2.alloc (.cells #[.int .u8 10] 5)):=HB2.out.alloc HB2.out.size _;refine ⟨?_,ha.grown hgrow3 (by have:=HB2.out.size;simp;omega) (fun k hk=>(hown.lt k hk).1),fun x hx=>?_⟩
          · have e:Lib.byteCells (m++y++[10])=Lib.byteCells (m++y)++[.int .u8 10]:=by simp [Lib.byteCells]
            rw [HTk.out,e,List.length_append,HNy.out];exact hown3
          · rw [HTn.out] at hx
            rcases List.mem_append.1 hx with hx | hx
            · exact HBw.out.2 x hx
            · have:x=d:=by simpa using hx
              rw [this];exact HOk.out
        clear hown hown3 hgrow3;go_wp2_with fail
        go_roundw
        case rel=>exact ⟨i+1,by go_num,hin,H3⟩
        case measure=>simp [intOf];omega
      · have HNo:Hid (parseP (lnT d)≠(d,0)):=hok
        rw [prT_no hok] at HPc;clear hok;go_wp2_with fail
        refine calls_at HPc.out (by with_reducible rfl) (by with_reducible rfl) ?_;rintro e w1 ⟨rfl,hb1⟩;have HB1:Hid (Below V.heap.size V w1):=HR.out.2.1.trans (hb1.mono HR.out.2.1.size);have hwr:wrap64 ((i:Int)+1)=(i:Int)+1:=by unfold wrap64;omega
        have g1:w1.heap[w.heap.size]?=some (.cells #[.int .i64 0,.int .i64 0] 73 (0,0)):=(HB1.out.block _ HVs.out).trans HGV.out;have HG1:Hid (w1.heap[w.heap.size]?=some (.cells #[.int .i64 0,.int .i64 0] 73 (0,0))):=g1;have d0:=cell_of g1 0;have d1:=cell_of g1 1;have z0:=frozen_of g1 0;have z1:=frozen_of g1 1;dsimp at d0 d1;have hpl:(ds.take i).length=i:=by rw [List.length_take];omega
        have HPl:Hid ((ds.take i).length=i):=hpl;clear hb1 g1 hpl q0 q1 q2 q3 q4 q5 q6 q7 q8 q9;go_wp2_with fail
        refine bodyPost_ret (res_late rfl _ _ w.heap.size 73 _ (0,0) _ rfl (set_of (set_of HG1.out 0 _) 1 _) Tryz.underlying73 rfl info32) rfl ⟨((HBV.out.trans (HB1.out.mono HBV.out.size)).setCell (Nat.le_refl _) _).setCell (Nat.le_refl _) _,.inr ⟨ds.take i,d,ds.drop (i+1),HSp.out,HR.out.2.2,HNo.out,?_⟩⟩;rw [HPl.out];rfl
    · have hiI:¬ (i:Int)<(ds.length:Int):=by omega
      have hti:ds.take i=ds:=List.take_of_length_le (by omega);have HR':Hid (RwI ds V ds.length (.slice fa (txt ((ds.take i).map lnT)).length fc) wr):=by
        have:=HR.out;unfold RwI at this ⊢;rw [List.take_length];rw [hti] at this ⊢;exact this
      rw [hti] at HR' ⊢;have g1:wr.heap[w.heap.size]?=some (.cells #[.int .i64 0,.int .i64 0] 73 (0,0)):=(HR'.out.2.1.block _ HVs.out).trans HGV.out;have HG1:Hid (wr.heap[w.heap.size]?=some (.cells #[.int .i64 0,.int .i64 0] 73 (0,0))):=g1;have d0:=cell_of g1 0;have d1:=cell_of g1 1;have z0:=frozen_of g1 0;have z1:=frozen_of g1 1;dsimp at d0 d1;have hown:=HR'.out.1;have HOks:Hid (∀ d∈ds,parseP (lnT d)=(d,0)):=by
        have:=HR'.out.2.2;rw [List.take_length] at this;exact this
      rw [List.take_length] at hown;obtain ⟨t,ht⟩:∃ t,txt (ds.map lnT)=t:=⟨_,rfl⟩;rw [ht] at hown HR' ⊢;have hconv:(convert 123 9 (.slice fa t.length fc)).run Tryz.prog wr=.ok (.string (txtOf t)) wr:=by
        rcases hown.2 with ⟨hv,hn⟩ | ⟨g,cap,cur,hv,_⟩
        · have e:t=[]:=List.eq_nil_of_length_eq_zero hn
          have hv':fa=none:=by injection hv
          subst e hv';exact run_convert_bytes_nil (P:=Tryz.prog) wr 123 5 Tryz.underlying123 Tryz.underlying5 _ fc 9 Tryz.underlying9
        · have hv':fa=some ⟨g,0,none⟩:=by injection hv
          subst hv';exact run_convert_bytes_back (P:=Tryz.prog) wr 123 9 5 ⟨g,0,none⟩ fc t Tryz.underlying123 Tryz.underlying5 Tryz.underlying9 (fun j hj=>hown.cells (g:=g) rfl j _ (by simp [Lib.byteCells,hj]))
      have HBe:Hid (Below w.heap.size w wr):=HBr;clear g1 hti hown HR;go_wp2_with fail
      refine bodyPost_ret (res_late rfl _ _ w.heap.size 73 _ (0,0) _ rfl (set_of (set_of HG1.out 0 _) 1 _) Tryz.underlying73 rfl info32) rfl ⟨(HBe.out.setCell (Nat.le_refl _) _).setCell (Nat.le_refl _) _,.inl ⟨rfl,HOks.out⟩⟩
end Go.Proofs.YtpcijhecaedkpaaGreatDoor
