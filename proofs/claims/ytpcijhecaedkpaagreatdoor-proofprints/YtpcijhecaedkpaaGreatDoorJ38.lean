/-
  Put together: PfWr7, PfWr5, PfWr8, PfMa, PfMb, PfMc, PfMd, PfMe, PfMf, PfPrint, RsB, RsC.
-/
import Derived.Test.YtpcijhecaedkpaaGreatDoorJ37
import Derived.Test.YtpcijhecaedkpaaGreatDoorJ35
namespace Go.Proofs.YtpcijhecaedkpaaGreatDoor
open Go.RowKit
set_option maxRecDepth 10000
set_option maxHeartbeats 8000000
theorem opsT_take (L:List OpL) (i:Nat) (hi:i<L.length):opsT (L.take (i+1))=opsT (L.take i)++opT L[i]:=by
  unfold opsT;rw [List.take_succ_eq_append_getElem hi,List.flatMap_append];simp
theorem opsT_le (L:List OpL) (i:Nat) (hi:i<L.length):tot (opsT (L.take i))+tot (opT L[i])<=tot (opsT L):=by
  have e:opsT L=opsT (L.take (i+1))++opsT (L.drop (i+1)):=by
    unfold opsT;rw [<-List.flatMap_append,List.take_append_drop]
  rw [e,opsT_take L i hi,tot_app,tot_app];omega
theorem ops_wr {B b:Nat} {l:List UInt8} (d:SL) (vo vp vl vi:Value) (w:World) (h:PageAt B b l w) (hs:SlE B w d vo vp vl vi) (hr:∀ o∈d.ops,-9223372036854775808<=o.2.2/\o.2.2<=9223372036854775807) (hl:l.length+tot (opsT d.ops)<=900000000) (hBw:B<=w.heap.size) (hg:Gl w) (hB:12<=B):Calls Tryz.prog 159 #[.pointer (some ⟨b,0,none⟩),.agg (slC d vo vp vl vi)] w (WrO B b (wordsP (opsT d.ops) l) w):=by
  obtain ⟨W,hW⟩:∃ W,w.alloc (.cells (slC d vo vp vl vi) 51)=W:=⟨_,rfl⟩;have hbW:Below w.heap.size w W:=by rw [<-hW];exact (Below.refl _ _).alloc (Nat.le_refl _) _
  have HW:Hid (Kq B w W):=Kq.of_below hbW hBw;have HPW:Hid (PageAt B b l W):=page_below h hbW;have gW:W.heap[w.heap.size]?=some (.cells (slC d vo vp vl vi) 51 (0,0)):=by rw [<-hW];exact heap_alloc_new w _
  have HR:Hid (RdE B w vo d.ops.length (opsC d.ops)):=hs.o;have HG:Hid (Gl w):=hg;have HRg:Hid (∀ o∈d.ops,-9223372036854775808<=o.2.2/\o.2.2<=9223372036854775807):=hr;have HL:Hid (l.length+tot (opsT d.ops)<=900000000):=hl;have c2:=cell_of gW 2;obtain ⟨ao,co,rfl,hn,_⟩:=hs.o;obtain ⟨ap,cp,rfl,_,_⟩:=hs.p;obtain ⟨al,cl,rfl,_,_⟩:=hs.l;obtain ⟨ai,ci,rfl,_,_⟩:=hs.i;unfold slC at hW;simp only [slC] at c2;dsimp at c2;unfold WrO slC;clear h hs hg hr hl hbW gW;go_enter Tryz.func159,Tryz.ntmps159;go_wp2_with fail
  go_loopw [9] (fun iv wr=>∃ i:Nat,iv=.int .i64 (i:Int)/\i<=d.ops.length/\Hid (PageAt B b (wordsP (opsT (d.ops.take i)) l) wr/\Kq B w wr)) (fun iv _=>d.ops.length-(intOf iv).toNat)
  case atStart=>exact ⟨0,rfl,Nat.zero_le _,HPW.out,HW.out⟩
  case round=>
    obtain ⟨i,rfl,hi,HP⟩:=hrel
    by_cases hin:i<d.ops.length
    · have hiI:(i:Int)<(d.ops.length:Int):=by omega
      obtain ⟨g,off,rfl,hce⟩:=(HR.out.next HP.out.2).cell i hin;obtain ⟨p0,p1,p2⟩:=ops_get d.ops i hin;have d0:wr.cell? ⟨g,off+i*3,none⟩=some (.int .i64 d.ops[i].1):=hce _ _ p0;have d1:wr.cell? ⟨g,off+i*3+1,none⟩=some (.string (txtOf d.ops[i].2.1)):=hce _ _ p1;have d2:wr.cell? ⟨g,off+i*3+2,none⟩=some (.int .i64 d.ops[i].2.2):=hce _ _ p2;have hrg:=HRg.out d.ops[i] (List.getElem_mem hin);have HN0:=opsT_take d.ops i hin;have hle:=opsT_le d.ops i hin;obtain ⟨o,ho⟩:∃ o,d.ops[i]=o:=⟨_,rfl⟩;rw [ho] at d0 d1 d2 hrg HN0 hle;obtain ⟨k,n,z⟩:=o;obtain ⟨m,hm⟩:∃ m,wordsP (opsT (d.ops.take i)) l=m:=⟨_,rfl⟩;have HN:Hid (wordsP (opsT (d.ops.take (i+1))) l=wordsP (opT (k,n,z)) m):=by
        show _=_;rw [HN0,words_app,hm]
      have hml:m.length+tot (opT (k,n,z))<=900000000:=by
        have h1:=words_len (opsT (d.ops.take i)) l;have:=HL.out;rw [hm] at h1;omega
      have hBr:B<=wr.heap.size:=Nat.le_trans hBw HP.out.2.low.size;obtain ⟨X,hX⟩:∃ X,wr.alloc (.cells #[.int .i64 k,.string (txtOf n),.int .i64 z] 106)=X:=⟨_,rfl⟩;have hbX:Below wr.heap.size wr X:=by rw [<-hX];exact (Below.refl _ _).alloc (Nat.le_refl _) _
      have gX:X.heap[wr.heap.size]?=some (.cells #[.int .i64 k,.string (txtOf n),.int .i64 z] 106 (0,0)):=by rw [<-hX];exact heap_alloc_new wr _
      have HX:Hid (PageAt B b m X/\Kq B w X):=⟨by rw [<-hm];exact page_below HP.out.1 hbX,HP.out.2.trans (Kq.of_below hbX hBr)⟩;have HC:Hid (Calls Tryz.prog 231 #[.pointer (some ⟨b,0,none⟩),.agg #[.int .i64 k,.string (txtOf n),.int .i64 z]] X (WrO B b (wordsP (opT (k,n,z)) m) X)):=op_wr k n z X HX.out.1 hml hrg (Nat.le_trans hBw HX.out.2.low.size) (HG.out.kq HX.out.2 hB) hB;have e0:=cell_of gX 0;have e1:=cell_of gX 1;have e2:=cell_of gX 2;dsimp at e0 e1 e2;clear hbX gX HN0 hle hm hml hce p0 p1 p2 ho;go_wp2_with fail
      refine calls_at HC.out (by with_reducible rfl) (by with_reducible rfl) ?_;rintro e w2 ⟨rfl,hp2,hk2⟩;have H2:Hid (PageAt B b (wordsP (opsT (d.ops.take (i+1))) l) w2/\Kq B w w2):=⟨by rw [HN.out];exact hp2,HX.out.2.trans hk2⟩;clear hp2 hk2;go_wp2_with fail
      go_roundw
      case rel=>exact ⟨i+1,by go_num,hin,H2⟩
      case measure=>simp [intOf];omega
    · have hiI:¬ (i:Int)<(d.ops.length:Int):=by omega
      have HE:Hid (PageAt B b (wordsP (opsT d.ops) l) wr/\Kq B w wr):=by
        have:=HP.out;rw [List.take_of_length_le (by omega)] at this;exact this
      go_wp2_with fail
      go_end0;exact ⟨rfl,HE.out⟩
end Go.Proofs.YtpcijhecaedkpaaGreatDoor

namespace Go.Proofs.YtpcijhecaedkpaaGreatDoor
open Go.RowKit
set_option maxRecDepth 10000
set_option maxHeartbeats 8000000
def wrC (f:FuncId) (d:SL):List (List UInt8):=if f=263 then leanT d.ids else if f=265 then (d.low :: leanT d.ids)++[d.high] else if f=267 then d.high :: leanT d.ids else []
theorem tabC (k:Int):TabW claimsL wrC k where
  leaf:=by
    intro f hf _;simp only [claimsL,List.mem_cons,List.not_mem_nil,or_false] at hf;rcases hf with rfl | rfl | rfl | rfl | rfl
    · exact wrt_nothing
    · exact wrt_unsat
    · exact wrt_nothing
    · exact wrt_bounds
    · exact wrt_all
  few:=by decide
  ent:=by
    intro f hf;simp only [claimsL,List.mem_cons,List.not_mem_nil,or_false] at hf;rcases hf with rfl | rfl | rfl | rfl | rfl
    · exact Go.Proofs.enters_of Tryz.func155 (by kernel_rfl) rfl
    · exact Go.Proofs.enters_of Tryz.func263 (by kernel_rfl) rfl
    · exact Go.Proofs.enters_of Tryz.func155 (by kernel_rfl) rfl
    · exact Go.Proofs.enters_of Tryz.func265 (by kernel_rfl) rfl
    · exact Go.Proofs.enters_of Tryz.func267 (by kernel_rfl) rfl
theorem wrt_ends:Wrt 170 fun d=>kindT claimsL wrC d.ends d:=by
  intro B b l d vo vp vl vi w h hs hi hl hBw hg hB;obtain ⟨V,hV⟩:∃ V,w.alloc (.cells (slC d vo vp vl vi) 51)=V:=⟨_,rfl⟩;have hbV:Below w.heap.size w V:=by rw [<-hV];exact (Below.refl _ _).alloc (Nat.le_refl _) _
  have kV:Kq B w V.drew:=Kq.of_below hbV.drew hBw;have hBV:B<=V.drew.heap.size:=Nat.le_trans hBw kV.low.size;have hP:PageAt B b l V.drew:=page_below h hbV.drew;have HBx:Hid (∀ w',Kq B V.drew w'->w'.cell? ⟨w.heap.size,0,none⟩=some (.int .i64 d.k)/\w'.cell? ⟨w.heap.size,1,none⟩=some (.string (txtOf d.n))/\w'.cell? ⟨w.heap.size,2,none⟩=some (vo)/\w'.cell? ⟨w.heap.size,3,none⟩=some (vp)/\w'.cell? ⟨w.heap.size,4,none⟩=some (.string (txtOf d.deg))/\w'.cell? ⟨w.heap.size,5,none⟩=some (vl)/\w'.cell? ⟨w.heap.size,6,none⟩=some (vi)/\w'.cell? ⟨w.heap.size,7,none⟩=some (.int .i64 d.ends)/\w'.cell? ⟨w.heap.size,8,none⟩=some (.string (txtOf d.low))/\w'.cell? ⟨w.heap.size,9,none⟩=some (.string (txtOf d.high))):=fun w' k=>by
    have gB:=k.other _ _ _ _ (show V.drew.heap[w.heap.size]?=some (.cells (slC d vo vp vl vi) 51 (0,0)) by show V.heap[w.heap.size]?=_;rw [<-hV];exact heap_alloc_new w _) (by decide) (by decide);exact ⟨cell_of gB 0,cell_of gB 1,cell_of gB 2,cell_of gB 3,cell_of gB 4,cell_of gB 5,cell_of gB 6,cell_of gB 7,cell_of gB 8,cell_of gB 9⟩
  have HF:Hid (Calls Tryz.prog 240 #[] V.drew fun e w'=>e=.returned (.slice (some ⟨V.drew.heap.size,0,none⟩) 5 5)/\w'.heap[V.drew.heap.size]?=some (.cells (fmsC claimsL).toArray 226 (0,0))/\Below V.drew.heap.size V.drew w'):=(claims_any V.drew).mono fun e w' hq=>⟨hq.1,by rw [hq.2];exact heap_alloc_new V.drew _,by rw [hq.2];exact (Below.refl _ _).alloc (Nat.le_refl _) _⟩
  have HPk:Hid (∀ w',w'.heap[V.drew.heap.size]?=some (.cells (fmsC claimsL).toArray 226 (0,0))->Below V.drew.heap.size V.drew w'->Calls Tryz.prog 127 #[.pointer (some ⟨b,0,none⟩),.slice (some ⟨V.drew.heap.size,0,none⟩) 5 5,.int .i64 d.ends,.agg (slC d vo vp vl vi)] w' (WrO B b (wordsP (kindT claimsL wrC d.ends d) l) w')):=fun w' hg1 hb1=>by
    have k1:=kV.trans (Kq.of_below hb1 hBV);exact ppick_any d.ends (tabC d.ends) d vo vp vl vi w' (page_below hP hb1) hg1 (hs.next k1) hi hl (Nat.le_trans hBw k1.low.size) (hg.kq k1 hB) hB
  have HKV:Hid (Kq B w V.drew):=kV;obtain ⟨Z,hZ⟩:∃ Z,wordsP (kindT claimsL wrC d.ends d) l=Z:=⟨_,rfl⟩;rw [hZ] at HPk;unfold WrO;show Calls _ _ _ _ fun e w'=>e=_/\PageAt B b (wordsP (kindT claimsL wrC d.ends d) l) w'/\Kq B w w'
  rw [hZ];unfold slC at hV HPk;unfold slC;obtain ⟨ao,co,rfl,_,_⟩:=hs.o;obtain ⟨ap,cp,rfl,_,_⟩:=hs.p;obtain ⟨al,cl,rfl,_,_⟩:=hs.l;obtain ⟨ai,ci,rfl,_,_⟩:=hs.i;clear hs hi hl hg h hbV kV hP hZ;go_enter Tryz.func170,Tryz.ntmps170;go_wp2_with fail
  refine wp_region_T (fun w'=>w'.cell? ⟨w.heap.size,0,none⟩=some (.int .i64 d.k)/\w'.cell? ⟨w.heap.size,1,none⟩=some (.string (txtOf d.n))/\w'.cell? ⟨w.heap.size,2,none⟩=some (.slice ao d.ops.length co)/\w'.cell? ⟨w.heap.size,3,none⟩=some (.slice ap d.pcs.length cp)/\w'.cell? ⟨w.heap.size,4,none⟩=some (.string (txtOf d.deg))/\w'.cell? ⟨w.heap.size,5,none⟩=some (.slice al d.lits.length cl)/\w'.cell? ⟨w.heap.size,6,none⟩=some (.slice ai d.ids.length ci)/\w'.cell? ⟨w.heap.size,7,none⟩=some (.int .i64 d.ends)/\w'.cell? ⟨w.heap.size,8,none⟩=some (.string (txtOf d.low))/\w'.cell? ⟨w.heap.size,9,none⟩=some (.string (txtOf d.high))) (fun _=>True) [] (by kernel_rfl) ⟨HBx.out _ (Kq.refl _ _),trivial⟩ (fun hHeld=>?_);clear hV;generalize V.drew=U at hHeld HBx HF HPk HKV hBV ⊢
  refine wpAnyT_takeB (i:=0) (oi:=⟨some 4,.move (.tmp 0),_,_,_,_⟩) (v:=?v0) rfl (by kernel_rfl) (by kernel_rfl) (by kernel_rfl) (by kernel_rfl) (fun _ _ _ h=>h) (Or.inl ⟨by rfl,?hy0⟩) (by assumption) ?rest0
  case hy0=>(intro w hSw;(try dsimp only at hSw);obtain ⟨s0,s1,s2,s3,s4,s5,s6,s7,s8,s9⟩:=hSw;go_simp;try (with_reducible rfl))
  try simp only [Act.put,List.setIfInBounds_toArray,List.set_cons_zero,List.set_cons_succ]
  refine wpAnyT_takeB (i:=2) (oi:=⟨some 6,.fieldAddr 51 (.tmp 3) 6,_,_,_,_⟩) (v:=?v2) rfl (by kernel_rfl) (by kernel_rfl) (by kernel_rfl) (by kernel_rfl) (fun _ _ _ h=>h) (Or.inl ⟨by rfl,?hy2⟩) (by assumption) ?rest2
  case hy2=>(intro w hSw;(try dsimp only at hSw);obtain ⟨s0,s1,s2,s3,s4,s5,s6,s7,s8,s9⟩:=hSw;go_simp;try (with_reducible rfl))
  try simp only [Act.put,List.setIfInBounds_toArray,List.set_cons_zero,List.set_cons_succ]
  refine wpAnyT_takeB (i:=3) (oi:=⟨some 7,.load 3 (.tmp 6),_,_,_,_⟩) (v:=?v3) rfl (by kernel_rfl) (by kernel_rfl) (by kernel_rfl) (by kernel_rfl) (fun _ _ _ h=>h) (Or.inl ⟨by rfl,?hy3⟩) (by assumption) ?rest3
  case hy3=>(intro w hSw;(try dsimp only at hSw);obtain ⟨s0,s1,s2,s3,s4,s5,s6,s7,s8,s9⟩:=hSw;go_simp;try (with_reducible rfl))
  try simp only [Act.put,List.setIfInBounds_toArray,List.set_cons_zero,List.set_cons_succ]
  refine wpAnyT_takeB (i:=4) (oi:=⟨some 8,.load 51 (.tmp 3),_,_,_,_⟩) (v:=?v4) rfl (by kernel_rfl) (by kernel_rfl) (by kernel_rfl) (by kernel_rfl) (fun _ _ _ h=>h) (Or.inl ⟨by rfl,?hy4⟩) (by assumption) ?rest4
  case hy4=>(intro w hSw;(try dsimp only at hSw);obtain ⟨s0,s1,s2,s3,s4,s5,s6,s7,s8,s9⟩:=hSw;go_simp;try (with_reducible rfl))
  try simp only [Act.put,List.setIfInBounds_toArray,List.set_cons_zero,List.set_cons_succ]
  clear hHeld;refine wpAnyT_one (i:=1) (o:=⟨some 5,.call { callee:=.value (.func 240),args:=#[],argTypes:=#[] },_,_,_,_⟩) (by kernel_rfl) rfl (fun K hK=>?_);go_simp;refine calls_at HF.out (by with_reducible rfl) (by with_reducible rfl) ?_;rintro e w1 ⟨rfl,hg1,hb1⟩;have H1:Hid (w1.heap[U.heap.size]?=some (.cells (fmsC claimsL).toArray 226 (0,0))/\Below U.heap.size U w1):=⟨hg1,hb1⟩;clear hg1 hb1;go_wp2_with fail
  refine hK.out _ _ ⟨HBx.out _ (Kq.of_below H1.out.2 hBV),fun _=>trivial⟩ ?_;clear hK K;try simp only [Act.put,List.setIfInBounds_toArray,List.set_cons_zero,List.set_cons_succ]
  refine wpAnyT_one (i:=5) (o:=⟨some 9,.call { callee:=.value (.func 127),args:=#[(.tmp 4),(.tmp 5),(.tmp 7),(.tmp 8)],argTypes:=#[189,144,3,51] },_,_,_,_⟩) (by kernel_rfl) rfl (fun K hK=>?_);go_simp;refine calls_at (HPk.out w1 H1.out.1 H1.out.2) (by with_reducible rfl) (by with_reducible rfl) ?_;rintro e w2 ⟨rfl,hp2,hk2⟩;have H2:Hid (PageAt B b Z w2/\Kq B U w2):=⟨hp2,(Kq.of_below H1.out.2 hBV).trans hk2⟩;clear hp2 hk2;go_wp2_with fail
  refine hK.out _ _ ⟨HBx.out _ H2.out.2,fun _=>trivial⟩ ?_;clear hK K;try simp only [Act.put,List.setIfInBounds_toArray,List.set_cons_zero,List.set_cons_succ]
  refine wpAnyT_done (by kernel_rfl) ?_ _;go_wp2_with fail
  go_end0;exact ⟨rfl,H2.out.1,HKV.out.trans H2.out.2⟩
end Go.Proofs.YtpcijhecaedkpaaGreatDoor

namespace Go.Proofs.YtpcijhecaedkpaaGreatDoor
open Go.RowKit
theorem wrt_ops:Wrt 159 fun d=>opsT d.ops:=fun _ _ _ d vo vp vl vi w h hs hi hl hBw hg hB=>ops_wr d vo vp vl vi w h hs hi.o hl hBw hg hB
def wrF (f:FuncId) (d:SL):List (List UInt8):=
  if f=157 then [d.n] else if f=159 then opsT d.ops else if f=161 then rowT d.pcs d.deg++d.ids else if f=163 then d.ids++rowT d.pcs d.deg
  else if f=165 then d.lits.map litT else if f=167 then d.ids else if f=170 then kindT claimsL wrC d.ends d else []
theorem tabF (k:Int):TabW formsL wrF k where
  leaf:=by
    intro f hf _;simp only [formsL,List.mem_cons,List.not_mem_nil,or_false] at hf;rcases hf with rfl | rfl | rfl | rfl | rfl | rfl | rfl | rfl | rfl | rfl | rfl | rfl
    · exact wrt_nothing
    · exact wrt_size
    · exact wrt_ops
    · exact wrt_rup
    · exact wrt_equal
    · exact wrt_lits
    · exact wrt_lits
    · exact wrt_del
    · exact wrt_nothing
    · exact wrt_nothing
    · exact wrt_ends
    · exact wrt_nothing
  few:=by decide
  ent:=by
    intro f hf;simp only [formsL,List.mem_cons,List.not_mem_nil,or_false] at hf;rcases hf with rfl | rfl | rfl | rfl | rfl | rfl | rfl | rfl | rfl | rfl | rfl | rfl
    · exact Go.Proofs.enters_of Tryz.func155 (by kernel_rfl) rfl
    · exact Go.Proofs.enters_of Tryz.func157 (by kernel_rfl) rfl
    · exact Go.Proofs.enters_of Tryz.func159 (by kernel_rfl) rfl
    · exact Go.Proofs.enters_of Tryz.func161 (by kernel_rfl) rfl
    · exact Go.Proofs.enters_of Tryz.func163 (by kernel_rfl) rfl
    · exact Go.Proofs.enters_of Tryz.func165 (by kernel_rfl) rfl
    · exact Go.Proofs.enters_of Tryz.func165 (by kernel_rfl) rfl
    · exact Go.Proofs.enters_of Tryz.func167 (by kernel_rfl) rfl
    · exact Go.Proofs.enters_of Tryz.func155 (by kernel_rfl) rfl
    · exact Go.Proofs.enters_of Tryz.func155 (by kernel_rfl) rfl
    · exact Go.Proofs.enters_of Tryz.func170 (by kernel_rfl) rfl
    · exact Go.Proofs.enters_of Tryz.func155 (by kernel_rfl) rfl
def lnW (d:SL):List (List UInt8):=kindT formsL wrF d.k d
def lnT (d:SL):List UInt8:=wordsP (lnW d) []
end Go.Proofs.YtpcijhecaedkpaaGreatDoor

namespace Go.Proofs.YtpcijhecaedkpaaGreatDoor
open Go.RowKit
def Tk:List UInt8->List (List UInt8)->Prop
  | r,[]=>r.dropWhile blk=[]
  | r,x :: L=>r.dropWhile blk≠[]/\(r.dropWhile blk).take (wlen (r.dropWhile blk))=x/\Tk ((r.dropWhile blk).drop (wlen (r.dropWhile blk))) L
def Pw (x:List UInt8):Prop:=x≠[]/\∀ c∈x,blk c=false
theorem drop_le (r:List UInt8):(r.dropWhile blk).length<=r.length:=(List.dropWhile_sublist _).length_le
theorem tk_all:∀ (n:Nat) (r:List UInt8),r.length<=n->∃ L,Tk r L:=by
  intro n
  induction n with
  | zero =>
    intro r hr;have:r=[]:=List.length_eq_zero_iff.1 (by omega);subst this;exact ⟨[],rfl⟩
  | succ n ih =>
    intro r hr
    by_cases h:r.dropWhile blk=[]
    · exact ⟨[],h⟩
    · have hp:=wlen_pos h
      have hl:=wlen_le (r.dropWhile blk);have hd:=drop_le r;obtain ⟨L,hL⟩:=ih ((r.dropWhile blk).drop (wlen (r.dropWhile blk))) (by rw [List.length_drop];omega);exact ⟨_ :: L,h,rfl,hL⟩
theorem tk_of (r:List UInt8):∃ L,Tk r L:=tk_all r.length r (Nat.le_refl _)
theorem takeW (q:List UInt8):q.take (wlen q)=q.takeWhile fun c=>!blk c:=by
  unfold wlen
  conv=>lhs;arg 2;rw [<-List.takeWhile_append_dropWhile (p:=fun c=>!blk c) (l:=q)]
  rw [List.take_left]
theorem dropW (q:List UInt8):q.drop (wlen q)=q.dropWhile fun c=>!blk c:=by
  unfold wlen
  conv=>lhs;arg 2;rw [<-List.takeWhile_append_dropWhile (p:=fun c=>!blk c) (l:=q)]
  rw [List.drop_left]
theorem tk_words:∀ (L:List (List UInt8)) (r:List UInt8),Tk r L->∀ x∈L,Pw x/\∀ c∈x,c∈r:=by
  intro L
  induction L with
  | nil=>intro r _ x hx;exact absurd hx List.not_mem_nil
  | cons y L ih =>
    intro r h x hx;obtain ⟨h1,h2,h3⟩:=h;rw [takeW] at h2;rw [dropW] at h3;rcases List.mem_cons.1 hx with rfl | hx
    · refine ⟨⟨?_,?_⟩,?_⟩
      · intro e
        have:=wlen_pos h1;unfold wlen at this;rw [h2,e] at this;exact absurd this (Nat.lt_irrefl _)
      · intro c hc
        rw [<-h2] at hc;have:=List.all_eq_true.1 (List.all_takeWhile (l:=r.dropWhile blk) (p:=fun c=>!blk c)) c hc;simpa using this
      · intro c hc
        rw [<-h2] at hc;exact (List.dropWhile_sublist _).subset ((List.takeWhile_sublist _).subset hc)
    · obtain ⟨h4,h5⟩:=ih _ h3 x hx
      exact ⟨h4,fun c hc=>(List.dropWhile_sublist _).subset ((List.dropWhile_sublist _).subset (h5 c hc))⟩
theorem tk_len:∀ (L:List (List UInt8)) (r:List UInt8),Tk r L->tot L<=(r.dropWhile blk).length+1/\(L=[]∨r.dropWhile blk≠[]):=by
  intro L
  induction L with
  | nil=>intro r _;exact ⟨by simp [tot],.inl rfl⟩
  | cons x L ih =>
    intro r h;obtain ⟨h1,h2,h3⟩:=h;obtain ⟨h4,h5⟩:=ih _ h3;refine ⟨?_,.inr h1⟩;have hx:x.length=wlen (r.dropWhile blk):=by rw [<-h2,List.length_take];have:=wlen_le (r.dropWhile blk);omega
    have e:tot (x :: L)=x.length+1+tot L:=by simp [tot]
    obtain ⟨q,hq⟩:∃ q,(r.dropWhile blk)=q:=⟨_,rfl⟩;rw [hq] at h4 h5 hx ⊢;have hl:=wlen_le q;rcases h5 with rfl | h5
    · rw [e];simp [tot];omega
    · have hd:(q.drop (wlen q)).length=q.length-wlen q:=List.length_drop
      have hb:((q.drop (wlen q)).dropWhile blk).length+1<=(q.drop (wlen q)).length:=by
        rw [dropW] at h5 ⊢
        cases hc:q.dropWhile fun c=>!blk c with
        | nil=>rw [hc] at h5;exact absurd rfl h5
        | cons c t =>
          have hbc:blk c=true:=by
            have:=List.head_dropWhile_not (fun c=>!blk c) (l:=q) (by rw [hc];simp);simp only [hc,List.head_cons] at this;simpa using this
          rw [List.dropWhile_cons_of_pos hbc];have:=drop_le t;simp;omega
      rw [e];omega
def spW (L:List (List UInt8)):List UInt8:=L.flatMap fun x=>32 :: x
theorem words_sp:∀ (L:List (List UInt8)) (l:List UInt8),l≠[]->wordsP L l=l++spW L:=by
  intro L
  induction L with
  | nil=>intro l _;simp [wordsP,spW]
  | cons x L ih =>
    intro l hl;have h0:0<l.length:=List.length_pos_iff.2 hl;have:wordsP (x :: L) l=wordsP L (l++32 :: x):=by
      show wordsP L (wordP l x)=_;unfold wordP;rw [if_pos h0]
    rw [this,ih _ (by simp)];simp [spW]
theorem words_first (x:List UInt8) (L:List (List UInt8)) (hx:x≠[]):wordsP (x :: L) []=x++spW L:=by
  have:wordsP (x :: L) []=wordsP L x:=by
    show wordsP L (wordP [] x)=_;simp [wordP]
  rw [this,words_sp L x hx]
theorem sp_head (L:List (List UInt8)):spW L=[]∨∃ t,spW L=32 :: t:=by
  cases L with
  | nil=>exact .inl rfl
  | cons x L=>exact .inr ⟨x++spW L,by simp [spW]⟩
theorem tk_app (x:List UInt8) (L:List (List UInt8)) (hx:Pw x) (t:List UInt8) (ht:t=[]∨∃ u,t=32 :: u) (h:Tk t L):Tk (x++t) (x :: L):=by
  have hd:(x++t).dropWhile blk=x++t:=by
    cases x with
    | nil=>exact absurd rfl hx.1
    | cons c x=>rw [List.cons_append,List.dropWhile_cons_of_neg];rw [hx.2 c List.mem_cons_self];decide
  have hw:wlen (x++t)=x.length:=by
    unfold wlen;rw [List.takeWhile_append_of_pos (fun c hc=>by rw [hx.2 c hc];rfl)];rcases ht with rfl | ⟨u,rfl⟩
    · simp
    · rw [List.takeWhile_cons_of_neg (by decide)]
      simp
  refine ⟨?_,?_,?_⟩
  · rw [hd];simp [hx.1]
  · rw [hd,hw,List.take_left]
  · rw [hd,hw,List.drop_left];exact h
theorem tk_blank (t:List UInt8) (L:List (List UInt8)) (h:Tk t L):Tk (32 :: t) L:=by
  have hd:(32 :: t).dropWhile blk=t.dropWhile blk:=List.dropWhile_cons_of_pos (by decide)
  cases L with
  | nil=>show _=_;rw [hd];exact h
  | cons x L=>exact ⟨by rw [hd];exact h.1,by rw [hd];exact h.2.1,by rw [hd];exact h.2.2⟩
theorem tk_sp:∀ L:List (List UInt8),(∀ x∈L,Pw x)->Tk (spW L) L:=by
  intro L
  induction L with
  | nil=>intro _;rfl
  | cons x L ih =>
    intro h;have e:spW (x :: L)=32 :: (x++spW L):=by simp [spW]
    rw [e];exact tk_blank _ _ (tk_app x L (h x List.mem_cons_self) _ (sp_head L) (ih fun y hy=>h y (List.mem_cons_of_mem _ hy)))
theorem tk_line (x:List UInt8) (L:List (List UInt8)) (h:∀ y∈x :: L,Pw y):Tk (wordsP (x :: L) []) (x :: L):=by
  rw [words_first x L (h x List.mem_cons_self).1];exact tk_app x L (h x List.mem_cons_self) _ (sp_head L) (tk_sp L fun y hy=>h y (List.mem_cons_of_mem _ hy))
theorem tk_take {r x:List UInt8} {L:List (List UInt8)} (h:Tk r (x :: L)):∃ r',takeP (r,none)=((x,true),(r',none))/\Tk r' L:=by
  refine ⟨(r.dropWhile blk).drop (wlen (r.dropWhile blk)),?_,h.2.2⟩;unfold takeP;rw [if_neg (by simp [h.1])];simp only [h.2.1]
theorem tk_stop {r:List UInt8} (h:Tk r []):takeP (r,none)=(([],false),(r,none)):=by
  unfold takeP;rw [if_pos (.inr h)]
theorem take_bad {s:Ls} (h:s.2.isSome=true):takeP s=(([],false),s):=by
  unfold takeP;rw [if_pos (.inl h)]
theorem fail_bad {e:Int} {s:Ls} (h:s.2.isSome=true):failP e s=s:=by
  unfold failP
  split
  · rename_i h0;rw [h0] at h;cases h
  · rfl
theorem next_bad {s:Ls} (h:s.2.isSome=true):nextP s=([],s):=by
  unfold nextP;rw [take_bad h];simp [fail_bad h]
theorem tk_next {r x:List UInt8} {L:List (List UInt8)} (h:Tk r (x :: L)):∃ r',nextP (r,none)=(x,(r',none))/\Tk r' L:=by
  obtain ⟨r',h1,h2⟩:=tk_take h;refine ⟨r',?_,h2⟩;unfold nextP;rw [h1];simp
theorem next_end {r:List UInt8} (h:Tk r []):(nextP (r,none)).2.2.isSome=true:=by
  unfold nextP;rw [tk_stop h];simp [failP]
theorem none_some {α:Type} {o:Option α} (h:o=none) (h':o.isSome=true):False:=by rw [h] at h';cases h'
theorem next_ok {s:Ls} {L:List (List UInt8)} (h:Tk s.1 L) (hn:(nextP s).2.2=none):∃ x M r',L=x :: M/\nextP s=(x,(r',none))/\Tk r' M/\s.2=none:=by
  obtain ⟨r,o⟩:=s
  cases o with
  | some e=>rw [next_bad rfl] at hn;cases hn
  | none =>
    cases L with
    | nil=>exact (none_some hn (next_end h)).elim
    | cons x M =>
      obtain ⟨r',h1,h2⟩:=tk_next h;exact ⟨x,M,r',rfl,h1,h2,rfl⟩
theorem whole_ok {x:List UInt8} {g:Int} {s:Ls} (h:(wholeP x g s).2=none):badN x g=false/\wholeP x g s=s/\s.2=none:=by
  unfold wholeP at h ⊢
  cases hb:badN x g with
  | true=>rw [hb,if_pos rfl] at h;exact (none_some h (fail_some _ _)).elim
  | false=>rw [hb] at h;exact ⟨rfl,by simp,by simpa using h⟩
theorem whole_yes {x:List UInt8} {g:Int} {s:Ls} (h:badN x g=false):wholeP x g s=s:=by
  unfold wholeP;rw [h];simp
theorem literal_ok {x:List UInt8} {s:Ls} (h:(literalP x s).2=none):(litP x).2=true/\literalP x s=s/\s.2=none:=by
  unfold literalP at h ⊢
  cases hb:(litP x).2 with
  | false=>rw [hb] at h;exact (none_some (by simpa using h) (fail_some 81 s)).elim
  | true=>rw [hb] at h;exact ⟨rfl,by simp,by simpa using h⟩
theorem literal_yes {x:List UInt8} {s:Ls} (h:(litP x).2=true):literalP x s=s:=by
  unfold literalP;rw [h];simp
theorem must_ok {x:List UInt8} {s:Ls} {L:List (List UInt8)} (h:Tk s.1 L) (hn:(mustP x s).2=none):∃ M r',L=x :: M/\mustP x s=(r',none)/\Tk r' M/\s.2=none:=by
  have hn0:=hn;unfold mustP at hn
  split at hn
  · rename_i he
    obtain ⟨y,M,r',h1,h2,h3,h4⟩:=next_ok h hn;refine ⟨M,r',?_,?_,h3,h4⟩
    · rw [h1];rw [h2] at he;simp at he;rw [he]
    · unfold mustP;rw [if_pos he,h2]
  · exact (none_some hn (fail_some _ _)).elim
theorem must_yes {x r:List UInt8} {L:List (List UInt8)} (h:Tk r (x :: L)):∃ r',mustP x (r,none)=(r',none)/\Tk r' L:=by
  obtain ⟨r',h1,h2⟩:=tk_next h;exact ⟨r',by unfold mustP;rw [h1];simp,h2⟩
theorem end_ok {s:Ls} {L:List (List UInt8)} (h:Tk s.1 L) (hn:(endP s).2=none):L=[]/\s.2=none:=by
  obtain ⟨r,o⟩:=s
  cases o with
  | some e=>unfold endP at hn;rw [take_bad rfl] at hn;cases hn
  | none =>
    cases L with
    | nil=>exact ⟨rfl,rfl⟩
    | cons x M =>
      obtain ⟨r',h1,_⟩:=tk_take h;unfold endP at hn;rw [h1] at hn;simp [failP] at hn
theorem end_yes {r:List UInt8} (h:Tk r []):endP (r,none)=(r,none):=by
  unfold endP;rw [tk_stop h];simp
theorem lst_bad {rd:List UInt8->Ls->Ls} {n:Nat} {s:Ls} (h:s.2.isSome=true):lstP rd n s=([],s):=by
  cases n with
  | zero=>rfl
  | succ n=>rw [lst_stop (x:=[]) (by rw [take_bad h]),take_bad h]
theorem lst_ok {rd:List UInt8->Ls->Ls} {ok:List UInt8->Prop} (hrd:∀ x s,(rd x s).2=none->ok x/\rd x s=s):∀ (L:List (List UInt8)) (n:Nat) (r:List UInt8),Tk r L->L.length<n->(lstP rd n (r,none)).2.2=none->(∀ x∈L,ok x)/\∃ r',lstP rd n (r,none)=(L,(r',none))/\Tk r' []:=by
  intro L
  induction L with
  | nil =>
    intro n r h hn h0;obtain ⟨n,rfl⟩:∃ m,n=m+1:=⟨n-1,by simp at hn;omega⟩;refine ⟨fun x hx=>absurd hx List.not_mem_nil,r,?_,h⟩;rw [lst_stop (x:=[]) (by rw [tk_stop h]),tk_stop h]
  | cons x L ih =>
    intro n r h hn h0;obtain ⟨n,rfl⟩:∃ m,n=m+1:=⟨n-1,by simp at hn;omega⟩;obtain ⟨r',h1,h2⟩:=tk_take h;have e:lstP rd (n+1) (r,none)=(x :: (lstP rd n (rd x (r',none))).1,(lstP rd n (rd x (r',none))).2):=by rw [lst_more (x:=x) (by rw [h1]),h1]
    rw [e] at h0;have hb:(rd x (r',none)).2=none:=by
      cases hs:(rd x (r',none)).2 with
      | none=>rfl
      | some z=>rw [lst_bad (by rw [hs];rfl)] at h0;simp only [] at h0;rw [hs] at h0;cases h0
    obtain ⟨k1,k2⟩:=hrd x _ hb;rw [k2] at h0 e;obtain ⟨a1,r2,a2,a3⟩:=ih n r' h2 (by simp at hn;omega) h0;refine ⟨fun y hy=>?_,r2,by rw [e,a2],a3⟩;rcases List.mem_cons.1 hy with rfl | hy
    · exact k1
    · exact a1 y hy
theorem lst_yes {rd:List UInt8->Ls->Ls} {ok:List UInt8->Prop} (hrd:∀ x s,ok x->rd x s=s):∀ (L:List (List UInt8)) (n:Nat) (r:List UInt8),Tk r L->L.length<n->(∀ x∈L,ok x)->∃ r',lstP rd n (r,none)=(L,(r',none))/\Tk r' []:=by
  intro L
  induction L with
  | nil =>
    intro n r h hn h0;obtain ⟨n,rfl⟩:∃ m,n=m+1:=⟨n-1,by simp at hn;omega⟩;refine ⟨r,?_,h⟩;rw [lst_stop (x:=[]) (by rw [tk_stop h]),tk_stop h]
  | cons x L ih =>
    intro n r h hn h0;obtain ⟨n,rfl⟩:∃ m,n=m+1:=⟨n-1,by simp at hn;omega⟩;obtain ⟨r',h1,h2⟩:=tk_take h;have e:lstP rd (n+1) (r,none)=(x :: (lstP rd n (rd x (r',none))).1,(lstP rd n (rd x (r',none))).2):=by rw [lst_more (x:=x) (by rw [h1]),h1]
    rw [hrd x _ (h0 x List.mem_cons_self)] at e;obtain ⟨r2,a2,a3⟩:=ih n r' h2 (by simp at hn;omega) fun y hy=>h0 y (List.mem_cons_of_mem _ hy)
    exact ⟨r2,by rw [e,a2],a3⟩
theorem tk_count {r:List UInt8} {L:List (List UInt8)} (h:Tk r L):L.length<=r.length:=by
  have h1:=tk_len L r h;have h2:=tk_words L r h;have h3:∀ M:List (List UInt8),(∀ x∈M,Pw x)->M.length*2<=tot M:=by
    intro M
    induction M with
    | nil=>intro _;simp
    | cons x M ih =>
      intro hM;have h5:=List.length_pos_iff.2 (hM x List.mem_cons_self).1;have h4:=ih fun y hy=>hM y (List.mem_cons_of_mem _ hy)
      have e:tot (x :: M)=x.length+1+tot M:=by simp [tot]
      rw [e,List.length_cons];omega
  have h4:=h3 L fun x hx=>(h2 x hx).1
  have h5:=drop_le r;rcases h1.2 with rfl | h6
  · simp
  · have:=List.length_pos_iff.2 h6
    omega
theorem list_ok {rd:List UInt8->Ls->Ls} {ok:List UInt8->Prop} (hrd:∀ x s,(rd x s).2=none->ok x/\rd x s=s) {s:Ls} {L:List (List UInt8)} (h:Tk s.1 L) (hn:(listP rd s).2.2=none):(∀ x∈L,ok x)/\(∃ r',listP rd s=(L,(r',none))/\Tk r' [])/\s.2=none:=by
  obtain ⟨r,o⟩:=s;unfold listP at hn ⊢
  cases o with
  | some e=>rw [lst_bad rfl] at hn;cases hn
  | none =>
    have:=lst_ok hrd L _ r h (by have:=tk_count h;simp at this ⊢;omega) hn;exact ⟨this.1,this.2,rfl⟩
theorem list_yes {rd:List UInt8->Ls->Ls} {ok:List UInt8->Prop} (hrd:∀ x s,ok x->rd x s=s) {r:List UInt8} {L:List (List UInt8)} (h:Tk r L) (ho:∀ x∈L,ok x):∃ r',listP rd (r,none)=(L,(r',none))/\Tk r' []:=by
  unfold listP;exact lst_yes hrd L _ r h (by have:=tk_count h;simp at this ⊢;omega) ho
end Go.Proofs.YtpcijhecaedkpaaGreatDoor

namespace Go.Proofs.YtpcijhecaedkpaaGreatDoor
open Go.RowKit
theorem dval_pos {l:List UInt8} (h:sizeB l=true):1<=dval l:=by
  have h1:l≠[]/\l.head?≠some 48/\l.all isDig=true:=by
    unfold sizeB at h;simp only [Bool.and_eq_true,Bool.not_eq_true',bne_iff_ne,ne_eq] at h;exact ⟨fun e=>by rw [e] at h;simp at h,h.1.2,h.2⟩
  cases l with
  | nil=>exact absurd rfl h1.1
  | cons c l =>
    have hc:isDig c=true:=by have:=h1.2.2;simp at this;exact this.1
    have hc8:c≠48:=fun e=>h1.2.1 (by rw [e];rfl)
    have hn:1<=c.toNat-48:=by
      unfold isDig at hc;have:=of_decide_eq_true hc;have h8:c.toNat≠48:=fun e=>hc8 (UInt8.toNat_inj.1 (by rw [e];rfl))
      omega
    have key:∀ (t:List UInt8) (a:Nat),1<=a->1<=t.foldl (fun n c=>10*n+(c.toNat-48)) a:=by
      intro t
      induction t with
      | nil=>intro a ha;exact ha
      | cons d t ih =>
        intro a ha;have h0:1<=10*a+(d.toNat-48):=by omega
        exact ih _ h0
    unfold dval;rw [List.foldl_cons];exact key l _ (by omega)
theorem dec_back:∀ (n:Nat) (l:List UInt8),l.length<=n->sizeB l=true->Lib.decDigits (dval l)=l:=by
  intro n
  induction n with
  | zero =>
    intro l hl h;have:l=[]:=List.length_eq_zero_iff.1 (by omega);subst this
    cases h
  | succ n ih =>
    intro l hl h;rcases List.eq_nil_or_concat l with rfl | ⟨t,c,rfl⟩
    · cases h
    · have h0:=h
      unfold sizeB at h;simp only [Bool.and_eq_true,Bool.not_eq_true',bne_iff_ne,ne_eq,List.concat_eq_append,List.all_append,List.all_cons,List.all_nil,Bool.and_true] at h;have hc:isDig c=true:=h.2.2;unfold isDig at hc;have hcn:=of_decide_eq_true hc;have hb:UInt8.ofNat (48+(c.toNat-48))=c:=by
        have:48+(c.toNat-48)=c.toNat:=by omega
        rw [this];simp
      rw [List.concat_eq_append,dval_snoc]
      by_cases ht:t=[]
      · subst ht
        rw [Lib.decDigits,dif_pos (by show 10*0+(c.toNat-48)<10;omega)];show [UInt8.ofNat (48+(10*0+(c.toNat-48)))]=_;rw [Nat.mul_zero,Nat.zero_add,hb];rfl
      · have hs:sizeB t=true:=by
          unfold sizeB;simp only [Bool.and_eq_true,Bool.not_eq_true',bne_iff_ne,ne_eq];refine ⟨⟨by simp [ht],fun e=>h.1.2 ?_⟩,h.2.1⟩
          cases t with
          | nil=>exact absurd rfl ht
          | cons d t=>simpa using e
        have hp:=dval_pos hs;have e1:(10*dval t+(c.toNat-48)) / 10=dval t:=by omega
        have e2:(10*dval t+(c.toNat-48)) % 10=c.toNat-48:=by omega
        rw [Lib.decDigits,dif_neg (by omega),e1,e2,hb,ih t (by simp at hl;omega) hs]
def Gw (x:List UInt8):Prop:=x≠[]/\∀ c∈x,blk c=false/\c≠10
theorem Gw.pw {x:List UInt8} (h:Gw x):Pw x:=⟨h.1,fun c hc=>(h.2 c hc).1⟩
theorem dig_good {c:UInt8} (h:isDig c=true):blk c=false/\c≠10:=by
  unfold isDig at h;have:=of_decide_eq_true h;have key:∀ k:UInt8,k.toNat<48->c≠k:=fun k hk e=>by rw [e] at this;omega
  refine ⟨?_,key 10 (by decide)⟩;unfold blk;simp [key 32 (by decide),key 9 (by decide)]
theorem dig_not {c:UInt8} (h:isDig c=true) (k:UInt8) (hk:k.toNat<48):c≠k:=fun e=>by
  unfold isDig at h;have:=of_decide_eq_true h;rw [e] at this;omega
theorem parse_good {x:List UInt8} (h:(parseZ x).isSome=true):Gw x/\∀ c∈x,c=45∨isDig c=true:=by
  have h1:x=[48]∨sizeB (digitsOf x)=true:=by
    unfold parseZ at h
    split at h
    · assumption
    · cases h
  have key:x≠[]/\∀ c∈x,c=45∨isDig c=true:=by
    rcases h1 with rfl | h1
    · exact ⟨by decide,fun c hc=>by simp at hc;subst hc;exact .inr (by decide)⟩
    · have h2:(digitsOf x)≠[]/\∀ c∈digitsOf x,isDig c=true:=by
        unfold sizeB at h1;simp only [Bool.and_eq_true,Bool.not_eq_true',List.all_eq_true] at h1;exact ⟨fun e=>by rw [e] at h1;simp at h1,h1.2⟩
      cases x with
      | nil=>exact absurd rfl h2.1
      | cons c x =>
        refine ⟨by simp,fun d hd=>?_⟩
        by_cases hc:c=45
        · subst hc
          have e:digitsOf (45 :: x)=x:=by simp [digitsOf,Lib.trimPrefix,Lib.hasPrefix,List.isPrefixOf]
          rw [e] at h2;rcases List.mem_cons.1 hd with rfl | hd
          · exact .inl rfl
          · exact .inr (h2.2 d hd)
        · have e:digitsOf (c :: x)=c :: x:=by
            unfold digitsOf Lib.trimPrefix Lib.hasPrefix;rw [if_neg];simp [List.isPrefixOf];exact fun e=>hc e.symm
          rw [e] at h2;exact .inr (h2.2 d hd)
  refine ⟨⟨key.1,fun c hc=>?_⟩,key.2⟩;rcases key.2 c hc with rfl | h3
  · decide
  · exact dig_good h3
theorem bad_parse {x:List UInt8} {g:Int} (h:badN x g=false):(parseZ x).isSome=true:=by
  unfold badN at h
  cases hp:parseZ x with
  | none=>rw [hp] at h;simp at h
  | some z=>rfl
theorem bad_good {x:List UInt8} {g:Int} (h:badN x g=false):Gw x:=(parse_good (bad_parse h)).1
theorem bad_not {x:List UInt8} {g:Int} (h:badN x g=false) (k:UInt8) (hk:k≠45/\isDig k=false) (t:List UInt8):x≠k :: t:=fun e=>by
  have:=(parse_good (bad_parse h)).2 k (by rw [e];exact List.mem_cons_self);rcases this with h1 | h1
  · exact hk.1 h1
  · rw [hk.2] at h1;cases h1
theorem lit_word {y:List UInt8} (h:(litP y).2=true):∃ ds,sizeB ds=true/\1<=dval ds/\dval ds<=1073741824/\((y=120 :: ds/\(litP y).1=(dval ds:Int))∨(y=126 :: 120 :: ds/\(litP y).1=-(dval ds:Int))):=by
  unfold litP at h ⊢;obtain ⟨u,hu⟩:∃ u,Lib.trimPrefix y [126]=u:=⟨_,rfl⟩;rw [hu] at h ⊢
  by_cases hx:Lib.hasPrefix u [120]=true
  · rw [if_pos hx] at h ⊢
    obtain ⟨ds,hds⟩:∃ ds,Lib.trimPrefix u [120]=ds:=⟨_,rfl⟩;rw [hds] at h ⊢
    by_cases hv:1<=smallV ((parseZ ds).getD 0)/\smallV ((parseZ ds).getD 0)<=1073741824
    · rw [if_pos hv] at h ⊢
      have hu2:u=120 :: ds:=by
        cases u with
        | nil=>cases hx
        | cons c u =>
          have:c=120:=by unfold Lib.hasPrefix at hx;simp [List.isPrefixOf] at hx;exact hx.symm
          subst this;rw [<-hds];simp [Lib.trimPrefix,Lib.hasPrefix,List.isPrefixOf]
      obtain ⟨z,hz⟩:∃ z,parseZ ds=some z:=by
        cases hp:parseZ ds with
        | none=>rw [hp] at hv;exact absurd hv.1 (by decide)
        | some z=>exact ⟨z,rfl⟩
      rw [hz] at hv ⊢;simp only [Option.getD_some] at hv ⊢;have hsz:smallV z=z:=by
        unfold smallV at hv ⊢
        split
        · rfl
        · rename_i h0;rw [if_neg h0] at hv;exact absurd hv.1 (by decide)
      rw [hsz] at hv ⊢;have hp:=hz;unfold parseZ at hp
      split at hp
      · rename_i hc
        have hp':=Option.some.inj hp
        cases hm:minus ds with
        | true =>
          rw [hm] at hp';unfold sg at hp';simp at hp';omega
        | false =>
          rw [hm] at hp';have hdd:digitsOf ds=ds:=by
            unfold minus at hm;unfold digitsOf Lib.trimPrefix;rw [if_neg (by rw [hm];decide)]
          rw [hdd] at hp' hc;unfold sg at hp';simp at hp';have hs:sizeB ds=true:=by
            rcases hc with rfl | hc
            · have:dval [48]=0:=rfl
              rw [this] at hp';omega
            · exact hc
          refine ⟨ds,hs,by omega,by omega,?_⟩
          by_cases hy:Lib.hasPrefix y [126]=true
          · right
            refine ⟨?_,by simp [hy];omega⟩
            cases y with
            | nil=>cases hy
            | cons c y =>
              have:c=126:=by unfold Lib.hasPrefix at hy;simp [List.isPrefixOf] at hy;exact hy.symm
              subst this;have:Lib.trimPrefix (126 :: y) [126]=y:=by simp [Lib.trimPrefix,Lib.hasPrefix,List.isPrefixOf]
              rw [this] at hu;rw [hu,hu2]
          · left
            refine ⟨?_,by simp [hy];omega⟩;have:Lib.trimPrefix y [126]=y:=by unfold Lib.trimPrefix;rw [if_neg hy]
            rw [this] at hu;rw [hu,hu2]
      · cases hp
    · rw [if_neg hv] at h;cases h
  · rw [if_neg hx] at h;cases h
theorem size_head {ds:List UInt8} (h:sizeB ds=true):Lib.hasPrefix ds [45]=false:=by
  cases ds with
  | nil=>rfl
  | cons c ds =>
    have hc:isDig c=true:=by unfold sizeB at h;simp at h;exact h.2.1
    have:=dig_not hc 45 (by decide);unfold Lib.hasPrefix;simp [List.isPrefixOf];exact fun e=>this e.symm
theorem lit_back {y:List UInt8} (h:(litP y).2=true):litT (litP y).1=y:=by
  obtain ⟨ds,h1,h2,h3,h4⟩:=lit_word h;have hd:=dec_back ds.length ds (Nat.le_refl _) h1;have hh:=size_head h1;rcases h4 with ⟨rfl,h5⟩ | ⟨rfl,h5⟩
  · rw [h5]
    have e:Lib.itoa (dval ds:Int)=ds:=by unfold Lib.itoa;rw [if_neg (by omega),Int.toNat_natCast,hd]
    unfold litT;rw [e,hh];simp [Lib.trimPrefix,hh]
  · rw [h5]
    have e:Lib.itoa (-(dval ds:Int))=45 :: ds:=by
      unfold Lib.itoa;rw [if_pos (by omega)];have:(-(dval ds:Int)).natAbs=dval ds:=by omega
      rw [this,hd]
    unfold litT;rw [e];simp [Lib.trimPrefix,Lib.hasPrefix,List.isPrefixOf]
def okLi (n:Int):Prop:=litP (litT n)=(n,true)
theorem lit_ok {y:List UInt8} (h:(litP y).2=true):okLi (litP y).1:=by
  unfold okLi;rw [lit_back h,<-h]
theorem okLi.good {n:Int} (h:okLi n):Gw (litT n)/\-1073741824<=n/\n<=1073741824/\∃ t,litT n=120 :: t∨litT n=126 :: t:=by
  unfold okLi at h;have h2:(litP (litT n)).2=true:=by rw [h]
  obtain ⟨ds,h1,h3,h4,h5⟩:=lit_word h2;have h6:∀ c∈ds,blk c=false/\c≠10:=by
    unfold sizeB at h1;simp only [Bool.and_eq_true,List.all_eq_true] at h1;exact fun c hc=>dig_good (h1.2 c hc)
  rcases h5 with ⟨e,h7⟩ | ⟨e,h7⟩
  · rw [h] at h7
    simp only [] at h7;refine ⟨?_,by omega,by omega,⟨_,.inl e⟩⟩;rw [e];refine ⟨by simp,fun c hc=>?_⟩;rcases List.mem_cons.1 hc with rfl | hc
    · decide
    · exact h6 c hc
  · rw [h] at h7
    simp only [] at h7;refine ⟨?_,by omega,by omega,⟨_,.inr e⟩⟩;rw [e];refine ⟨by simp,fun c hc=>?_⟩;rcases List.mem_cons.1 hc with rfl | hc
    · decide
    · rcases List.mem_cons.1 hc with rfl | hc
      · decide
      · exact h6 c hc
theorem okLi.two {n:Int} (h:okLi n):(litP (litT n)).2=true/\(litP (litT n)).1=n:=by
  unfold okLi at h;rw [h];exact ⟨rfl,rfl⟩
theorem whole_bad {x:List UInt8} {g:Int} {s:Ls} (h:s.2.isSome=true):wholeP x g s=s:=by
  unfold wholeP
  split
  · exact fail_bad h
  · rfl
theorem literal_bad {x:List UInt8} {s:Ls} (h:s.2.isSome=true):literalP x s=s:=by
  unfold literalP
  split
  · rfl
  · exact fail_bad h
theorem must_bad {x:List UInt8} {s:Ls} (h:s.2.isSome=true):mustP x s=s:=by
  unfold mustP;rw [next_bad h];simp [fail_bad h]
theorem row_bad {n:Nat} {x:List UInt8} {s:Ls} (h:s.2.isSome=true):rowL n x s=([],s):=by
  cases n with
  | zero=>rfl
  | succ n=>exact rowL_stop (.inr h)
theorem rowP_bad {s:Ls} (h:s.2.isSome=true):(rowP s).2=s:=by
  unfold rowP;rw [next_bad h];simp only [];rw [row_bad h];simp only [];rw [next_bad h];simp only [];rw [whole_bad h,must_bad h]
theorem list_bad {rd:List UInt8->Ls->Ls} {s:Ls} (h:s.2.isSome=true):listP rd s=([],s):=lst_bad h
theorem oper_bad {x:List UInt8} {s:Ls} (h:s.2.isSome=true):(operP x s).2=s:=by
  unfold operP
  split
  · rfl
  · unfold operS
    split
    · simp only [];rw [fail_bad h,whole_bad h]
    · exact whole_bad h
theorem turn_bad {fr tk:Int} {A:List OpL} {s:Ls} (h:s.2.isSome=true):(turnP fr tk A s).2=s:=by
  unfold turnP
  split
  · exact fail_bad h
  · split
    · rfl
    · exact fail_bad h
theorem op_bad {x:List UInt8} {A:List OpL} {s:Ls} (h:s.2.isSome=true):(opP x A s).2=s:=by
  unfold opP
  repeat' split
  all_goals first | rfl | exact turn_bad h | exact oper_bad h
theorem lops_bad:∀ (n:Nat) (A:List OpL) (s:Ls),s.2.isSome=true->(lopsP n A s).2=s:=by
  intro n A s h
  cases n with
  | zero=>rfl
  | succ n=>rw [lops_stop (x:=[]) (by rw [take_bad h]),take_bad h]
theorem opsP_bad {s:Ls} (h:s.2.isSome=true):(opsP s).2=s:=by
  unfold opsP;rw [next_bad h];simp only [];have:=op_bad (x:=[]) (A:=[]) h;rw [this];exact lops_bad _ _ _ h
def okPc (o:PcL):Prop:=badN o.1 (-1)=false/\okLi o.2
theorem rowL_ok:∀ (n:Nat) (x r:List UInt8) (L:List (List UInt8)),Tk r L->L.length<n->(rowL n x (r,none)).2.2=none->x≠[62,61]->∃ P L2 r',x :: L=pcsT P++[62,61] :: L2/\(∀ o∈P,okPc o)/\rowL n x (r,none)=(P,(r',none))/\Tk r' L2:=by
  intro n
  induction n with
  | zero=>intro x r L _ h;exact absurd h (Nat.not_lt_zero _)
  | succ n ih =>
    intro x r L hT hn h0 hx;have hc:¬ (x=[62,61]∨((r,none):Ls).2.isSome=true):=by rintro (h | h);exact hx h;cases h
    have e:=rowL_more (n:=n) hc;rw [e] at h0;simp only [] at h0;have hb:(nextP (pcB x (r,none))).2.2=none:=by
      cases hs:(nextP (pcB x (r,none))).2.2 with
      | none=>rfl
      | some z=>rw [row_bad (by rw [hs];rfl)] at h0;simp only [] at h0;rw [hs] at h0;cases h0
    have hb1:(pcB x (r,none)).2=none:=by
      cases hs:(pcB x (r,none)).2 with
      | none=>rfl
      | some z=>rw [next_bad (by rw [hs];rfl)] at hb;simp only [] at hb;rw [hs] at hb;cases hb
    have hb2:=hb1;unfold pcB at hb2;obtain ⟨k1,k2,k3⟩:=literal_ok hb2;have hA:(pcA x (r,none)).2=none:=by
      cases hs:(pcA x (r,none)).2 with
      | none=>rfl
      | some z=>rw [next_bad (by rw [hs];rfl)] at k3;simp only [] at k3;rw [hs] at k3;cases k3
    have hA2:=hA;unfold pcA at hA2;obtain ⟨a1,a2,_⟩:=whole_ok hA2;have ePA:pcA x (r,none)=(r,none):=a2;rw [ePA] at k3 k2;obtain ⟨y,M,r1,c1,c2,c3,_⟩:=next_ok (s:=(r,none)) hT k3;have ePY:pcY x (r,none)=y:=by unfold pcY;rw [ePA,c2]
    have ePB:pcB x (r,none)=(r1,none):=by unfold pcB;rw [ePA,k2,c2]
    rw [ePY] at k1;rw [ePB] at hb;obtain ⟨z,M2,r2,d1,d2,d3,_⟩:=next_ok (s:=(r1,none)) c3 hb;rw [ePY,ePB,d2] at e;rw [ePB,d2] at h0;simp only [] at e h0;have hyz:pcsT [(x,(litP y).1)]=[x,y]:=by simp [pcsT,lit_back k1]
    have hpc:okPc (x,(litP y).1):=⟨a1,lit_ok k1⟩
    by_cases hz:z=[62,61]
    · have hn1:1<=n:=by rw [c1,d1] at hn;simp at hn;omega
      obtain ⟨m,rfl⟩:∃ m,n=m+1:=⟨n-1,by omega⟩;have es:rowL (m+1) z (r2,none)=([],(r2,none)):=rowL_stop (.inl hz);refine ⟨[(x,(litP y).1)],M2,r2,?_,?_,?_,d3⟩
      · rw [hyz,c1,d1,hz];rfl
      · intro o ho;simp at ho;rw [ho];exact hpc
      · rw [e,es]
    · obtain ⟨P,L2,r',g1,g2,g3,g4⟩:=ih z r2 M2 d3 (by rw [c1,d1] at hn;simp at hn;omega) h0 hz
      refine ⟨(x,(litP y).1) :: P,L2,r',?_,?_,?_,g4⟩
      · have:pcsT ((x,(litP y).1) :: P)=[x,y]++pcsT P:=by rw [<-hyz];simp [pcsT]
        rw [this,c1,d1,g1];simp
      · intro o ho
        rcases List.mem_cons.1 ho with rfl | ho
        · exact hpc
        · exact g2 o ho
      · rw [e,g3]
theorem rowL_yes:∀ (P:List PcL) (n:Nat) (x r:List UInt8) (L L2:List (List UInt8)),Tk r L->P.length<n->x :: L=pcsT P++[62,61] :: L2->(∀ o∈P,okPc o)->∃ r',rowL n x (r,none)=(P,(r',none))/\Tk r' L2:=by
  intro P
  induction P with
  | nil =>
    intro n x r L L2 hT hn hx _;obtain ⟨m,rfl⟩:∃ m,n=m+1:=⟨n-1,by simp at hn;omega⟩;simp [pcsT] at hx;exact ⟨r,rowL_stop (.inl hx.1),by rw [<-hx.2];exact hT⟩
  | cons o P ih =>
    intro n x r L L2 hT hn hx ho;obtain ⟨m,rfl⟩:∃ m,n=m+1:=⟨n-1,by simp at hn;omega⟩;have e1:pcsT (o :: P)=[o.1,litT o.2]++pcsT P:=by simp [pcsT]
    rw [e1] at hx;simp at hx;obtain ⟨hx1,hx2⟩:=hx;obtain ⟨hb,hl⟩:=ho o List.mem_cons_self;have hne:x≠[62,61]:=by rw [hx1];exact bad_not hb 62 (by decide) [61]
    have e:=rowL_more (n:=m) (x:=x) (s:=(r,none)) (by rintro (h | h);exact hne h;cases h);have ePA:pcA x (r,none)=(r,none):=by unfold pcA;rw [hx1];exact whole_yes hb
    rw [hx2] at hT;obtain ⟨r1,c2,c3⟩:=tk_next hT;have ePY:pcY x (r,none)=litT o.2:=by unfold pcY;rw [ePA,c2]
    have ePB:pcB x (r,none)=(r1,none):=by unfold pcB;rw [ePY,ePA,c2];exact literal_yes hl.two.1
    obtain ⟨z,M2,hz⟩:∃ z M2,pcsT P++[62,61] :: L2=z :: M2:=by
      cases hq:pcsT P++[62,61] :: L2 with
      | nil=>simp at hq
      | cons z M2=>exact ⟨z,M2,rfl⟩
    rw [hz] at c3;obtain ⟨r2,d2,d3⟩:=tk_next c3;rw [ePY,ePB,d2,hl.two.2] at e;simp only [] at e;obtain ⟨r',g1,g2⟩:=ih m z r2 M2 L2 d3 (by simp at hn;omega) hz.symm fun o' h'=>ho o' (List.mem_cons_of_mem _ h')
    exact ⟨r',by rw [e,g1,hx1],g2⟩
theorem row_ok {s:Ls} {L:List (List UInt8)} (h:Tk s.1 L) (hn:(rowP s).2.2=none):∃ P deg L2 r',L=rowT P deg++L2/\(∀ o∈P,okPc o)/\badN deg (-1)=false/\rowP s=((P,deg),(r',none))/\Tk r' L2/\s.2=none:=by
  have hs:s.2=none:=by
    cases hs:s.2 with
    | none=>rfl
    | some z=>rw [rowP_bad (by rw [hs];rfl),hs] at hn;cases hn
  obtain ⟨r,o⟩:=s;simp only [] at hs;subst hs;have hn0:=hn;unfold rowP at hn;simp only [] at hn;obtain ⟨R,hR⟩:∃ R,rowL (r.length+3) (nextP (r,none)).1 (nextP (r,none)).2=R:=⟨_,rfl⟩;rw [hR] at hn;have w1:(wholeP (nextP R.2).1 (-1) (nextP R.2).2).2=none:=by
    cases hs:(wholeP (nextP R.2).1 (-1) (nextP R.2).2).2 with
    | none=>rfl
    | some z=>rw [must_bad (by rw [hs];rfl),hs] at hn;cases hn
  obtain ⟨w2,w3,w4⟩:=whole_ok w1;have hR2:R.2.2=none:=by
    cases hs:R.2.2 with
    | none=>rfl
    | some z=>rw [next_bad (by rw [hs];rfl)] at w4;simp only [] at w4;rw [hs] at w4;cases w4
  have hn1:(nextP (r,none)).2.2=none:=by
    cases hs:(nextP (r,none)).2.2 with
    | none=>rfl
    | some z=>rw [row_bad (by rw [hs];rfl)] at hR;rw [<-hR] at hR2;simp only [] at hR2;rw [hs] at hR2;cases hR2
  obtain ⟨x,M,r1,c1,c2,c3,_⟩:=next_ok (s:=(r,none)) h hn1;rw [c2] at hR;simp only [] at hR;have key:∃ P L2 r2,x :: M=pcsT P++[62,61] :: L2/\(∀ o∈P,okPc o)/\R=(P,(r2,none))/\Tk r2 L2:=by
    by_cases hx:x=[62,61]
    · rw [rowL_stop (n:=r.length+2) (.inl hx)] at hR
      exact ⟨[],M,r1,by rw [hx];rfl,fun o ho=>absurd ho List.not_mem_nil,hR.symm,c3⟩
    · obtain ⟨P,L2,r2,g1,g2,g3,g4⟩:=rowL_ok (r.length+3) x r1 M c3 (by have:=tk_count h;rw [c1] at this;simp at this;omega) (by rw [hR];exact hR2) hx
      exact ⟨P,L2,r2,g1,g2,by rw [<-hR,g3],g4⟩
  obtain ⟨P,L2,r2,g1,g2,g3,g4⟩:=key;rw [g3] at w4 w3 w2 hn;simp only [] at w4 w3 w2 hn;obtain ⟨deg,M2,r3,d1,d2,d3,_⟩:=next_ok (s:=(r2,none)) g4 w4;rw [w3] at hn;rw [d2] at hn w2 w3;simp only [] at hn w2 w3;obtain ⟨M3,r4,f1,f2,f3,_⟩:=must_ok (s:=(r3,none)) d3 hn;refine ⟨P,deg,M3,r4,?_,g2,w2,?_,f3,rfl⟩
  · rw [c1,g1,d1,f1]
    simp [rowT]
  · unfold rowP
    rw [c2];simp only [];rw [hR,g3];simp only [];rw [d2];simp only [];rw [w3,f2]
theorem row_yes {r:List UInt8} {P:List PcL} {deg:List UInt8} {L2:List (List UInt8)} (h:Tk r (rowT P deg++L2)) (hP:∀ o∈P,okPc o) (hd:badN deg (-1)=false):∃ r',rowP (r,none)=((P,deg),(r',none))/\Tk r' L2:=by
  have e0:rowT P deg++L2=pcsT P++[62,61] :: (deg :: [59] :: L2):=by simp [rowT]
  rw [e0] at h;obtain ⟨x,M,hx⟩:∃ x M,pcsT P++[62,61] :: (deg :: [59] :: L2)=x :: M:=by
    cases hq:pcsT P++[62,61] :: (deg :: [59] :: L2) with
    | nil=>simp at hq
    | cons z M2=>exact ⟨z,M2,rfl⟩
  have hc:=tk_count h;have hpl:P.length<=(pcsT P).length:=by
    clear h hP e0 hx hc
    induction P with
    | nil=>simp
    | cons o P ih=>simp [pcsT] at ih ⊢;omega
  rw [hx] at h;obtain ⟨r1,c2,c3⟩:=tk_next h;obtain ⟨r2,g1,g2⟩:=rowL_yes P (r.length+3) x r1 M _ c3 (by simp at hc;omega) hx.symm hP;obtain ⟨r3,d2,d3⟩:=tk_next g2;obtain ⟨r4,f2,f3⟩:=must_yes d3;refine ⟨r4,?_,f3⟩;unfold rowP;simp only [];rw [c2];simp only [];rw [g1];simp only [];rw [d2];simp only [];rw [whole_yes hd,f2]
end Go.Proofs.YtpcijhecaedkpaaGreatDoor

namespace Go.Proofs.YtpcijhecaedkpaaGreatDoor
open Go.RowKit
def opW (x:List UInt8) (A:List OpL):Option (List OpL):=if (opP x A ([],none)).2.2=none then some (opP x A ([],none)).1 else none
theorem fail_at (e:Int) (r:List UInt8):failP e (r,none)=(r,some e):=rfl
theorem whole_at (x:List UInt8) (g:Int) (r:List UInt8) (o:Option Int):wholeP x g (r,o)=(r,(wholeP x g ([],o)).2):=by
  unfold wholeP failP
  split
  · cases o <;> rfl
  · rfl
theorem oper_at (x:List UInt8) (r:List UInt8):operP x (r,none)=((operP x ([],none)).1,(r,(operP x ([],none)).2.2)):=by
  unfold operP operS
  split
  · rfl
  · split
    · rw [fail_at,fail_at,whole_at]
    · rw [whole_at]
theorem turn_at (fr tk:Int) (A:List OpL) (r:List UInt8):turnP fr tk A (r,none)=((turnP fr tk A ([],none)).1,(r,(turnP fr tk A ([],none)).2.2)):=by
  unfold turnP
  split
  · rfl
  · split <;> rfl
theorem op_at (x:List UInt8) (A:List OpL) (r:List UInt8):opP x A (r,none)=((opP x A ([],none)).1,(r,(opP x A ([],none)).2.2)):=by
  unfold opP
  repeat' split
  all_goals first | rfl | rw [turn_at] | rw [oper_at]
theorem opW_some {x:List UInt8} {A F:List OpL} (h:opW x A=some F) (r:List UInt8):opP x A (r,none)=(F,(r,none)):=by
  unfold opW at h
  split at h
  · rename_i h0
    rw [op_at,h0,Option.some.inj h]
  · cases h
theorem opW_of {x:List UInt8} {A:List OpL} {r:List UInt8} (h:(opP x A (r,none)).2.2=none):∃ F,opW x A=some F:=by
  rw [op_at] at h;unfold opW;simp only [] at h;rw [if_pos h];exact ⟨_,rfl⟩
def runW:List (List UInt8)->List OpL->Option (List OpL)
  | [],A=>some A
  | x :: L, A => match opW x A with
    | some B=>runW L B
    | none=>none
theorem lops_ok:∀ (L:List (List UInt8)) (n:Nat) (A:List OpL) (r:List UInt8),Tk r L->L.length<n->(lopsP n A (r,none)).2.2=none->∃ F r',runW L A=some F/\lopsP n A (r,none)=(F,(r',none))/\Tk r' []:=by
  intro L
  induction L with
  | nil =>
    intro n A r h hn _;obtain ⟨n,rfl⟩:∃ m,n=m+1:=⟨n-1,by simp at hn;omega⟩;exact ⟨A,r,rfl,by rw [lops_stop (x:=[]) (by rw [tk_stop h]),tk_stop h],h⟩
  | cons x L ih =>
    intro n A r h hn h0;obtain ⟨n,rfl⟩:∃ m,n=m+1:=⟨n-1,by simp at hn;omega⟩;obtain ⟨r',h1,h2⟩:=tk_take h;have e:lopsP (n+1) A (r,none)=lopsP n (opP x A (r',none)).1 (opP x A (r',none)).2:=by rw [lops_more (x:=x) (by rw [h1]),h1]
    rw [e] at h0;have hb:(opP x A (r',none)).2.2=none:=by
      cases hs:(opP x A (r',none)).2.2 with
      | none=>rfl
      | some z=>rw [lops_bad _ _ _ (by rw [hs];rfl),hs] at h0;cases h0
    obtain ⟨B,hB⟩:=opW_of hb;rw [opW_some hB] at e h0;obtain ⟨F,r2,a1,a2,a3⟩:=ih n B r' h2 (by simp at hn;omega) h0;exact ⟨F,r2,by unfold runW;rw [hB];exact a1,by rw [e];exact a2,a3⟩
theorem lops_yes:∀ (L:List (List UInt8)) (n:Nat) (A F:List OpL) (r:List UInt8),Tk r L->L.length<n->runW L A=some F->∃ r',lopsP n A (r,none)=(F,(r',none))/\Tk r' []:=by
  intro L
  induction L with
  | nil =>
    intro n A F r h hn h0;obtain ⟨n,rfl⟩:∃ m,n=m+1:=⟨n-1,by simp at hn;omega⟩;have:A=F:=Option.some.inj h0;subst this;exact ⟨r,by rw [lops_stop (x:=[]) (by rw [tk_stop h]),tk_stop h],h⟩
  | cons x L ih =>
    intro n A F r h hn h0;obtain ⟨n,rfl⟩:∃ m,n=m+1:=⟨n-1,by simp at hn;omega⟩;obtain ⟨r',h1,h2⟩:=tk_take h;have e:lopsP (n+1) A (r,none)=lopsP n (opP x A (r',none)).1 (opP x A (r',none)).2:=by rw [lops_more (x:=x) (by rw [h1]),h1]
    unfold runW at h0
    cases hB:opW x A with
    | none=>rw [hB] at h0;cases h0
    | some B =>
      rw [hB] at h0;rw [opW_some hB] at e;obtain ⟨r2,a2,a3⟩:=ih n B F r' h2 (by simp at hn;omega) h0;exact ⟨r2,by rw [e];exact a2,a3⟩
theorem ops_ok {s:Ls} {L:List (List UInt8)} (h:Tk s.1 L) (hn:(opsP s).2.2=none):∃ F r',L≠[]/\runW L []=some F/\opsP s=(F,(r',none))/\Tk r' []/\s.2=none:=by
  have hs:s.2=none:=by
    cases hs:s.2 with
    | none=>rfl
    | some z=>rw [opsP_bad (by rw [hs];rfl),hs] at hn;cases hn
  obtain ⟨r,o⟩:=s;simp only [] at hs;subst hs;have hn0:=hn;unfold opsP at hn;simp only [] at hn;have w1:(opP (nextP (r,none)).1 [] (nextP (r,none)).2).2.2=none:=by
    cases hs:(opP (nextP (r,none)).1 [] (nextP (r,none)).2).2.2 with
    | none=>rfl
    | some z=>rw [lops_bad _ _ _ (by rw [hs];rfl),hs] at hn;cases hn
  have w2:(nextP (r,none)).2.2=none:=by
    cases hs:(nextP (r,none)).2.2 with
    | none=>rfl
    | some z=>rw [op_bad (by rw [hs];rfl),hs] at w1;cases w1
  obtain ⟨x,M,r1,c1,c2,c3,_⟩:=next_ok (s:=(r,none)) h w2;rw [c2] at w1 hn;simp only [] at w1 hn;obtain ⟨B,hB⟩:=opW_of w1;rw [opW_some hB] at hn;simp only [] at hn;obtain ⟨F,r2,a1,a2,a3⟩:=lops_ok M _ B r1 c3 (by have:=tk_count h;rw [c1] at this;simp at this;omega) hn;refine ⟨F,r2,by rw [c1];simp,?_,?_,a3,rfl⟩
  · rw [c1];unfold runW;rw [hB];exact a1
  · unfold opsP
    simp only [];rw [c2];simp only [];rw [opW_some hB];exact a2
theorem ops_yes {r:List UInt8} {L:List (List UInt8)} {F:List OpL} (h:Tk r L) (h0:L≠[]) (hr:runW L []=some F):∃ r',opsP (r,none)=(F,(r',none))/\Tk r' []:=by
  cases L with
  | nil=>exact absurd rfl h0
  | cons x M =>
    have hc:=tk_count h;obtain ⟨r1,c2,c3⟩:=tk_next h;unfold runW at hr
    cases hB:opW x [] with
    | none=>rw [hB] at hr;cases hr
    | some B =>
      rw [hB] at hr;obtain ⟨r2,a2,a3⟩:=lops_yes M (r.length+1) B F r1 c3 (by simp at hc;omega) hr;refine ⟨r2,?_,a3⟩;unfold opsP;simp only [];rw [c2];simp only [];rw [opW_some hB];exact a2
theorem opsT_app (A B:List OpL):opsT (A++B)=opsT A++opsT B:=by simp [opsT]
theorem opsT_one (o:OpL):opsT [o]=opT o:=by simp [opsT]
def okOp (o:OpL):Prop:=-1073741824<=o.2.2/\o.2.2<=1073741824
theorem turn_ok {fr tk:Int} {A:List OpL} {r:List UInt8} (h:(turnP fr tk A (r,none)).2.2=none):∃ M o,A=M++[o]/\o.1=fr/\(turnP fr tk A (r,none)).1=M++[(tk,o.2)]:=by
  rcases List.eq_nil_or_concat A with rfl | ⟨M,o,rfl⟩
  · rw [turn_nil] at h;cases h
  · rw [List.concat_eq_append] at h ⊢
    rw [turn_app] at h ⊢
    split at h
    · rename_i h1
      exact ⟨M,o,rfl,h1.1,by rw [if_pos h1]⟩
    · cases h
theorem opW_is {x:List UInt8} {A F:List OpL} (h:opW x A=some F):opsT F=opsT A++[x]/\Gw x/\((∀ o∈A,okOp o)->∀ o∈F,okOp o):=by
  have h1:=opW_some h [];have hn:(opP x A ([],none)).2.2=none:=by rw [h1]
  have hF:F=(opP x A ([],none)).1:=by rw [h1]
  have add:∀ o:OpL,F=A++[o]->opT o=[x]->okOp o->Gw x->opsT F=opsT A++[x]/\Gw x/\((∀ o∈A,okOp o)->∀ o∈F,okOp o):=by
    intro o e1 e2 e3 e4;refine ⟨by rw [e1,opsT_app,opsT_one,e2],e4,fun hA p hp=>?_⟩;rw [e1] at hp;rcases List.mem_append.1 hp with hp | hp
    · exact hA p hp
    · simp at hp;rw [hp];exact e3
  have trn:∀ (fr tk:Int),opP x A ([],none)=turnP fr tk A ([],none)->(∀ o:OpL,o.1=fr->opT (tk,o.2)=opT o++[x])->Gw x->opsT F=opsT A++[x]/\Gw x/\((∀ o∈A,okOp o)->∀ o∈F,okOp o):=by
    intro fr tk e1 e2 e3;rw [e1] at hn hF;obtain ⟨M,o,g1,g2,g3⟩:=turn_ok hn;rw [g3] at hF;refine ⟨by rw [hF,g1,opsT_app,opsT_app,opsT_one,opsT_one,e2 o g2,List.append_assoc],e3,fun hA p hp=>?_⟩;rw [hF] at hp;rcases List.mem_append.1 hp with hp | hp
    · exact hA p (by rw [g1];exact List.mem_append_left _ hp)
    · simp at hp
      rw [hp];exact hA o (by rw [g1];simp)
  by_cases c1:x=[43]
  · subst c1
    exact add (3,[],0) (by rw [hF];rfl) rfl (by unfold okOp;decide) ⟨by decide,fun c hc=>by simp at hc;subst hc;decide⟩
  by_cases c2:x=[115]
  · subst c2
    exact add (6,[],0) (by rw [hF];rfl) rfl (by unfold okOp;decide) ⟨by decide,fun c hc=>by simp at hc;subst hc;decide⟩
  by_cases c3:x=[42]
  · subst c3
    exact trn 1 4 rfl (fun o ho=>by obtain ⟨a,b,c⟩:=o;simp only [] at ho;subst ho;rfl) ⟨by decide,fun c hc=>by simp at hc;subst hc;decide⟩
  by_cases c4:x=[100]
  · subst c4
    exact trn 1 5 rfl (fun o ho=>by obtain ⟨a,b,c⟩:=o;simp only [] at ho;subst ho;rfl) ⟨by decide,fun c hc=>by simp at hc;subst hc;decide⟩
  by_cases c5:x=[119]
  · subst c5
    exact trn 2 7 rfl (fun o ho=>by obtain ⟨a,b,c⟩:=o;simp only [] at ho;subst ho;rfl) ⟨by decide,fun c hc=>by simp at hc;subst hc;decide⟩
  have e:opP x A ([],none)=(A++[(operP x ([],none)).1],(operP x ([],none)).2):=by
    unfold opP;rw [if_neg c1,if_neg c2,if_neg c3,if_neg c4,if_neg c5]
  rw [e] at hn hF;simp only [] at hn hF
  by_cases hl:(litP x).2=true
  · have e2:operP x ([],none)=((2,[],(litP x).1),([],none)):=by unfold operP;rw [if_pos hl]
    rw [e2] at hF;have hg:=(lit_ok hl).good;rw [lit_back hl] at hg;refine add _ hF ?_ ⟨hg.2.1,hg.2.2.1⟩ hg.1;show [litT (litP x).1]=[x];rw [lit_back hl]
  · have e2:operP x ([],none)=((1,x,0),wholeP x 1 (operS x ([],none))):=by unfold operP;rw [if_neg hl]
    rw [e2] at hF hn;simp only [] at hn hF;obtain ⟨k1,_,_⟩:=whole_ok hn;exact add _ hF rfl ⟨by show (-1073741824:Int)<=0;omega,by show (0:Int)<=1073741824;omega⟩ (bad_good k1)
theorem runW_is:∀ (L:List (List UInt8)) (A F:List OpL),runW L A=some F->opsT F=opsT A++L/\(∀ x∈L,Gw x)/\((∀ o∈A,okOp o)->∀ o∈F,okOp o):=by
  intro L
  induction L with
  | nil =>
    intro A F h;have:A=F:=Option.some.inj h;subst this;exact ⟨by simp,fun x hx=>absurd hx List.not_mem_nil,fun h=>h⟩
  | cons x L ih =>
    intro A F h;unfold runW at h
    cases hB:opW x A with
    | none=>rw [hB] at h;cases h
    | some B =>
      rw [hB] at h;obtain ⟨a1,a2,a3⟩:=opW_is hB;obtain ⟨b1,b2,b3⟩:=ih B F h;refine ⟨by rw [b1,a1];simp,fun y hy=>?_,fun hA=>b3 (a3 hA)⟩;rcases List.mem_cons.1 hy with rfl | hy
      · exact a2
      · exact b2 y hy
theorem musts_bad:∀ (W:List (List UInt8)) (s:Ls),s.2.isSome=true->mustsP W s=s:=by
  intro W
  induction W with
  | nil=>intro s _;rfl
  | cons x W ih=>intro s h;show mustsP W (mustP x s)=s;rw [must_bad h];exact ih s h
theorem musts_ok:∀ (W L:List (List UInt8)) (s:Ls),Tk s.1 L->(mustsP W s).2=none->∃ M r',L=W++M/\mustsP W s=(r',none)/\Tk r' M:=by
  intro W
  induction W with
  | nil=>intro L s h hn;exact ⟨L,s.1,rfl,Prod.ext rfl hn,h⟩
  | cons x W ih =>
    intro L s h hn;have hn':(mustsP W (mustP x s)).2=none:=hn;have h1:(mustP x s).2=none:=by
      cases hs:(mustP x s).2 with
      | none=>rfl
      | some z=>rw [musts_bad _ _ (by rw [hs];rfl),hs] at hn';cases hn'
    obtain ⟨M,r',c1,c2,c3,_⟩:=must_ok h h1;rw [c2] at hn';obtain ⟨M2,r2,d1,d2,d3⟩:=ih M (r',none) c3 hn';exact ⟨M2,r2,by rw [c1,d1];rfl,by show mustsP W (mustP x s)=_;rw [c2,d2],d3⟩
theorem musts_yes:∀ (W M:List (List UInt8)) (r:List UInt8),Tk r (W++M)->∃ r',mustsP W (r,none)=(r',none)/\Tk r' M:=by
  intro W
  induction W with
  | nil=>intro M r h;exact ⟨r,rfl,h⟩
  | cons x W ih =>
    intro M r h;obtain ⟨r1,c1,c2⟩:=must_yes h;obtain ⟨r2,d1,d2⟩:=ih M r1 c2;exact ⟨r2,by show mustsP W (mustP x (r,none))=_;rw [c1,d1],d2⟩
def fmW (f:FmL):List (List UInt8):=fstW f :: Lib.fields (rstT f)
theorem pick_bad {T:List FmL} {rd:FuncId->Ls->SL × Ls} {s:Ls} (hrd:∀ f s,s.2.isSome=true->(rd f s).2.2.isSome=true) (h:s.2.isSome=true):(pickP T rd s).2.2.2.isSome=true:=by
  unfold pickP
  split
  · rw [next_bad h,musts_bad _ _ h];exact hrd _ _ h
  · exact fail_some _ _
theorem pick_ok {T:List FmL} {rd:FuncId->Ls->SL × Ls} {s:Ls} {L:List (List UInt8)} (hrd:∀ f s,s.2.isSome=true->(rd f s).2.2.isSome=true) (h:Tk s.1 L) (hn:(pickP T rd s).2.2.2=none):∃ f∈T,∃ M r',L=fmW f++M/\Tk r' M/\pickP T rd s=(f.1,rd f.2.2.1 (r',none))/\s.2=none:=by
  unfold pickP at hn ⊢
  cases hf:T.find? fun f=>decide ((nextP s).1=fstW f) with
  | none =>
    rw [hf] at hn;exact (none_some hn (fail_some _ _)).elim
  | some f =>
    rw [hf] at hn;simp only [] at hn ⊢;have h1:(mustsP (Lib.fields (rstT f)) (nextP s).2).2=none:=by
      cases hs:(mustsP (Lib.fields (rstT f)) (nextP s).2).2 with
      | none=>rfl
      | some z=>exact (none_some hn (hrd _ _ (by rw [hs];rfl))).elim
    have h2:(nextP s).2.2=none:=by
      cases hs:(nextP s).2.2 with
      | none=>rfl
      | some z=>rw [musts_bad _ _ (by rw [hs];rfl),hs] at h1;cases h1
    obtain ⟨x,M,r1,c1,c2,c3,c4⟩:=next_ok h h2;rw [c2] at h1;simp only [] at h1;obtain ⟨M2,r2,d1,d2,d3⟩:=musts_ok _ M (r1,none) c3 h1;have hx:x=fstW f:=by
      have:=List.find?_some hf;have:=of_decide_eq_true this;rw [c2] at this;exact this
    refine ⟨f,List.mem_of_find?_eq_some hf,M2,r2,?_,d3,?_,c4⟩
    · rw [c1,d1,hx];rfl
    · rw [c2];simp only [];rw [d2]
theorem pick_yes {T:List FmL} {rd:FuncId->Ls->SL × Ls} {r:List UInt8} (f:FmL) (hf:(T.find? fun g=>decide (fstW f=fstW g))=some f) {M:List (List UInt8)} (h:Tk r (fmW f++M)):∃ r',pickP T rd (r,none)=(f.1,rd f.2.2.1 (r',none))/\Tk r' M:=by
  obtain ⟨r1,c1,c2⟩:=tk_next (x:=fstW f) (L:=Lib.fields (rstT f)++M) h;obtain ⟨r2,d1,d2⟩:=musts_yes _ M r1 c2;refine ⟨r2,?_,d2⟩;unfold pickP;rw [c1];simp only [];rw [hf];simp only [];rw [d1]
end Go.Proofs.YtpcijhecaedkpaaGreatDoor

namespace Go.Proofs.YtpcijhecaedkpaaGreatDoor
open Go.RowKit
theorem lean_bad {x:List UInt8} {s:Ls} (h:s.2.isSome=true):(leanP x s).2=s:=by
  have e:leanS x s=s:=by
    unfold leanS
    split
    · rfl
    · exact fail_bad h
  unfold leanP;rw [e,next_bad h];show wholeP [] 1 s=s;exact whole_bad h
theorem rdC_bad (f:FuncId) (s:Ls) (h:s.2.isSome=true):(rdC f s).2.2.isSome=true:=by
  unfold rdC
  split
  · unfold unsatP;rw [take_bad h];exact h
  · split
    · unfold boundsP
      have e1:bdA s=s:=by unfold bdA;rw [next_bad h];exact whole_bad h
      have e2:bdX s=[]:=by unfold bdX;rw [e1,next_bad h]
      have e3:bdB s=s:=by unfold bdB;rw [e1,next_bad h]
      rw [if_neg (by rw [e2];decide),e2,e3];show (wholeP [] (-1) s).2.isSome=true;rw [whole_bad h];exact h
    · split
      · unfold allP
        have e1:allS s=s:=by unfold allS;rw [next_bad h];exact whole_bad h
        show (allR s).2.2.isSome=true;unfold allR;rw [e1,next_bad h];show (leanP [] s).2.2.isSome=true;rw [lean_bad h];exact h
      · exact h
theorem rdF_bad (f:FuncId) (s:Ls) (h:s.2.isSome=true):(rdF f s).2.2.isSome=true:=by
  have e1:eqS s=s:=by unfold eqS;rw [next_bad h];exact whole_bad h
  unfold rdF
  split
  · show (sizeP s).2.2.isSome=true
    unfold sizeP;rw [next_bad h];show (wholeP [] 0 s).2.isSome=true;rw [whole_bad h];exact h
  split
  · show (opsP s).2.2.isSome=true
    rw [opsP_bad h];exact h
  split
  · show (idsP (rowP s).2).2.2.isSome=true
    rw [rowP_bad h];unfold idsP;rw [list_bad h];exact h
  split
  · show (rowP (eqS s)).2.2.isSome=true
    rw [e1,rowP_bad h];exact h
  split
  · show (listP literalP s).2.2.isSome=true
    rw [list_bad h];exact h
  split
  · show (idsP (eqS s)).2.2.isSome=true
    rw [e1];unfold idsP;rw [list_bad h];exact h
  split
  · exact h
  split
  · exact pick_bad rdC_bad h
  · exact h
def BdC (f:FuncId) (M:List (List UInt8)) (d:SL):Prop:=
  if f=262 then (M=[]/\d=SL.zero)∨∃ i,M=[[58],i]/\badN i 1=false/\d={ SL.zero with ids:=[i] }
  else if f=264 then (∃ a b,M=[a,b]/\badN a (-1)=false/\badN b (-1)=false/\d={ SL.zero with low:=a,high:=b })∨∃ a i b,M=[a,[58],i,b]/\badN a (-1)=false/\badN i 1=false/\badN b (-1)=false/\d={ SL.zero with low:=a,ids:=[i],high:=b }
  else if f=266 then ∃ a i,M=[a,[58],i]/\badN a 0=false/\badN i 1=false/\d={ SL.zero with high:=a,ids:=[i] }
  else M=[]/\d=SL.zero
def BdF (f:FuncId) (M:List (List UInt8)) (d:SL):Prop:=
  if f=156 then ∃ n,M=[n]/\badN n 0=false/\d={ SL.zero with n:=n }
  else if f=158 then ∃ F,M≠[]/\runW M []=some F/\d={ SL.zero with ops:=F }
  else if f=160 then ∃ P deg ids,M=rowT P deg++ids/\(∀ o∈P,okPc o)/\badN deg (-1)=false/\(∀ x∈ids,badN x 1=false)/\d={ SL.zero with pcs:=P,deg:=deg,ids:=ids }
  else if f=162 then ∃ i P deg,M=i :: rowT P deg/\badN i 1=false/\(∀ o∈P,okPc o)/\badN deg (-1)=false/\d={ SL.zero with pcs:=P,deg:=deg,ids:=[i] }
  else if f=164 then ∃ l,M=l.map litT/\(∀ n∈l,okLi n)/\d={ SL.zero with lits:=l }
  else if f=166 then ∃ i ids,M=i :: ids/\badN i 1=false/\(∀ x∈ids,badN x 1=false)/\d={ SL.zero with ids:=i :: ids }
  else if f=168 then M=[]/\d=SL.zero
  else if f=169 then ∃ g∈claimsL,∃ N e,M=fmW g++N/\BdC g.2.2.1 N e/\d={ e with ends:=g.1 }
  else M=[]/\d=SL.zero
theorem next_none {s:Ls} (h:(nextP s).2.2=none):s.2=none:=by
  cases hs:s.2 with
  | none=>rfl
  | some z=>rw [next_bad (by rw [hs];rfl)] at h;simp only [] at h;rw [hs] at h;cases h
theorem lean_ok {x:List UInt8} {s:Ls} {L:List (List UInt8)} (h:Tk s.1 L) (hn:(leanP x s).2.2=none):x=[58]/\∃ i M r',L=i :: M/\badN i 1=false/\leanP x s=(i,(r',none))/\Tk r' M/\s.2=none:=by
  unfold leanP at hn;simp only [] at hn;obtain ⟨w1,w2,w3⟩:=whole_ok hn;have hl:=next_none w3;have hx:x=[58]:=by
    unfold leanS at hl
    split at hl
    · assumption
    · exact (none_some hl (fail_some _ _)).elim
  have e:leanS x s=s:=by unfold leanS;rw [if_pos hx]
  rw [e] at w1 w2 w3 hl;obtain ⟨i,M,r',c1,c2,c3,c4⟩:=next_ok h w3;rw [c2] at w1 w2;refine ⟨hx,i,M,r',c1,w1,?_,c3,c4⟩;unfold leanP;rw [e,c2];simp only [];rw [whole_yes w1]
theorem lean_yes {r:List UInt8} {i:List UInt8} {M:List (List UInt8)} (h:Tk r (i :: M)) (hi:badN i 1=false):∃ r',leanP [58] (r,none)=(i,(r',none))/\Tk r' M:=by
  obtain ⟨r',c1,c2⟩:=tk_next h;refine ⟨r',?_,c2⟩;have e:leanS [58] (r,none)=(r,none):=by unfold leanS;rw [if_pos rfl]
  unfold leanP;rw [e,c1];simp only [];rw [whole_yes hi]
theorem rdC_ok {f:FuncId} {r:List UInt8} {M:List (List UInt8)} (h:Tk r M) (hn:(endP (rdC f (r,none)).2).2=none):BdC f M (rdC f (r,none)).1:=by
  unfold BdC rdC at *
  split at hn
  · rename_i hf
    rw [if_pos hf,if_pos hf];unfold unsatP at hn ⊢
    cases M with
    | nil =>
      rw [tk_stop h];exact .inl ⟨rfl,rfl⟩
    | cons x M =>
      obtain ⟨r1,c1,c2⟩:=tk_take h;rw [c1] at hn ⊢;simp only [if_true] at hn ⊢;have hz:(leanP x (r1,none)).2.2=none:=by
        cases hs:(leanP x (r1,none)).2.2 with
        | none=>rfl
        | some z=>unfold endP at hn;rw [take_bad (by rw [hs];rfl)] at hn;simp [hs] at hn
      obtain ⟨hx,i,M2,r2,d1,d2,d3,d4,_⟩:=lean_ok (s:=(r1,none)) c2 hz;rw [d3] at hn ⊢;have:=(end_ok (s:=(r2,none)) d4 hn).1;subst this;exact .inr ⟨i,by rw [hx,d1],d2,rfl⟩
  · rename_i hf
    rw [if_neg hf,if_neg hf]
    split at hn
    · rename_i hf2
      rw [if_pos hf2,if_pos hf2];unfold boundsP at hn ⊢
      split at hn
      · rename_i hb
        rw [if_pos hb];simp only [] at hn;have h1:(bdS (r,none)).2=none:=by
          cases hs:(bdS (r,none)).2 with
          | none=>rfl
          | some z=>unfold endP at hn;rw [take_bad (by rw [hs];rfl)] at hn;simp [hs] at hn
        have h1':=h1;unfold bdS at h1';obtain ⟨w1,w2,w3⟩:=whole_ok h1';have h2:=next_none w3;have h2':=h2;unfold bdI at h2';have h3:(bdB (r,none)).2=none:=by
          cases hs:(bdB (r,none)).2 with
          | none=>rfl
          | some z=>rw [lean_bad (by rw [hs];rfl),hs] at h2';cases h2'
        have h3':=h3;unfold bdB at h3';have h4:=next_none h3';have h4':=h4;unfold bdA at h4';obtain ⟨v1,v2,v3⟩:=whole_ok h4';obtain ⟨a,M1,r1,c1,c2,c3,_⟩:=next_ok (s:=(r,none)) h v3;have eA:bdA (r,none)=(r1,none):=by unfold bdA;rw [v2,c2]
        rw [c2] at v1;rw [eA] at h3';obtain ⟨x,M2,r2,d1,d2,d3,_⟩:=next_ok (s:=(r1,none)) c3 h3';have eX:bdX (r,none)=x:=by unfold bdX;rw [eA,d2]
        have eB:bdB (r,none)=(r2,none):=by unfold bdB;rw [eA,d2]
        rw [eX,eB] at h2';obtain ⟨hx,i,M3,r3,e1,e2,e3,e4,_⟩:=lean_ok (s:=(r2,none)) d3 h2';have eI:bdI (r,none)=(i,(r3,none)):=by unfold bdI;rw [eX,eB,e3]
        rw [eI] at w1 w2 w3;obtain ⟨b,M4,r4,f1,f2,f3,_⟩:=next_ok (s:=(r3,none)) e4 w3;rw [f2] at w1 w2;have eS:bdS (r,none)=(r4,none):=by unfold bdS;rw [eI];simp only [];rw [f2];simp only [];exact w2
        rw [eS] at hn;have:=(end_ok (s:=(r4,none)) f3 hn).1;subst this;refine .inr ⟨a,i,b,by rw [c1,d1,hx,e1,f1],v1,e2,w1,?_⟩;rw [c2,eI];simp only [];rw [f2]
      · rename_i hb
        rw [if_neg hb];simp only [] at hn;have h1:(wholeP (bdX (r,none)) (-1) (bdB (r,none))).2=none:=by
          cases hs:(wholeP (bdX (r,none)) (-1) (bdB (r,none))).2 with
          | none=>rfl
          | some z=>unfold endP at hn;rw [take_bad (by rw [hs];rfl)] at hn;simp [hs] at hn
        obtain ⟨w1,w2,w3⟩:=whole_ok h1;have h3':=w3;unfold bdB at h3';have h4:=next_none h3';have h4':=h4;unfold bdA at h4';obtain ⟨v1,v2,v3⟩:=whole_ok h4';obtain ⟨a,M1,r1,c1,c2,c3,_⟩:=next_ok (s:=(r,none)) h v3;have eA:bdA (r,none)=(r1,none):=by unfold bdA;rw [v2,c2]
        rw [c2] at v1;rw [eA] at h3';obtain ⟨x,M2,r2,d1,d2,d3,_⟩:=next_ok (s:=(r1,none)) c3 h3';have eX:bdX (r,none)=x:=by unfold bdX;rw [eA,d2]
        have eB:bdB (r,none)=(r2,none):=by unfold bdB;rw [eA,d2]
        rw [w2,eB] at hn;rw [eX] at w1;have:=(end_ok (s:=(r2,none)) d3 hn).1;subst this;refine .inl ⟨a,x,by rw [c1,d1],v1,w1,?_⟩;rw [c2,eX]
    · rename_i hf2
      rw [if_neg hf2,if_neg hf2]
      split at hn
      · rename_i hf3
        rw [if_pos hf3,if_pos hf3];unfold allP at hn ⊢;simp only [] at hn;have h1:(allR (r,none)).2.2=none:=by
          cases hs:(allR (r,none)).2.2 with
          | none=>rfl
          | some z=>unfold endP at hn;rw [take_bad (by rw [hs];rfl)] at hn;simp [hs] at hn
        have h1':=h1;unfold allR at h1';have h2:(nextP (allS (r,none))).2.2=none:=by
          cases hs:(nextP (allS (r,none))).2.2 with
          | none=>rfl
          | some z=>rw [lean_bad (by rw [hs];rfl),hs] at h1';cases h1'
        have h3:=next_none h2;have h3':=h3;unfold allS at h3';obtain ⟨v1,v2,v3⟩:=whole_ok h3';obtain ⟨a,M1,r1,c1,c2,c3,_⟩:=next_ok (s:=(r,none)) h v3;have eS:allS (r,none)=(r1,none):=by unfold allS;rw [v2,c2]
        rw [c2] at v1;rw [eS] at h2;obtain ⟨x,M2,r2,d1,d2,d3,_⟩:=next_ok (s:=(r1,none)) c3 h2;rw [eS,d2] at h1';obtain ⟨hx,i,M3,r3,e1,e2,e3,e4,_⟩:=lean_ok (s:=(r2,none)) d3 h1';have eR:allR (r,none)=(i,(r3,none)):=by unfold allR;rw [eS,d2];exact e3
        rw [eR] at hn;have:=(end_ok (s:=(r3,none)) e4 hn).1;subst this;have hx':x=[58]:=hx;refine ⟨a,i,by rw [c1,d1,hx',e1],v1,e2,?_⟩;unfold allY;rw [c2,eR]
      · rename_i hf3
        rw [if_neg hf3,if_neg hf3];exact ⟨(end_ok (s:=(r,none)) h hn).1,rfl⟩
theorem rdC_yes {f:FuncId} {r:List UInt8} {M:List (List UInt8)} {d:SL} (h:Tk r M) (hb:BdC f M d):∃ r',rdC f (r,none)=(d,(r',none))/\Tk r' []:=by
  unfold BdC at hb;unfold rdC
  split at hb
  · rename_i hf
    rw [if_pos hf];unfold unsatP;rcases hb with ⟨rfl,rfl⟩ | ⟨i,rfl,hi,rfl⟩
    · rw [tk_stop h]
      exact ⟨r,rfl,h⟩
    · obtain ⟨r1,c1,c2⟩:=tk_take h
      rw [c1];simp only [if_true];obtain ⟨r2,d1,d2⟩:=lean_yes c2 hi;rw [d1];exact ⟨r2,rfl,d2⟩
  · rename_i hf
    rw [if_neg hf]
    split at hb
    · rename_i hf2
      rw [if_pos hf2];unfold boundsP;rcases hb with ⟨a,b,rfl,ha,hb,rfl⟩ | ⟨a,i,b,rfl,ha,hi,hb,rfl⟩
      · obtain ⟨r1,c1,c2⟩:=tk_next h
        obtain ⟨r2,d1,d2⟩:=tk_next c2;have eA:bdA (r,none)=(r1,none):=by unfold bdA;rw [c1];exact whole_yes ha
        have eX:bdX (r,none)=b:=by unfold bdX;rw [eA,d1]
        have eB:bdB (r,none)=(r2,none):=by unfold bdB;rw [eA,d1]
        rw [if_neg (by rw [eX];exact bad_not hb 58 (by decide) []),eX,eB,c1,whole_yes hb];exact ⟨r2,rfl,d2⟩
      · obtain ⟨r1,c1,c2⟩:=tk_next h
        obtain ⟨r2,d1,d2⟩:=tk_next c2;have eA:bdA (r,none)=(r1,none):=by unfold bdA;rw [c1];exact whole_yes ha
        have eX:bdX (r,none)=[58]:=by unfold bdX;rw [eA,d1]
        have eB:bdB (r,none)=(r2,none):=by unfold bdB;rw [eA,d1]
        obtain ⟨r3,e1,e2⟩:=lean_yes d2 hi;have eI:bdI (r,none)=(i,(r3,none)):=by unfold bdI;rw [eX,eB,e1]
        obtain ⟨r4,f1,f2⟩:=tk_next e2;have eS:bdS (r,none)=(r4,none):=by unfold bdS;rw [eI];simp only [];rw [f1];exact whole_yes hb
        rw [if_pos eX,eI,eS,c1];simp only [];rw [f1];exact ⟨r4,rfl,f2⟩
    · rename_i hf2
      rw [if_neg hf2]
      split at hb
      · rename_i hf3
        rw [if_pos hf3];obtain ⟨a,i,rfl,ha,hi,rfl⟩:=hb;obtain ⟨r1,c1,c2⟩:=tk_next h;obtain ⟨r2,d1,d2⟩:=tk_next c2;have eS:allS (r,none)=(r1,none):=by unfold allS;rw [c1];exact whole_yes ha
        obtain ⟨r3,e1,e2⟩:=lean_yes d2 hi;have eR:allR (r,none)=(i,(r3,none)):=by unfold allR;rw [eS,d1];exact e1
        unfold allP allY;rw [eR,c1];exact ⟨r3,rfl,e2⟩
      · rename_i hf3
        rw [if_neg hf3];obtain ⟨rfl,rfl⟩:=hb;exact ⟨r,rfl,h⟩
end Go.Proofs.YtpcijhecaedkpaaGreatDoor

namespace Go.Proofs.YtpcijhecaedkpaaGreatDoor
open Go.RowKit
theorem end_bad {s:Ls} (h:(endP s).2=none):s.2=none:=by
  cases hs:s.2 with
  | none=>rfl
  | some z=>unfold endP at h;rw [take_bad (by rw [hs];rfl)] at h;simp [hs] at h
theorem ids_ok {s:Ls} {L:List (List UInt8)} (h:Tk s.1 L) (hn:(idsP s).2.2=none):(∀ x∈L,badN x 1=false)/\(∃ r',idsP s=(L,(r',none))/\Tk r' [])/\s.2=none:=
  list_ok (ok:=fun x=>badN x 1=false) (fun _ _ h=>⟨(whole_ok h).1,(whole_ok h).2.1⟩) h hn
theorem ids_yes {r:List UInt8} {L:List (List UInt8)} (h:Tk r L) (ho:∀ x∈L,badN x 1=false):∃ r',idsP (r,none)=(L,(r',none))/\Tk r' []:=
  list_yes (ok:=fun x=>badN x 1=false) (fun _ _ h=>whole_yes h) h ho
theorem eqS_ok {s:Ls} {L:List (List UInt8)} (h:Tk s.1 L) (hn:(eqS s).2=none):∃ i M r',L=i :: M/\badN i 1=false/\eqY s=i/\eqS s=(r',none)/\Tk r' M/\s.2=none:=by
  unfold eqS at hn;obtain ⟨v1,v2,v3⟩:=whole_ok hn;obtain ⟨i,M,r',c1,c2,c3,c4⟩:=next_ok h v3;rw [c2] at v1;exact ⟨i,M,r',c1,v1,by unfold eqY;rw [c2],by unfold eqS;rw [v2,c2],c3,c4⟩
theorem eqS_yes {r i:List UInt8} {M:List (List UInt8)} (h:Tk r (i :: M)) (hi:badN i 1=false):∃ r',eqY (r,none)=i/\eqS (r,none)=(r',none)/\Tk r' M:=by
  obtain ⟨r',c1,c2⟩:=tk_next h;exact ⟨r',by unfold eqY;rw [c1],by unfold eqS;rw [c1];exact whole_yes hi,c2⟩
theorem map_back:∀ L:List (List UInt8),(∀ x∈L,(litP x).2=true)->(L.map fun x=>(litP x).1).map litT=L:=by
  intro L
  induction L with
  | nil=>intro _;rfl
  | cons x L ih=>intro h;simp only [List.map_cons];rw [lit_back (h x List.mem_cons_self),ih fun y hy=>h y (List.mem_cons_of_mem _ hy)]
theorem rdF_ok {f:FuncId} {r:List UInt8} {M:List (List UInt8)} (h:Tk r M) (hn:(endP (rdF f (r,none)).2).2=none):BdF f (if f=168 then [] else M) (rdF f (r,none)).1:=by
  unfold BdF rdF at *
  split at hn
  · rename_i hf
    rw [if_pos hf,if_pos hf,if_neg (by rw [hf];decide)];have h1:=end_bad hn;simp only [] at h1 hn;have h1':=h1;unfold sizeP at h1';obtain ⟨v1,v2,v3⟩:=whole_ok h1';obtain ⟨n,M1,r1,c1,c2,c3,_⟩:=next_ok (s:=(r,none)) h v3;have e:sizeP (r,none)=(n,(r1,none)):=by unfold sizeP;rw [v2,c2]
    rw [c2] at v1;rw [e] at hn;have:=(end_ok (s:=(r1,none)) c3 hn).1;subst this;exact ⟨n,c1,v1,by rw [e]⟩
  rename_i hf1
  rw [if_neg hf1,if_neg hf1]
  split at hn
  · rename_i hf
    rw [if_pos hf,if_pos hf,if_neg (by rw [hf];decide)];have h1:=end_bad hn;simp only [] at h1 hn;obtain ⟨F,r1,c1,c2,c3,c4,_⟩:=ops_ok (s:=(r,none)) h h1;exact ⟨F,c1,c2,by rw [c3]⟩
  rename_i hf2
  rw [if_neg hf2,if_neg hf2]
  split at hn
  · rename_i hf
    rw [if_pos hf,if_pos hf,if_neg (by rw [hf];decide)];have h1:=end_bad hn;simp only [] at h1 hn;have h2:(rowP (r,none)).2.2=none:=by
      cases hs:(rowP (r,none)).2.2 with
      | none=>rfl
      | some z=>unfold idsP at h1;rw [list_bad (by rw [hs];rfl)] at h1;simp only [] at h1;rw [hs] at h1;cases h1
    obtain ⟨P,deg,L2,r1,c1,c2,c3,c4,c5,_⟩:=row_ok (s:=(r,none)) h h2;rw [c4] at h1 hn ⊢;obtain ⟨d1,⟨r2,d2,d3⟩,_⟩:=ids_ok (s:=(r1,none)) c5 h1;exact ⟨P,deg,L2,c1,c2,c3,d1,by rw [d2]⟩
  rename_i hf3
  rw [if_neg hf3,if_neg hf3]
  split at hn
  · rename_i hf
    rw [if_pos hf,if_pos hf,if_neg (by rw [hf];decide)];have h1:=end_bad hn;simp only [] at h1 hn;have h2:(eqS (r,none)).2=none:=by
      cases hs:(eqS (r,none)).2 with
      | none=>rfl
      | some z=>rw [rowP_bad (by rw [hs];rfl),hs] at h1;cases h1
    obtain ⟨i,M1,r1,b1,b2,b3,b4,b5,_⟩:=eqS_ok (s:=(r,none)) h h2;rw [b4] at h1 hn ⊢;obtain ⟨P,deg,L2,r2,c1,c2,c3,c4,c5,_⟩:=row_ok (s:=(r1,none)) b5 h1;rw [c4] at hn ⊢;have:=(end_ok (s:=(r2,none)) c5 hn).1;subst this;exact ⟨i,P,deg,by rw [b1,c1,List.append_nil],b2,c2,c3,by rw [b3]⟩
  rename_i hf4
  rw [if_neg hf4,if_neg hf4]
  split at hn
  · rename_i hf
    rw [if_pos hf,if_pos hf,if_neg (by rw [hf];decide)];have h1:=end_bad hn;simp only [] at h1 hn;obtain ⟨d1,⟨r2,d2,d3⟩,_⟩:=list_ok (ok:=fun x=>(litP x).2=true) (fun _ _ h=>⟨(literal_ok h).1,(literal_ok h).2.1⟩) (s:=(r,none)) h h1;refine ⟨M.map fun x=>(litP x).1,(map_back M d1).symm,?_,by rw [d2]⟩;intro n hn;obtain ⟨x,hx,rfl⟩:=List.mem_map.1 hn;exact lit_ok (d1 x hx)
  rename_i hf5
  rw [if_neg hf5,if_neg hf5]
  split at hn
  · rename_i hf
    rw [if_pos hf,if_pos hf,if_neg (by rw [hf];decide)];have h1:=end_bad hn;simp only [] at h1 hn;have h2:(eqS (r,none)).2=none:=by
      cases hs:(eqS (r,none)).2 with
      | none=>rfl
      | some z=>unfold idsP at h1;rw [list_bad (by rw [hs];rfl)] at h1;simp only [] at h1;rw [hs] at h1;cases h1
    obtain ⟨i,M1,r1,b1,b2,b3,b4,b5,_⟩:=eqS_ok (s:=(r,none)) h h2;rw [b4] at h1 hn ⊢;obtain ⟨d1,⟨r2,d2,d3⟩,_⟩:=ids_ok (s:=(r1,none)) b5 h1;exact ⟨i,M1,b1,b2,d1,by rw [b3,d2]⟩
  rename_i hf6
  rw [if_neg hf6,if_neg hf6]
  split at hn
  · rename_i hf
    rw [if_pos hf,if_pos hf,if_pos hf];exact ⟨rfl,rfl⟩
  rename_i hf7
  rw [if_neg hf7,if_neg hf7,if_neg hf7]
  split at hn
  · rename_i hf
    rw [if_pos hf,if_pos hf];have h1:=end_bad hn;unfold endsP at h1 hn ⊢;simp only [] at h1 hn ⊢;obtain ⟨g,hg,N,r1,c1,c2,c3,_⟩:=pick_ok rdC_bad (s:=(r,none)) h h1;rw [c3] at hn ⊢;exact ⟨g,hg,N,_,c1,rdC_ok c2 hn,rfl⟩
  · rename_i hf8
    rw [if_neg hf8,if_neg hf8];exact ⟨(end_ok (s:=(r,none)) h hn).1,rfl⟩
theorem claims_find (g:FmL) (hg:g∈claimsL):(claimsL.find? fun h=>decide (fstW g=fstW h))=some g:=by
  simp only [claimsL,List.mem_cons,List.not_mem_nil,or_false] at hg
  rcases hg with rfl | rfl | rfl | rfl | rfl <;> kernel_rfl
theorem forms_find (g:FmL) (hg:g∈formsL):(formsL.find? fun h=>decide (fstW g=fstW h))=some g:=by
  simp only [formsL,List.mem_cons,List.not_mem_nil,or_false] at hg
  rcases hg with rfl | rfl | rfl | rfl | rfl | rfl | rfl | rfl | rfl | rfl | rfl | rfl <;> kernel_rfl
theorem rdF_yes {f:FuncId} {r:List UInt8} {M:List (List UInt8)} {d:SL} (h:Tk r M) (hb:BdF f M d):∃ r',rdF f (r,none)=(d,(r',none))/\Tk r' []:=by
  unfold BdF at hb;unfold rdF
  split at hb
  · rename_i hf
    rw [if_pos hf];obtain ⟨n,rfl,hn,rfl⟩:=hb;obtain ⟨r1,c1,c2⟩:=tk_next h;have e:sizeP (r,none)=(n,(r1,none)):=by unfold sizeP;rw [c1];simp only [];rw [whole_yes hn]
    rw [e];exact ⟨r1,rfl,c2⟩
  rename_i hf1
  rw [if_neg hf1]
  split at hb
  · rename_i hf
    rw [if_pos hf];obtain ⟨F,h0,hr,rfl⟩:=hb;obtain ⟨r1,c1,c2⟩:=ops_yes h h0 hr;rw [c1];exact ⟨r1,rfl,c2⟩
  rename_i hf2
  rw [if_neg hf2]
  split at hb
  · rename_i hf
    rw [if_pos hf];obtain ⟨P,deg,ids,rfl,hP,hd,hi,rfl⟩:=hb;obtain ⟨r1,c1,c2⟩:=row_yes h hP hd;obtain ⟨r2,d1,d2⟩:=ids_yes c2 hi;rw [c1];simp only [];rw [d1];exact ⟨r2,rfl,d2⟩
  rename_i hf3
  rw [if_neg hf3]
  split at hb
  · rename_i hf
    rw [if_pos hf];obtain ⟨i,P,deg,rfl,hi,hP,hd,rfl⟩:=hb;obtain ⟨r1,b1,b2,b3⟩:=eqS_yes h hi;obtain ⟨r2,c1,c2⟩:=row_yes (L2:=[]) (by rw [List.append_nil];exact b3) hP hd;rw [b1,b2,c1];exact ⟨r2,rfl,c2⟩
  rename_i hf4
  rw [if_neg hf4]
  split at hb
  · rename_i hf
    rw [if_pos hf];obtain ⟨l,rfl,hl,rfl⟩:=hb;obtain ⟨r1,c1,c2⟩:=list_yes (rd:=literalP) (ok:=fun x=>(litP x).2=true) (fun _ _ h=>literal_yes h) h (fun x hx=>by obtain ⟨n,hn,rfl⟩:=List.mem_map.1 hx;exact (hl n hn).two.1);rw [c1];refine ⟨r1,?_,c2⟩;have:(l.map litT).map (fun x=>(litP x).1)=l:=by
      rw [List.map_map]
      conv=>rhs;rw [<-List.map_id l]
      exact List.map_congr_left fun n hn=>(hl n hn).two.2
    simp only [];rw [this]
  rename_i hf5
  rw [if_neg hf5]
  split at hb
  · rename_i hf
    rw [if_pos hf];obtain ⟨i,ids,rfl,hi,hd,rfl⟩:=hb;obtain ⟨r1,b1,b2,b3⟩:=eqS_yes h hi;obtain ⟨r2,d1,d2⟩:=ids_yes b3 hd;rw [b1,b2,d1];exact ⟨r2,rfl,d2⟩
  rename_i hf6
  rw [if_neg hf6]
  split at hb
  · rename_i hf
    rw [if_pos hf];obtain ⟨rfl,rfl⟩:=hb;exact ⟨[],rfl,rfl⟩
  rename_i hf7
  rw [if_neg hf7]
  split at hb
  · rename_i hf
    rw [if_pos hf];obtain ⟨g,hg,N,e,rfl,hB,rfl⟩:=hb;obtain ⟨r1,c1,c2⟩:=pick_yes (rd:=rdC) g (claims_find g hg) h;obtain ⟨r2,d1,d2⟩:=rdC_yes c2 hB;rw [d1] at c1;unfold endsP;rw [c1];exact ⟨r2,rfl,d2⟩
  · rename_i hf8
    rw [if_neg hf8];obtain ⟨rfl,rfl⟩:=hb;exact ⟨r,rfl,h⟩
def Rgt (L:List (List UInt8)) (d:SL):Prop:=∃ f∈formsL,∃ M e,L=fmW f++M/\BdF f.2.2.1 M e/\d={ e with k:=f.1 }
theorem trim_blank {y:List UInt8} (h:(trimR y).dropWhile blk=[]):y.dropWhile blk=[]:=by
  have all:∀ l:List UInt8,l.dropWhile blk=[]->∀ c∈l,blk c=true:=by
    intro l
    induction l with
    | nil=>intro _ c hc;exact absurd hc List.not_mem_nil
    | cons d l ih =>
      intro hl c hc
      by_cases hd:blk d=true
      · rw [List.dropWhile_cons_of_pos hd] at hl
        rcases List.mem_cons.1 hc with rfl | hc
        · exact hd
        · exact ih hl c hc
      · rw [List.dropWhile_cons_of_neg hd] at hl;cases hl
  have back:∀ l:List UInt8,(∀ c∈l,blk c=true)->l.dropWhile blk=[]:=by
    intro l
    induction l with
    | nil=>intro _;rfl
    | cons d l ih=>intro hl;rw [List.dropWhile_cons_of_pos (hl d List.mem_cons_self)];exact ih fun c hc=>hl c (List.mem_cons_of_mem _ hc)
  refine back y fun c hc=>?_
  have h1:=all _ h;have e:y=trimR y++(y.reverse.takeWhile blk).reverse:=by
    unfold trimR;rw [<-List.reverse_append,List.takeWhile_append_dropWhile,List.reverse_reverse]
  rw [e] at hc;rcases List.mem_append.1 hc with hc | hc
  · exact h1 c hc
  · exact List.all_eq_true.1 (List.all_takeWhile (l:=y.reverse) (p:=blk)) c (List.mem_reverse.1 hc)
theorem note_right:Rgt [[42]] { SL.zero with k:=7 }:=⟨(7,[42],168,155),by simp [formsL],[],SL.zero,by kernel_rfl,⟨rfl,rfl⟩,rfl⟩
theorem read_right {x:List UInt8} {d:SL} (h:readP x=(d,none)):∃ L,Rgt L d/\(Tk x L∨L=[[42]]):=by
  unfold readP at h
  split at h
  · have:d={ SL.zero with k:=7 }:=(Prod.ext_iff.1 h).1.symm
    rw [this];exact ⟨_,note_right,.inr rfl⟩
  · have h1:(endP (pickP formsL rdF (x,none)).2.2).2=none:=(Prod.ext_iff.1 h).2
    have h2:d={ (pickP formsL rdF (x,none)).2.1 with k:=(pickP formsL rdF (x,none)).1 }:=(Prod.ext_iff.1 h).1.symm;obtain ⟨L,hL⟩:=tk_of x;obtain ⟨f,hf,M,r',c1,c2,c3,_⟩:=pick_ok rdF_bad (s:=(x,none)) hL (end_bad h1);rw [c3] at h1 h2;have hb:=rdF_ok c2 h1;refine ⟨fmW f++(if f.2.2.1=168 then [] else M),⟨f,hf,_,_,rfl,hb,h2⟩,?_⟩
    by_cases h95:f.2.2.1=168
    · right
      rw [if_pos h95];simp only [formsL,List.mem_cons,List.not_mem_nil,or_false] at hf
      rcases hf with rfl | rfl | rfl | rfl | rfl | rfl | rfl | rfl | rfl | rfl | rfl | rfl <;> first | exact absurd h95 (by decide) | kernel_rfl
    · left
      rw [if_neg h95,<-c1];exact hL
theorem right_read {y:List UInt8} {L:List (List UInt8)} {d:SL} (hr:Rgt L d) (h:Tk y L):readP y=(d,none):=by
  obtain ⟨f,hf,M,e,rfl,hb,rfl⟩:=hr;have h0:¬ (trimR y).dropWhile blk=[]:=fun h1=>h.1 (trim_blank h1)
  obtain ⟨r1,c1,c2⟩:=pick_yes (rd:=rdF) f (forms_find f hf) h;obtain ⟨r2,d1,d2⟩:=rdF_yes c2 hb;rw [d1] at c1;unfold readP;rw [if_neg h0,c1];simp only [];rw [end_yes d2]
theorem BdC.good {f:FuncId} {M:List (List UInt8)} {d:SL} (h:BdC f M d):∀ x∈M,Gw x:=by
  have g58:Gw [58]:=⟨by decide,fun c hc=>by simp at hc;subst hc;decide⟩;unfold BdC at h
  split at h
  · rcases h with ⟨rfl,_⟩ | ⟨i,rfl,hi,_⟩
    · intro x hx;exact absurd hx List.not_mem_nil
    · intro x hx;simp at hx;rcases hx with rfl | rfl
      · exact g58
      · exact bad_good hi
  split at h
  · rcases h with ⟨a,b,rfl,ha,hb,_⟩ | ⟨a,i,b,rfl,ha,hi,hb,_⟩
    · intro x hx;simp at hx;rcases hx with rfl | rfl
      · exact bad_good ha
      · exact bad_good hb
    · intro x hx;simp at hx;rcases hx with rfl | rfl | rfl | rfl
      · exact bad_good ha
      · exact g58
      · exact bad_good hi
      · exact bad_good hb
  split at h
  · obtain ⟨a,i,rfl,ha,hi,_⟩:=h
    intro x hx;simp at hx;rcases hx with rfl | rfl | rfl
    · exact bad_good ha
    · exact g58
    · exact bad_good hi
  · obtain ⟨rfl,_⟩:=h
    intro x hx;exact absurd hx List.not_mem_nil
theorem row_good {P:List PcL} {deg:List UInt8} (hP:∀ o∈P,okPc o) (hd:badN deg (-1)=false):∀ x∈rowT P deg,Gw x:=by
  intro x hx;unfold rowT at hx;rcases List.mem_append.1 hx with hx | hx
  · unfold pcsT at hx
    obtain ⟨o,ho,hx⟩:=List.mem_flatMap.1 hx;simp at hx;rcases hx with rfl | rfl
    · exact bad_good (hP o ho).1
    · exact (hP o ho).2.good.1
  · simp at hx
    rcases hx with rfl | rfl | rfl
    · exact ⟨by decide,fun c hc=>by simp at hc;rcases hc with rfl | rfl <;> decide⟩
    · exact bad_good hd
    · exact ⟨by decide,fun c hc=>by simp at hc;subst hc;decide⟩
def gwB (x:List UInt8):Bool:=!x.isEmpty&&x.all fun c=>!blk c&&c != 10
theorem gw_of {x:List UInt8} (h:gwB x=true):Gw x:=by
  unfold gwB at h;simp only [Bool.and_eq_true,List.all_eq_true,Bool.not_eq_true',bne_iff_ne] at h;exact ⟨fun e=>by rw [e] at h;simp at h,h.2⟩
theorem forms_good (f:FmL) (hf:f∈formsL):∀ x∈fmW f,Gw x:=by
  have:∀ x∈fmW f,gwB x=true:=by
    simp only [formsL,List.mem_cons,List.not_mem_nil,or_false] at hf;rw [<-List.all_eq_true]
    rcases hf with rfl | rfl | rfl | rfl | rfl | rfl | rfl | rfl | rfl | rfl | rfl | rfl <;> kernel_rfl
  exact fun x hx=>gw_of (this x hx)
theorem claims_good (f:FmL) (hf:f∈claimsL):∀ x∈fmW f,Gw x:=by
  have:∀ x∈fmW f,gwB x=true:=by
    simp only [claimsL,List.mem_cons,List.not_mem_nil,or_false] at hf;rw [<-List.all_eq_true]
    rcases hf with rfl | rfl | rfl | rfl | rfl <;> kernel_rfl
  exact fun x hx=>gw_of (this x hx)
theorem BdF.good {f:FuncId} {M:List (List UInt8)} {d:SL} (h:BdF f M d):∀ x∈M,Gw x:=by
  unfold BdF at h
  split at h
  · obtain ⟨n,rfl,hn,_⟩:=h
    intro x hx;simp at hx;rw [hx];exact bad_good hn
  split at h
  · obtain ⟨F,_,hr,_⟩:=h
    exact (runW_is M [] F hr).2.1
  split at h
  · obtain ⟨P,deg,ids,rfl,hP,hd,hi,_⟩:=h
    intro x hx;rcases List.mem_append.1 hx with hx | hx
    · exact row_good hP hd x hx
    · exact bad_good (hi x hx)
  split at h
  · obtain ⟨i,P,deg,rfl,hi,hP,hd,_⟩:=h
    intro x hx;rcases List.mem_cons.1 hx with rfl | hx
    · exact bad_good hi
    · exact row_good hP hd x hx
  split at h
  · obtain ⟨l,rfl,hl,_⟩:=h
    intro x hx;obtain ⟨n,hn,rfl⟩:=List.mem_map.1 hx;exact (hl n hn).good.1
  split at h
  · obtain ⟨i,ids,rfl,hi,hd,_⟩:=h
    intro x hx;rcases List.mem_cons.1 hx with rfl | hx
    · exact bad_good hi
    · exact bad_good (hd x hx)
  split at h
  · obtain ⟨rfl,_⟩:=h
    intro x hx;exact absurd hx List.not_mem_nil
  split at h
  · obtain ⟨g,hg,N,e,rfl,hB,_⟩:=h
    intro x hx;rcases List.mem_append.1 hx with hx | hx
    · exact claims_good g hg x hx
    · exact hB.good x hx
  · obtain ⟨rfl,_⟩:=h
    intro x hx;exact absurd hx List.not_mem_nil
theorem Rgt.good {L:List (List UInt8)} {d:SL} (h:Rgt L d):(∀ x∈L,Gw x)/\L≠[]:=by
  obtain ⟨f,hf,M,e,rfl,hb,_⟩:=h;refine ⟨fun x hx=>?_,by simp [fmW]⟩;rcases List.mem_append.1 hx with hx | hx
  · exact forms_good f hf x hx
  · exact hb.good x hx
end Go.Proofs.YtpcijhecaedkpaaGreatDoor

namespace Go.Proofs.YtpcijhecaedkpaaGreatDoor
open Go.RowKit
theorem forms_kind (f:FmL) (hf:f∈formsL) (d:SL):kindT formsL wrF f.1 d=f.2.1 :: wrF f.2.2.2 d:=by
  simp only [formsL,List.mem_cons,List.not_mem_nil,or_false] at hf
  rcases hf with rfl | rfl | rfl | rfl | rfl | rfl | rfl | rfl | rfl | rfl | rfl | rfl <;> simp [kindT,formsL]
theorem claims_kind (f:FmL) (hf:f∈claimsL) (d:SL):kindT claimsL wrC f.1 d=f.2.1 :: wrC f.2.2.2 d:=by
  simp only [claimsL,List.mem_cons,List.not_mem_nil,or_false] at hf
  rcases hf with rfl | rfl | rfl | rfl | rfl <;> simp [kindT,claimsL]
theorem forms_word (f:FmL) (hf:f∈formsL):f.2.1=wordsP (fmW f) []/\f.2.1≠[]:=by
  simp only [formsL,List.mem_cons,List.not_mem_nil,or_false] at hf
  rcases hf with rfl | rfl | rfl | rfl | rfl | rfl | rfl | rfl | rfl | rfl | rfl | rfl <;> exact ⟨by kernel_rfl,by simp⟩
theorem claims_word (f:FmL) (hf:f∈claimsL):fmW f=[f.2.1]:=by
  simp only [claimsL,List.mem_cons,List.not_mem_nil,or_false] at hf
  rcases hf with rfl | rfl | rfl | rfl | rfl <;> kernel_rfl
theorem wrC_is (f:FmL) (hf:f∈claimsL) {M:List (List UInt8)} {e:SL} (h:BdC f.2.2.1 M e) (d:SL) (hi:d.ids=e.ids) (hl:d.low=e.low) (hh:d.high=e.high):wrC f.2.2.2 d=M:=by
  simp only [claimsL,List.mem_cons,List.not_mem_nil,or_false] at hf;rcases hf with rfl | rfl | rfl | rfl | rfl
  · exact h.1.symm
  · rcases h with ⟨rfl,rfl⟩ | ⟨i,rfl,_,rfl⟩
    · show leanT d.ids=_;rw [hi];rfl
    · show leanT d.ids=_;rw [hi];rfl
  · exact h.1.symm
  · rcases h with ⟨a,b,rfl,_,_,rfl⟩ | ⟨a,i,b,rfl,_,_,_,rfl⟩
    · show (d.low :: leanT d.ids)++[d.high]=_;rw [hi,hl,hh];rfl
    · show (d.low :: leanT d.ids)++[d.high]=_;rw [hi,hl,hh];rfl
  · obtain ⟨a,i,rfl,_,_,rfl⟩:=h
    show d.high :: leanT d.ids=_;rw [hi,hh];rfl
theorem wrF_is (f:FmL) (hf:f∈formsL) {M:List (List UInt8)} {e:SL} (h:BdF f.2.2.1 M e):wrF f.2.2.2 { e with k:=f.1 }=M:=by
  simp only [formsL,List.mem_cons,List.not_mem_nil,or_false] at hf;rcases hf with rfl | rfl | rfl | rfl | rfl | rfl | rfl | rfl | rfl | rfl | rfl | rfl
  · exact h.1.symm
  · obtain ⟨n,rfl,_,rfl⟩:=h;rfl
  · obtain ⟨F,_,hr,rfl⟩:=h
    show opsT F=M;have:=(runW_is M [] F hr).1;rw [this];rfl
  · obtain ⟨P,deg,ids,rfl,_,_,_,rfl⟩:=h;rfl
  · obtain ⟨i,P,deg,rfl,_,_,_,rfl⟩:=h;rfl
  · obtain ⟨l,rfl,_,rfl⟩:=h;rfl
  · obtain ⟨l,rfl,_,rfl⟩:=h;rfl
  · obtain ⟨i,ids,rfl,_,_,rfl⟩:=h;rfl
  · exact h.1.symm
  · exact h.1.symm
  · obtain ⟨g,hg,N,e',rfl,hB,rfl⟩:=h
    show kindT claimsL wrC g.1 _=_;rw [claims_kind g hg,claims_word g hg];exact congrArg (List.cons g.2.1) (wrC_is g hg hB _ rfl rfl rfl)
  · exact h.1.symm
theorem Rgt.line {L:List (List UInt8)} {d:SL} (h:Rgt L d):lnT d=wordsP L []/\lnT d≠[]/\tot (lnW d)=(lnT d).length+1:=by
  have hg:=h.good;obtain ⟨f,hf,M,e,rfl,hb,rfl⟩:=h;have e1:lnW { e with k:=f.1 }=f.2.1 :: M:=by
    show kindT formsL wrF f.1 _=_;rw [forms_kind f hf,wrF_is f hf hb]
  obtain ⟨w1,w2⟩:=forms_word f hf;have hlen:∀ M:List (List UInt8),(spW M).length=tot M:=by
    intro M
    induction M with
    | nil=>rfl
    | cons x M ih=>simp [spW,tot] at ih ⊢;omega
  have e2:lnT { e with k:=f.1 }=f.2.1++spW M:=by unfold lnT;rw [e1,words_first _ _ w2]
  refine ⟨?_,?_,?_⟩
  · rw [e2,words_app,<-w1,words_sp _ _ w2]
  · rw [e2];simp [w2]
  · rw [e1,e2,List.length_append,hlen]
    simp [tot];omega
theorem Rgt.tk {L:List (List UInt8)} {d:SL} (h:Rgt L d):Tk (lnT d) L:=by
  rw [h.line.1]
  cases L with
  | nil=>exact absurd rfl h.good.2
  | cons x L=>exact tk_line x L fun y hy=>(h.good.1 y hy).pw
theorem Rgt.parse {L:List (List UInt8)} {d:SL} (h:Rgt L d):parseP (lnT d)=(d,0):=by
  unfold parseP;rw [right_read h h.tk]
theorem parse_right {x:List UInt8} {d:SL} (h:parseP x=(d,0)) (h0:∀ e,(readP x).2=some e->e≠0):∃ L,Rgt L d/\(Tk x L∨L=[[42]]):=by
  unfold parseP at h
  cases hr:(readP x).2 with
  | some e=>rw [hr] at h;exact absurd (Prod.ext_iff.1 h).2 (h0 e hr)
  | none =>
    rw [hr] at h;exact read_right (Prod.ext (Prod.ext_iff.1 h).1 hr)
end Go.Proofs.YtpcijhecaedkpaaGreatDoor

namespace Go.Proofs.YtpcijhecaedkpaaGreatDoor
open Go.RowKit
theorem rd_of_own {w:World} {B:Nat} {e:TypeId} {m:Nat} {v:Value} {n:Nat} {xs:List Value} (h:w.ownsRow B e m v n xs) (hn:n<=9223372036854775807):RdAt w v n xs:=by
  have hc:=fun g hg=>h.cells (g:=g) hg
  rcases h.2 with ⟨rfl,rfl⟩ | ⟨g,cap,cur,rfl,_,hg,_⟩
  · exact ⟨none,0,rfl,hn,fun h0=>absurd h0 (Nat.lt_irrefl _)⟩
  · refine ⟨_,_,rfl,hn,fun _=>⟨g,0,rfl,(Array.getElem?_eq_some_iff.1 hg).1,fun j u hu=>?_⟩⟩
    have:=hc g rfl j u hu
    by_cases hj:j=0
    · subst hj;simpa [Addr.add] using this
    · simpa [Addr.add,hj] using this
theorem RdAt.e {w:World} {v:Value} {n:Nat} {xs:List Value} (h:RdAt w v n xs):RdE w.heap.size w v n xs:=by
  obtain ⟨a,cap,h1,h2,h3⟩:=h;refine ⟨a,cap,h1,h2,fun h0=>?_⟩;obtain ⟨g,off,e1,e2,e3⟩:=h3 h0;exact ⟨g,off,e1,.inl e2,e2,e3⟩
theorem SlR.e {w:World} {d:SL} {vo vp vl vi:Value} (h:SlR w d vo vp vl vi):SlE w.heap.size w d vo vp vl vi:=⟨h.o.e,h.p.e,h.l.e,h.i.e⟩
end Go.Proofs.YtpcijhecaedkpaaGreatDoor

namespace Go.Proofs.YtpcijhecaedkpaaGreatDoor
open Go.RowKit
set_option maxRecDepth 10000
set_option maxHeartbeats 8000000
def rowB (L M:List PcL) (a b:List UInt8):Bool:=decide (L=M/\a=b)
theorem rowB_no {L M:List PcL} {a b:List UInt8} (h:L≠M∨a≠b):rowB L M a b=false:=decide_eq_false fun e=>h.elim (fun k=>k e.1) fun k=>k e.2
theorem rowB_yes {L M:List PcL} {a b:List UInt8} (h:L=M) (k:a=b):rowB L M a b=true:=decide_eq_true ⟨h,k⟩
theorem sameRow_any (L M:List PcL) (deg deg':List UInt8) (v v':Value) (w:World) (h:RdAt w v L.length (pcsC L)) (h':RdAt w v' M.length (pcsC M)):Calls Tryz.prog 36 #[.agg #[v,.string (txtOf deg)],.agg #[v',.string (txtOf deg')]] w fun e w'=>e=.returned (.bool (rowB L M deg deg'))/\Below w.heap.size w w':=by
  obtain ⟨a,cap,rfl,hn,hc⟩:=h;obtain ⟨a',cap',rfl,hn',hc'⟩:=h';have HC:Hid (∀ w',Below w.heap.size w w'->∀ j (hj:j<L.length),∃ g off,a=some ⟨g,off,none⟩/\w'.cell? ⟨g,off+j*2,none⟩=some (.string (txtOf L[j].1))/\w'.cell? ⟨g,off+j*2+1,none⟩=some (.int .i64 L[j].2)):=fun w' hb j hj=>by
    obtain ⟨g,off,e1,e2,e3⟩:=hc (by omega);obtain ⟨p1,p2⟩:=pcs_get L j hj;exact ⟨g,off,e1,(hb.cell (p:=⟨g,off+j*2,none⟩) e2).trans (e3 _ _ p1),(hb.cell (p:=⟨g,off+j*2+1,none⟩) e2).trans (e3 _ _ p2)⟩
  have HC':Hid (∀ w',Below w.heap.size w w'->∀ j (hj:j<M.length),∃ g off,a'=some ⟨g,off,none⟩/\w'.cell? ⟨g,off+j*2,none⟩=some (.string (txtOf M[j].1))/\w'.cell? ⟨g,off+j*2+1,none⟩=some (.int .i64 M[j].2)):=fun w' hb j hj=>by
    obtain ⟨g,off,e1,e2,e3⟩:=hc' (by omega);obtain ⟨p1,p2⟩:=pcs_get M j hj;exact ⟨g,off,e1,(hb.cell (p:=⟨g,off+j*2,none⟩) e2).trans (e3 _ _ p1),(hb.cell (p:=⟨g,off+j*2+1,none⟩) e2).trans (e3 _ _ p2)⟩
  have hqd:=txt_beq deg deg';have HF:Hid (L≠M∨deg≠deg'->rowB L M deg deg'=false):=rowB_no;have HT:Hid (L=M->deg=deg'->rowB L M deg deg'=true):=rowB_yes;obtain ⟨D,hD⟩:∃ D,txtOf deg=D:=⟨_,rfl⟩;obtain ⟨D',hD'⟩:∃ D,txtOf deg'=D:=⟨_,rfl⟩;rw [hD,hD'] at hqd;rw [hD,hD'];obtain ⟨W,hW⟩:∃ W,(w.alloc (.cells #[.slice a L.length cap,.string D] 49)).alloc (.cells #[.slice a' M.length cap',.string D'] 49)=W:=⟨_,rfl⟩;have hb0:Below w.heap.size w W:=by rw [<-hW];exact ((Below.refl _ _).alloc (Nat.le_refl _) _).alloc (by simp) _
  have g0:W.heap[w.heap.size]?=some (.cells #[.slice a L.length cap,.string D] 49 (0,0)):=by rw [<-hW,heap_alloc_old (w.alloc _) _ (by simp)];exact heap_alloc_new w _
  have g1:W.heap[w.heap.size+1]?=some (.cells #[.slice a' M.length cap',.string D'] 49 (0,0)):=by rw [<-hW];exact heap_alloc2_new w _ _
  have hl0:=(Array.getElem?_eq_some_iff.1 g0).1;have hl1:=(Array.getElem?_eq_some_iff.1 g1).1;have HB:Hid (Below w.heap.size w W):=hb0;have HM:Hid (∀ w',Below W.heap.size W w'->w'.cell? ⟨w.heap.size,0,none⟩=some (.slice a L.length cap)/\w'.cell? ⟨w.heap.size+1,0,none⟩=some (.slice a' M.length cap')/\w'.cell? ⟨w.heap.size,1,none⟩=some (.string D)/\w'.cell? ⟨w.heap.size+1,1,none⟩=some (.string D')):=fun w' hb=>by
    have f0:=(hb.block _ hl0).trans g0;have f1:=(hb.block _ hl1).trans g1;exact ⟨cell_of f0 0,cell_of f1 0,cell_of f0 1,cell_of f1 1⟩
  obtain ⟨m0,m1,m2,m3⟩:=HM.out W (Below.refl _ _);clear hc hc' hD hD' hb0 g0 g1 hl0 hl1
  by_cases hlen:L.length=M.length
  case neg=>
    have hlI:¬ ((L.length:Int)=(M.length:Int)):=by omega
    have HNo:Hid (rowB L M deg deg'=false):=HF.out (Or.inl fun e=>hlen (by rw [e]));go_enter Tryz.func36,Tryz.ntmps36;go_wp2_with fail
    go_ret;exact ⟨by rw [HNo.out];rfl,HB.out⟩
  have HLen:Hid (L.length=M.length):=hlen;rw [<-hlen] at m1 HM;rw [<-hlen] at hW ⊢;clear hlen hn'
  by_cases hdg:deg=deg'
  case neg=>
    rw [decide_eq_false hdg] at hqd;have HNo:Hid (rowB L M deg deg'=false):=HF.out (Or.inr hdg);go_enter Tryz.func36,Tryz.ntmps36;go_wp2_with fail
    go_ret;exact ⟨by rw [HNo.out];rfl,HB.out⟩
  rw [decide_eq_true hdg] at hqd;have HDg:Hid (deg=deg'):=hdg;clear hdg;go_enter Tryz.func36,Tryz.ntmps36;go_wp2_with fail
  go_loopw [5] (fun iv wr=>∃ k:Nat,iv=.int .i64 (k:Int)/\k<=L.length/\Hid (Below W.heap.size W wr/\L.take k=M.take k)) (fun iv _=>L.length-(intOf iv).toNat)
  case atStart=>exact ⟨0,rfl,Nat.zero_le _,Below.refl _ _,rfl⟩
  case round=>
    obtain ⟨k,rfl,hk,HBr⟩:=hrel;obtain ⟨n0,n1,_,_⟩:=HM.out wr HBr.out.1
    by_cases hkn:k<L.length
    · have hkI:(k:Int)<(L.length:Int):=by omega
      have hkm:k<M.length:=by have:=HLen.out;omega
      obtain ⟨g,off,rfl,x0,x1⟩:=HC.out wr (HB.out.trans (HBr.out.1.mono HB.out.size)) k hkn;obtain ⟨g',off',rfl,y0,y1⟩:=HC'.out wr (HB.out.trans (HBr.out.1.mono HB.out.size)) k hkm
      by_cases hel:L[k]=M[k]
      · have HNx:Hid (L.take (k+1)=M.take (k+1)):=take_grow HBr.out.2 hkn hkm hel
        rw [<-hel] at y0 y1;obtain ⟨T,hT⟩:∃ T,txtOf L[k].1=T:=⟨_,rfl⟩;obtain ⟨n,hn2⟩:∃ n,L[k].2=n:=⟨_,rfl⟩;rw [hT] at x0 y0;rw [hn2] at x1 y1;have hne:∀ W,(binOp .neq 160 (.agg #[.string T,.int .i64 n]) (.agg #[.string T,.int .i64 n])).run Tryz.prog W=.ok (.bool false) W:=fun W=>by rw [pc_neq];simp
        clear hT hn2 hel;go_wp2_with fail
        go_region;have HBd:Hid (Below W.heap.size W wr.drew):=HBr.out.1.drew;go_wp2_with fail
        go_roundw
        case rel=>exact ⟨k+1,by go_num,hkn,HBd.out,HNx.out⟩
        case measure=>simp [intOf];omega
      · have HNo:Hid (rowB L M deg deg'=false):=HF.out (Or.inl (get_ne hkn hkm hel))
        have hb:((txtOf L[k].1).toList==(txtOf M[k].1).toList&&L[k].2==M[k].2)=false:=by
          rw [txt_beq]
          cases hq:decide (L[k].1=M[k].1) with
          | false=>rfl
          | true =>
            have h2:L[k].2≠M[k].2:=fun e=>hel (Prod.ext (of_decide_eq_true hq) e)
            simpa using h2
        obtain ⟨T,hT⟩:∃ T,txtOf L[k].1=T:=⟨_,rfl⟩;obtain ⟨n,hn2⟩:∃ n,L[k].2=n:=⟨_,rfl⟩;obtain ⟨T',hT'⟩:∃ T,txtOf M[k].1=T:=⟨_,rfl⟩;obtain ⟨n',hn3⟩:∃ n,M[k].2=n:=⟨_,rfl⟩;rw [hT] at x0 hb;rw [hT'] at y0 hb;rw [hn2] at x1 hb;rw [hn3] at y1 hb;have hne:∀ W,(binOp .neq 160 (.agg #[.string T,.int .i64 n]) (.agg #[.string T',.int .i64 n'])).run Tryz.prog W=.ok (.bool true) W:=fun W=>by rw [pc_neq,hb];rfl
        clear hT hn2 hT' hn3 hel hb;go_wp2_with fail
        go_region;have HBd:Hid (Below W.heap.size W wr.drew):=HBr.out.1.drew;go_wp2_with fail
        go_ret;exact ⟨by rw [HNo.out];rfl,HB.out.trans (HBd.out.mono HB.out.size)⟩
    · have hkI:¬ (k:Int)<(L.length:Int):=by omega
      have HYes:Hid (rowB L M deg deg'=true):=HT.out (take_all HBr.out.2 (by omega) (by have:=HLen.out;omega)) HDg.out;go_wp2_with fail
      go_ret;exact ⟨by rw [HYes.out];rfl,HB.out.trans (HBr.out.1.mono HB.out.size)⟩
end Go.Proofs.YtpcijhecaedkpaaGreatDoor

namespace Go.Proofs.YtpcijhecaedkpaaGreatDoor
open Go.RowKit
set_option maxRecDepth 10000
set_option maxHeartbeats 8000000
theorem sl_eq {d f:SL} (e1:d.k=f.k) (e2:d.n=f.n) (e3:d.ends=f.ends) (e4:d.low=f.low) (e5:d.high=f.high) (e6:d.pcs=f.pcs/\d.deg=f.deg) (e8:d.ops=f.ops) (e9:d.lits=f.lits) (e10:d.ids=f.ids):d=f:=by
  obtain ⟨a1,a2,a3,a4,a5,a6,a7,a8,a9,a10⟩:=d;obtain ⟨b1,b2,b3,b4,b5,b6,b7,b8,b9,b10⟩:=f;obtain ⟨e6,e7⟩:=e6;simp only [] at e1 e2 e3 e4 e5 e6 e7 e8 e9 e10;rw [e1,e2,e3,e4,e5,e6,e7,e8,e9,e10]
theorem rsame_any (d f:SL) (vo vp vl vi vo2 vp2 vl2 vi2:Value) (w:World) (h:SlR w d vo vp vl vi) (h':SlR w f vo2 vp2 vl2 vi2):Calls Tryz.prog 13 #[.agg (slC d vo vp vl vi),.agg (slC f vo2 vp2 vl2 vi2)] w fun e w'=>e=.returned (.bool (sameB d f))/\Below w.heap.size w w':=by
  obtain ⟨oa,oc,rfl,ho,hco⟩:=id h.o;obtain ⟨oa2,oc2,rfl,ho2,hco2⟩:=id h'.o;obtain ⟨pa,pc,rfl,hp,_⟩:=id h.p;obtain ⟨pa2,pc2,rfl,_,_⟩:=id h'.p;obtain ⟨la,lc,rfl,hl,hcl⟩:=id h.l;obtain ⟨la2,lc2,rfl,hl2,hcl2⟩:=id h'.l;obtain ⟨ia,ic,rfl,hi,_⟩:=id h.i;obtain ⟨ia2,ic2,rfl,_,_⟩:=id h'.i;unfold slC;have HTx:Hid (∀ w',Below w.heap.size w w'->Calls Tryz.prog 35 #[.slice ia d.ids.length ic,.slice ia2 f.ids.length ic2] w' fun e w2=>e=.returned (.bool (decide (d.ids=f.ids)))/\Below w'.heap.size w' w2):=fun w' hb=>sameTexts_any d.ids f.ids _ _ w' (h.below hb).i (h'.below hb).i
  have HRw:Hid (∀ w',Below w.heap.size w w'->Calls Tryz.prog 36 #[.agg #[.slice pa d.pcs.length pc,.string (txtOf d.deg)],.agg #[.slice pa2 f.pcs.length pc2,.string (txtOf f.deg)]] w' fun e w2=>e=.returned (.bool (rowB d.pcs f.pcs d.deg f.deg))/\Below w'.heap.size w' w2):=fun w' hb=>sameRow_any d.pcs f.pcs d.deg f.deg _ _ w' (h.below hb).p (h'.below hb).p
  have HCo:Hid (∀ w',Below w.heap.size w w'->∀ j (hj:j<d.ops.length),∃ g off,oa=some ⟨g,off,none⟩/\w'.cell? ⟨g,off+j*3,none⟩=some (.int .i64 d.ops[j].1)/\w'.cell? ⟨g,off+j*3+1,none⟩=some (.string (txtOf d.ops[j].2.1))/\w'.cell? ⟨g,off+j*3+2,none⟩=some (.int .i64 d.ops[j].2.2)):=fun w' hb j hj=>by
    obtain ⟨p1,p2,p3⟩:=ops_get d.ops j hj;obtain ⟨g,off,e1,e2,e3⟩:=hco (by omega);exact ⟨g,off,e1,(hb.cell (p:=⟨g,off+j*3,none⟩) e2).trans (e3 _ _ p1),(hb.cell (p:=⟨g,off+j*3+1,none⟩) e2).trans (e3 _ _ p2),(hb.cell (p:=⟨g,off+j*3+2,none⟩) e2).trans (e3 _ _ p3)⟩
  have HDo:Hid (∀ w',Below w.heap.size w w'->∀ j (hj:j<f.ops.length),∃ g off,oa2=some ⟨g,off,none⟩/\w'.cell? ⟨g,off+j*3,none⟩=some (.int .i64 f.ops[j].1)/\w'.cell? ⟨g,off+j*3+1,none⟩=some (.string (txtOf f.ops[j].2.1))/\w'.cell? ⟨g,off+j*3+2,none⟩=some (.int .i64 f.ops[j].2.2)):=fun w' hb j hj=>by
    obtain ⟨p1,p2,p3⟩:=ops_get f.ops j hj;obtain ⟨g,off,e1,e2,e3⟩:=hco2 (by omega);exact ⟨g,off,e1,(hb.cell (p:=⟨g,off+j*3,none⟩) e2).trans (e3 _ _ p1),(hb.cell (p:=⟨g,off+j*3+1,none⟩) e2).trans (e3 _ _ p2),(hb.cell (p:=⟨g,off+j*3+2,none⟩) e2).trans (e3 _ _ p3)⟩
  have HCl:Hid (∀ w',Below w.heap.size w w'->∀ j (hj:j<d.lits.length),∃ g off,la=some ⟨g,off,none⟩/\w'.cell? ⟨g,off+j,none⟩=some (.int .i64 d.lits[j])):=fun w' hb j hj=>by
    obtain ⟨g,off,e1,e2,e3⟩:=hcl (by omega);exact ⟨g,off,e1,(hb.cell (p:=⟨g,off+j,none⟩) e2).trans (e3 j _ (by simp [hj]))⟩
  have HDl:Hid (∀ w',Below w.heap.size w w'->∀ j (hj:j<f.lits.length),∃ g off,la2=some ⟨g,off,none⟩/\w'.cell? ⟨g,off+j,none⟩=some (.int .i64 f.lits[j])):=fun w' hb j hj=>by
    obtain ⟨g,off,e1,e2,e3⟩:=hcl2 (by omega);exact ⟨g,off,e1,(hb.cell (p:=⟨g,off+j,none⟩) e2).trans (e3 j _ (by simp [hj]))⟩
  have b1:=txt_beq d.n f.n;have b2:=txt_beq d.low f.low;have b3:=txt_beq d.high f.high;obtain ⟨XN,hXN⟩:∃ N,txtOf d.n=N:=⟨_,rfl⟩;obtain ⟨XD,hXD⟩:∃ N,txtOf d.deg=N:=⟨_,rfl⟩;obtain ⟨XLo,hXLo⟩:∃ N,txtOf d.low=N:=⟨_,rfl⟩;obtain ⟨XHi,hXHi⟩:∃ N,txtOf d.high=N:=⟨_,rfl⟩;obtain ⟨YN,hYN⟩:∃ N,txtOf f.n=N:=⟨_,rfl⟩;obtain ⟨YD,hYD⟩:∃ N,txtOf f.deg=N:=⟨_,rfl⟩;obtain ⟨YLo,hYLo⟩:∃ N,txtOf f.low=N:=⟨_,rfl⟩;obtain ⟨YHi,hYHi⟩:∃ N,txtOf f.high=N:=⟨_,rfl⟩;rw [hXN,hYN] at b1;rw [hXLo,hYLo] at b2;rw [hXHi,hYHi] at b3;rw [hXD,hYD] at HRw;rw [hXN,hXD,hXLo,hXHi,hYN,hYD,hYLo,hYHi]
  obtain ⟨W,hW⟩:∃ W,(w.alloc (.cells #[.int .i64 d.k,.string XN,.slice oa d.ops.length oc,.slice pa d.pcs.length pc,.string XD,.slice la d.lits.length lc,.slice ia d.ids.length ic,.int .i64 d.ends,.string XLo,.string XHi] 51)).alloc (.cells #[.int .i64 f.k,.string YN,.slice oa2 f.ops.length oc2,.slice pa2 f.pcs.length pc2,.string YD,.slice la2 f.lits.length lc2,.slice ia2 f.ids.length ic2,.int .i64 f.ends,.string YLo,.string YHi] 51)=W:=⟨_,rfl⟩;have hb0:Below w.heap.size w W:=by rw [<-hW];exact ((Below.refl _ _).alloc (Nat.le_refl _) _).alloc (by simp) _
  have g0:W.heap[w.heap.size]?=some (.cells #[.int .i64 d.k,.string XN,.slice oa d.ops.length oc,.slice pa d.pcs.length pc,.string XD,.slice la d.lits.length lc,.slice ia d.ids.length ic,.int .i64 d.ends,.string XLo,.string XHi] 51 (0,0)):=by rw [<-hW,heap_alloc_old (w.alloc _) _ (by simp)];exact heap_alloc_new w _
  have g1:W.heap[w.heap.size+1]?=some (.cells #[.int .i64 f.k,.string YN,.slice oa2 f.ops.length oc2,.slice pa2 f.pcs.length pc2,.string YD,.slice la2 f.lits.length lc2,.slice ia2 f.ids.length ic2,.int .i64 f.ends,.string YLo,.string YHi] 51 (0,0)):=by rw [<-hW];exact heap_alloc2_new w _ _
  have hl0:=(Array.getElem?_eq_some_iff.1 g0).1;have hl1:=(Array.getElem?_eq_some_iff.1 g1).1;have HB:Hid (Below w.heap.size w W):=hb0
  have HM:Hid (∀ w',Below W.heap.size W w'->(w'.cell? ⟨w.heap.size,0,none⟩=some (.int .i64 d.k)/\w'.cell? ⟨w.heap.size,1,none⟩=some (.string XN)/\w'.cell? ⟨w.heap.size,2,none⟩=some (.slice oa d.ops.length oc)/\w'.cell? ⟨w.heap.size,3,none⟩=some (.slice pa d.pcs.length pc)/\w'.cell? ⟨w.heap.size,4,none⟩=some (.string XD)/\w'.cell? ⟨w.heap.size,5,none⟩=some (.slice la d.lits.length lc)/\w'.cell? ⟨w.heap.size,6,none⟩=some (.slice ia d.ids.length ic)/\w'.cell? ⟨w.heap.size,7,none⟩=some (.int .i64 d.ends)/\w'.cell? ⟨w.heap.size,8,none⟩=some (.string XLo)/\w'.cell? ⟨w.heap.size,9,none⟩=some (.string XHi))/\(w'.cell? ⟨w.heap.size+1,0,none⟩=some (.int .i64 f.k)/\w'.cell? ⟨w.heap.size+1,1,none⟩=some (.string YN)/\w'.cell? ⟨w.heap.size+1,2,none⟩=some (.slice oa2 f.ops.length oc2)/\w'.cell? ⟨w.heap.size+1,3,none⟩=some (.slice pa2 f.pcs.length pc2)/\w'.cell? ⟨w.heap.size+1,4,none⟩=some (.string YD)/\w'.cell? ⟨w.heap.size+1,5,none⟩=some (.slice la2 f.lits.length lc2)/\w'.cell? ⟨w.heap.size+1,6,none⟩=some (.slice ia2 f.ids.length ic2)/\w'.cell? ⟨w.heap.size+1,7,none⟩=some (.int .i64 f.ends)/\w'.cell? ⟨w.heap.size+1,8,none⟩=some (.string YLo)/\w'.cell? ⟨w.heap.size+1,9,none⟩=some (.string YHi))):=fun w' hb=>by
    have f0:=(hb.block _ hl0).trans g0;have f1:=(hb.block _ hl1).trans g1;exact ⟨⟨cell_of f0 0,cell_of f0 1,cell_of f0 2,cell_of f0 3,cell_of f0 4,cell_of f0 5,cell_of f0 6,cell_of f0 7,cell_of f0 8,cell_of f0 9⟩,cell_of f1 0,cell_of f1 1,cell_of f1 2,cell_of f1 3,cell_of f1 4,cell_of f1 5,cell_of f1 6,cell_of f1 7,cell_of f1 8,cell_of f1 9⟩
  obtain ⟨⟨m0,m1,m2,m3,m4,m5,m6,m7,m8,m9⟩,n0,n1,n2,n3,n4,n5,n6,n7,n8,n9⟩:=HM.out W (Below.refl _ _);have HF:Hid (d≠f->sameB d f=false):=sameB_no;have HT:Hid (d=f->sameB d f=true):=(sameB_iff d f).2;clear hb0 g0 g1 hl0 hl1 h h' hco hco2 hcl hcl2 hXN hXD hXLo hXHi hYN hYD hYLo hYHi
  by_cases hk:d.k=f.k
  case neg=>
    have hkB:(d.k==f.k)=false:=by simpa using hk
    have HNo:Hid (sameB d f=false):=HF.out fun e=>hk (by rw [e])
    skip
    go_enter Tryz.func13,Tryz.ntmps13;go_wp2_with fail
    go_ret;exact ⟨by rw [HNo.out];rfl,HB.out⟩
  have hkB:(d.k==f.k)=true:=by simpa using hk
  have Hhk:Hid (d.k=f.k):=hk;clear hk
  by_cases hn:d.n=f.n
  case neg=>
    rw [decide_eq_false hn] at b1;have HNo:Hid (sameB d f=false):=HF.out fun e=>hn (by rw [e])
    clear hn;go_enter Tryz.func13,Tryz.ntmps13;go_wp2_with fail
    go_ret;exact ⟨by rw [HNo.out];rfl,HB.out⟩
  rw [decide_eq_true hn] at b1;have Hhn:Hid (d.n=f.n):=hn;clear hn
  by_cases he:d.ends=f.ends
  case neg=>
    have heB:(d.ends==f.ends)=false:=by simpa using he
    have HNo:Hid (sameB d f=false):=HF.out fun e=>he (by rw [e])
    skip
    go_enter Tryz.func13,Tryz.ntmps13;go_wp2_with fail
    go_ret;exact ⟨by rw [HNo.out];rfl,HB.out⟩
  have heB:(d.ends==f.ends)=true:=by simpa using he
  have Hhe:Hid (d.ends=f.ends):=he;clear he
  by_cases hlo:d.low=f.low
  case neg=>
    rw [decide_eq_false hlo] at b2;have HNo:Hid (sameB d f=false):=HF.out fun e=>hlo (by rw [e])
    clear hlo;go_enter Tryz.func13,Tryz.ntmps13;go_wp2_with fail
    go_ret;exact ⟨by rw [HNo.out];rfl,HB.out⟩
  rw [decide_eq_true hlo] at b2;have Hhlo:Hid (d.low=f.low):=hlo;clear hlo
  by_cases hhi:d.high=f.high
  case neg=>
    rw [decide_eq_false hhi] at b3;have HNo:Hid (sameB d f=false):=HF.out fun e=>hhi (by rw [e])
    clear hhi;go_enter Tryz.func13,Tryz.ntmps13;go_wp2_with fail
    go_ret;exact ⟨by rw [HNo.out];rfl,HB.out⟩
  rw [decide_eq_true hhi] at b3;have Hhhi:Hid (d.high=f.high):=hhi;clear hhi
  by_cases hol:d.ops.length=f.ops.length
  case neg=>
    have hoI:¬ ((d.ops.length:Int)=(f.ops.length:Int)):=by omega
    have HNo:Hid (sameB d f=false):=HF.out fun e=>hol (by rw [e])
    clear hol;go_enter Tryz.func13,Tryz.ntmps13;go_wp2_with fail
    go_ret;exact ⟨by rw [HNo.out];rfl,HB.out⟩
  have hoI:(d.ops.length:Int)=(f.ops.length:Int):=by omega
  have Hhol:Hid (d.ops.length=f.ops.length):=hol;clear hol
  by_cases hll:d.lits.length=f.lits.length
  case neg=>
    have hlI:¬ ((d.lits.length:Int)=(f.lits.length:Int)):=by omega
    have HNo:Hid (sameB d f=false):=HF.out fun e=>hll (by rw [e])
    clear hll;go_enter Tryz.func13,Tryz.ntmps13;go_wp2_with fail
    go_ret;exact ⟨by rw [HNo.out];rfl,HB.out⟩
  have hlI:(d.lits.length:Int)=(f.lits.length:Int):=by omega
  have Hhll:Hid (d.lits.length=f.lits.length):=hll;clear hll;go_enter Tryz.func13,Tryz.ntmps13;go_wp2_with fail
  refine calls_at (HTx.out W HB.out) (by with_reducible rfl) (by with_reducible rfl) ?_;rintro e w1 ⟨rfl,hb1⟩;have HB1:Hid (Below W.heap.size W w1):=hb1;clear hb1 m0 m1 m2 m3 m4 m5 m6 m7 m8 m9 n0 n1 n2 n3 n4 n5 n6 n7 n8 n9
  by_cases hids:d.ids=f.ids
  case neg=>
    rw [decide_eq_false hids];have HNo:Hid (sameB d f=false):=HF.out fun e=>hids (by rw [e])
    clear hids;go_wp2_with fail
    go_ret;exact ⟨by rw [HNo.out];rfl,HB.out.trans (HB1.out.mono HB.out.size)⟩
  rw [decide_eq_true hids];have Hhids:Hid (d.ids=f.ids):=hids;clear hids;obtain ⟨⟨_,_,_,m3,m4,_,_,_,_,_⟩,_,_,_,n3,n4,_,_,_,_,_⟩:=HM.out w1 HB1.out;go_wp2_with fail
  refine calls_at (HRw.out w1 (HB.out.trans (HB1.out.mono HB.out.size))) (by with_reducible rfl) (by with_reducible rfl) ?_;rintro e w2 ⟨rfl,hb2⟩;have HB2:Hid (Below W.heap.size W w2):=bl_next HB1.out hb2;clear hb2 m3 m4 n3 n4
  by_cases hrw:d.pcs=f.pcs/\d.deg=f.deg
  case neg=>
    rw [show rowB d.pcs f.pcs d.deg f.deg=false from decide_eq_false hrw];have HNo:Hid (sameB d f=false):=HF.out fun e=>hrw (by rw [e];exact ⟨rfl,rfl⟩)
    clear hrw;go_wp2_with fail
    go_ret;exact ⟨by rw [HNo.out];rfl,HB.out.trans (HB2.out.mono HB.out.size)⟩
  rw [show rowB d.pcs f.pcs d.deg f.deg=true from decide_eq_true hrw];have Hhrw:Hid (d.pcs=f.pcs/\d.deg=f.deg):=hrw;clear hrw;go_wp2_with fail
  go_loopw [5] (fun iv wr=>∃ k:Nat,iv=.int .i64 (k:Int)/\k<=d.ops.length/\Hid (Below W.heap.size W wr/\d.ops.take k=f.ops.take k)) (fun iv _=>d.ops.length-(intOf iv).toNat)
  case atStart=>exact ⟨0,rfl,Nat.zero_le _,HB2.out,rfl⟩
  case round=>
    obtain ⟨k,rfl,hk,HBr⟩:=hrel;obtain ⟨⟨_,_,m2,_,_,_,_,_,_,_⟩,_,_,n2,_,_,_,_,_,_,_⟩:=HM.out wr HBr.out.1
    by_cases hkn:k<d.ops.length
    · have hkI:(k:Int)<(d.ops.length:Int):=by omega
      have hkm:k<f.ops.length:=by have:=Hhol.out;omega
      have hkJ:(k:Int)<(f.ops.length:Int):=by omega
      obtain ⟨g,off,rfl,x0,x1,x2⟩:=HCo.out wr (HB.out.trans (HBr.out.1.mono HB.out.size)) k hkn;obtain ⟨g',off',rfl,y0,y1,y2⟩:=HDo.out wr (HB.out.trans (HBr.out.1.mono HB.out.size)) k hkm
      by_cases hel:d.ops[k]=f.ops[k]
      · have HNx:Hid (d.ops.take (k+1)=f.ops.take (k+1)):=take_grow HBr.out.2 hkn hkm hel
        rw [<-hel] at y0 y1 y2;obtain ⟨T,hT⟩:∃ T,txtOf d.ops[k].2.1=T:=⟨_,rfl⟩;obtain ⟨k1,hk1⟩:∃ n,d.ops[k].1=n:=⟨_,rfl⟩;obtain ⟨k3,hk3⟩:∃ n,d.ops[k].2.2=n:=⟨_,rfl⟩;rw [hT] at x1 y1;rw [hk1] at x0 y0;rw [hk3] at x2 y2;have hne:∀ W,(binOp .neq 106 (.agg #[.int .i64 k1,.string T,.int .i64 k3]) (.agg #[.int .i64 k1,.string T,.int .i64 k3])).run Tryz.prog W=.ok (.bool false) W:=fun W=>by rw [op_neq];simp
        clear hT hk1 hk3 hel;go_wp2_with fail
        go_region;have HBd:Hid (Below W.heap.size W wr.drew):=HBr.out.1.drew;go_wp2_with fail
        go_roundw
        case rel=>exact ⟨k+1,by go_num,hkn,HBd.out,HNx.out⟩
        case measure=>simp [intOf];omega
      · have HNo:Hid (sameB d f=false):=HF.out fun e=>get_ne hkn hkm hel (by rw [e])
        have hb:(d.ops[k].1==f.ops[k].1&&(txtOf d.ops[k].2.1).toList==(txtOf f.ops[k].2.1).toList&&d.ops[k].2.2==f.ops[k].2.2)=false:=by
          rw [txt_beq]
          cases hq:decide (d.ops[k].2.1=f.ops[k].2.1) with
          | false=>simp
          | true =>
            by_cases h1:d.ops[k].1=f.ops[k].1
            · have h2:d.ops[k].2.2≠f.ops[k].2.2:=fun e=>hel (Prod.ext h1 (Prod.ext (of_decide_eq_true hq) e))
              simp [h1];simpa using h2
            · have:(d.ops[k].1==f.ops[k].1)=false:=by simpa using h1
              rw [this];rfl
        obtain ⟨T,hT⟩:∃ T,txtOf d.ops[k].2.1=T:=⟨_,rfl⟩;obtain ⟨k1,hk1⟩:∃ n,d.ops[k].1=n:=⟨_,rfl⟩;obtain ⟨k3,hk3⟩:∃ n,d.ops[k].2.2=n:=⟨_,rfl⟩;obtain ⟨T',hT'⟩:∃ T,txtOf f.ops[k].2.1=T:=⟨_,rfl⟩;obtain ⟨k1',hk1'⟩:∃ n,f.ops[k].1=n:=⟨_,rfl⟩;obtain ⟨k3',hk3'⟩:∃ n,f.ops[k].2.2=n:=⟨_,rfl⟩;rw [hT] at x1 hb;rw [hk1] at x0 hb;rw [hk3] at x2 hb;rw [hT'] at y1 hb;rw [hk1'] at y0 hb;rw [hk3'] at y2 hb;have hne:∀ W,(binOp .neq 106 (.agg #[.int .i64 k1,.string T,.int .i64 k3]) (.agg #[.int .i64 k1',.string T',.int .i64 k3'])).run Tryz.prog W=.ok (.bool true) W:=fun W=>by rw [op_neq,hb];rfl
        clear hT hk1 hk3 hT' hk1' hk3' hel hb;go_wp2_with fail
        go_region;have HBd:Hid (Below W.heap.size W wr.drew):=HBr.out.1.drew;go_wp2_with fail
        go_ret;exact ⟨by rw [HNo.out];rfl,HB.out.trans (HBd.out.mono HB.out.size)⟩
    · have hkI:¬ (k:Int)<(d.ops.length:Int):=by omega
      have HOps:Hid (d.ops=f.ops):=take_all HBr.out.2 (by omega) (by have:=Hhol.out;omega);go_wp2_with fail
      go_loopw [6] (fun iv wq=>∃ k:Nat,iv=.int .i64 (k:Int)/\k<=d.lits.length/\Hid (Below W.heap.size W wq/\d.lits.take k=f.lits.take k)) (fun iv _=>d.lits.length-(intOf iv).toNat)
      case atStart=>exact ⟨0,rfl,Nat.zero_le _,HBr.out.1,rfl⟩
      case round=>
        obtain ⟨i,rfl,hi2,HBq⟩:=hrel;obtain ⟨⟨_,_,_,_,_,m5,_,_,_,_⟩,_,_,_,_,_,n5,_,_,_,_⟩:=HM.out wr HBq.out.1
        by_cases hin:i<d.lits.length
        · have hiI:(i:Int)<(d.lits.length:Int):=by omega
          have him:i<f.lits.length:=by have:=Hhll.out;omega
          have hiJ:(i:Int)<(f.lits.length:Int):=by omega
          obtain ⟨g,off,rfl,x0⟩:=HCl.out wr (HB.out.trans (HBq.out.1.mono HB.out.size)) i hin;obtain ⟨g',off',rfl,y0⟩:=HDl.out wr (HB.out.trans (HBq.out.1.mono HB.out.size)) i him
          by_cases hel:d.lits[i]=f.lits[i]
          · have HNx:Hid (d.lits.take (i+1)=f.lits.take (i+1)):=take_grow HBq.out.2 hin him hel
            rw [<-hel] at y0;obtain ⟨z,hz⟩:∃ z,d.lits[i]=z:=⟨_,rfl⟩;rw [hz] at x0 y0;clear hz hel;go_wp2_with fail
            go_region;have HBd:Hid (Below W.heap.size W wr.drew):=HBq.out.1.drew;go_wp2_with fail
            go_roundw
            case rel=>exact ⟨i+1,by go_num,hin,HBd.out,HNx.out⟩
            case measure=>simp [intOf];omega
          · have HNo:Hid (sameB d f=false):=HF.out fun e=>get_ne hin him hel (by rw [e])
            obtain ⟨z,hz⟩:∃ z,d.lits[i]=z:=⟨_,rfl⟩;obtain ⟨z',hz'⟩:∃ z,f.lits[i]=z:=⟨_,rfl⟩;rw [hz,hz'] at hel;rw [hz] at x0;rw [hz'] at y0;have helB:(z==z')=false:=by simpa using hel
            clear hz hz';go_wp2_with fail
            go_region;have HBd:Hid (Below W.heap.size W wr.drew):=HBq.out.1.drew;go_wp2_with fail
            go_ret;exact ⟨by rw [HNo.out];rfl,HB.out.trans (HBd.out.mono HB.out.size)⟩
        · have hiI:¬ (i:Int)<(d.lits.length:Int):=by omega
          have HYes:Hid (sameB d f=true):=HT.out (sl_eq Hhk.out Hhn.out Hhe.out Hhlo.out Hhhi.out Hhrw.out HOps.out (take_all HBq.out.2 (by omega) (by have:=Hhll.out;omega)) Hhids.out);go_wp2_with fail
          go_ret;exact ⟨by rw [HYes.out];rfl,HB.out.trans (HBq.out.1.mono HB.out.size)⟩
end Go.Proofs.YtpcijhecaedkpaaGreatDoor
