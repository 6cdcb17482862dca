/-
  Put together: PfSay, PfPick, PfEnds.
-/
import Derived.Test.YtjgghimjnbjlbaaGreatDoorJ37
import Derived.Test.YtjgghimjnbjlbaaGreatDoorPfDel
import Derived.Test.YtjgghimjnbjlbaaGreatDoorPfGl
import Derived.Test.YtjgghimjnbjlbaaGreatDoorJ11
namespace Go.Proofs.YtjgghimjnbjlbaaGreatDoor
open Go.RowKit
structure SL where
  k:Int
  n:List UInt8
  ops:List OpL
  pcs:List PcL
  deg:List UInt8
  lits:List Int
  ids:List (List UInt8)
  ends:Int
  low:List UInt8
  high:List UInt8
def SL.zero:SL:=⟨0,[],[],[],[],[],[],0,[],[]⟩
def slC (d:SL) (vo vp vl vi:Value):Array Value:=#[.int .i64 d.k,.string (txtOf d.n),vo,vp,.string (txtOf d.deg),vl,vi,.int .i64 d.ends,.string (txtOf d.low),.string (txtOf d.high)]
structure SlOwn (B0:Nat) (w:World) (d:SL) (vo vp vl vi:Value):Prop where
  o:w.ownsRow B0 220 3 vo d.ops.length (opsC d.ops)
  p:w.ownsRow B0 251 2 vp d.pcs.length (pcsC d.pcs)
  l:w.ownsRow B0 3 1 vl d.lits.length (d.lits.map (.int .i64))
  i:w.ownsRow B0 9 1 vi d.ids.length (d.ids.map fun x=>.string (txtOf x))
def Says (B0:Nat) (w:World) (cs:Array Value) (d:SL):Prop:=∃ vo vp vl vi,cs=slC d vo vp vl vi/\SlOwn B0 w d vo vp vl vi
def cs0:Array Value:=slC SL.zero (.slice none 0 0) (.slice none 0 0) (.slice none 0 0) (.slice none 0 0)
theorem own_z (B0:Nat) (w:World) (t:TypeId) (m:Nat):w.ownsRow B0 t m (.slice none 0 0) 0 []:=World.ownsRow_nil _ _ _ _
theorem says_zero (B0:Nat) (w:World):Says B0 w cs0 SL.zero:=⟨_,_,_,_,rfl,own_z _ _ _ _,own_z _ _ _ _,own_z _ _ _ _,own_z _ _ _ _⟩
def RdO (B b q:Nat) (g:SL × Ls) (w:World) (e:Ending) (w':World):Prop:=RO B b q w (fun cs' w'=>Says w.heap.size w' cs' g.1) g.2 e w'
def Leaf (f:FuncId) (g:Ls->SL × Ls):Prop:=∀ (B b q:Nat) (s:Ls) (w:World),LnAt w b s->StAt w q cs0->B<=b->B<=q->q≠b->Gl w->12<=B->Calls Tryz.prog f #[.pointer (some ⟨b,0,none⟩),.pointer (some ⟨q,0,none⟩)] w (RdO B b q (g s) w)
theorem ro_mono {B b q:Nat} {w:World} {Ps:Array Value->World->Prop} {s':Ls} {d:SL} {f:FuncId} {args:Array Value} (h:Calls Tryz.prog f args w (RO B b q w Ps s')) (hp:∀ cs' w',Ps cs' w'->Says w.heap.size w' cs' d):Calls Tryz.prog f args w (RdO B b q (d,s') w):=
  h.mono fun _ w' ⟨h1,cs',h2,h3,h4⟩=>⟨h1,cs',h2,hp cs' w' h3,h4⟩
theorem leaf_nothing:Leaf 132 fun s=>(SL.zero,s):=fun B _ _ _ w h hst _ _ _ _ _=>ro_mono (nothing_any (B:=B) w h hst) fun _ _ e=>by rw [e];exact says_zero _ _
theorem leaf_remark:Leaf 146 fun s=>(SL.zero,([],s.2)):=fun _ _ _ _ w h hst hB _ hbq _ _=>ro_mono (remark_any w h hst hB hbq) fun _ _ e=>by rw [e];exact says_zero _ _
theorem leaf_size:Leaf 134 fun s=>({ SL.zero with n:=(sizeP s).1 },(sizeP s).2):=fun _ _ _ _ w h hst hB hBq hbq _ _=>ro_mono (size_any w h hst hB hBq hbq) fun _ _ e=>by
  rw [e];exact ⟨_,_,_,_,rfl,own_z _ _ _ _,own_z _ _ _ _,own_z _ _ _ _,own_z _ _ _ _⟩
theorem leaf_ops:Leaf 136 fun s=>({ SL.zero with ops:=(opsP s).1 },(opsP s).2):=fun _ _ _ _ w h hst hB hBq hbq _ _=>(ops_any w h hst hB hBq hbq).mono fun _ _ ⟨h1,v,hp⟩=>⟨h1,_,hp.st,⟨v,_,_,_,rfl,hp.own,own_z _ _ _ _,own_z _ _ _ _,own_z _ _ _ _⟩,hp.ln,hp.stp⟩
theorem leaf_rup:Leaf 138 fun s=>({ SL.zero with pcs:=(rowP s).1.1,deg:=(rowP s).1.2,ids:=(idsP (rowP s).2).1 },(idsP (rowP s).2).2):=fun _ _ _ _ w h hst hB hBq hbq _ _=>ro_mono (rup_any w h hst hB hBq hbq) fun _ _ ⟨_,_,e,h1,h2⟩=>by
  rw [e];exact ⟨_,_,_,_,rfl,own_z _ _ _ _,h1,own_z _ _ _ _,h2⟩
theorem leaf_equal:Leaf 140 fun s=>({ SL.zero with pcs:=(rowP (eqS s)).1.1,deg:=(rowP (eqS s)).1.2,ids:=[eqY s] },(rowP (eqS s)).2):=fun _ _ _ _ w h hst hB hBq hbq _ _=>ro_mono (equal_any w h hst hB hBq hbq) fun _ _ ⟨_,_,e,h1,h2⟩=>by
  rw [e];exact ⟨_,_,_,_,rfl,own_z _ _ _ _,h1,own_z _ _ _ _,h2⟩
theorem leaf_lits:Leaf 142 fun s=>({ SL.zero with lits:=(listP literalP s).1.map fun x=>(litP x).1 },(listP literalP s).2):=fun _ _ _ _ w h hst hB hBq hbq _ _=>ro_mono (rlits_any w h hst hB hBq hbq) fun _ w' ⟨_,e,h1⟩=>by
  rw [e];refine ⟨_,_,_,_,rfl,own_z _ _ _ _,own_z _ _ _ _,?_,own_z _ _ _ _⟩;show w'.ownsRow _ _ _ _ (List.length (List.map _ _)) _;rw [List.length_map,List.map_map];exact h1
theorem leaf_del:Leaf 144 fun s=>({ SL.zero with ids:=eqY s :: (idsP (eqS s)).1 },(idsP (eqS s)).2):=fun _ _ _ s w h hst hB hBq hbq _ _=>ro_mono (del_any w h hst hB hBq hbq) fun _ w' ⟨_,e,h1⟩=>by
  rw [e];refine ⟨_,_,_,_,rfl,own_z _ _ _ _,own_z _ _ _ _,own_z _ _ _ _,?_⟩;show w'.ownsRow _ _ _ _ ((idsP (eqS s)).1.length+1) _;rw [Nat.add_comm];exact h1
def unsatP (s:Ls):SL × Ls:=if (takeP s).1.2=true then ({ SL.zero with ids:=[(leanP (takeP s).1.1 (takeP s).2).1] },(leanP (takeP s).1.1 (takeP s).2).2) else (SL.zero,(takeP s).2)
theorem leaf_unsat:Leaf 220 unsatP:=by
  intro B b q s w h hst hB hBq hbq _ _;unfold unsatP
  cases hk:(takeP s).1.2 with
  | false=>exact ro_mono (unsat_no w h hst hB hbq hk) fun _ _ e=>by rw [e];exact says_zero _ _
  | true =>
    refine ro_mono (unsat_yes w h hst hB hBq hbq hk) ?_;rintro _ _ ⟨_,e,h1⟩;rw [e];exact ⟨_,_,_,_,rfl,own_z _ _ _ _,own_z _ _ _ _,own_z _ _ _ _,h1⟩
theorem leaf_all:Leaf 224 fun s=>({ SL.zero with high:=allY s,ids:=[(allR s).1] },(allR s).2):=fun _ _ _ _ w h hst hB hBq hbq _ _=>ro_mono (all_any w h hst hB hBq hbq) fun _ _ ⟨_,e,h1⟩=>by
  rw [e];exact ⟨_,_,_,_,rfl,own_z _ _ _ _,own_z _ _ _ _,own_z _ _ _ _,h1⟩
def boundsP (s:Ls):SL × Ls:=if bdX s=[58] then ({ SL.zero with low:=(nextP s).1,ids:=[(bdI s).1],high:=(nextP (bdI s).2).1 },bdS s) else ({ SL.zero with low:=(nextP s).1,high:=bdX s },wholeP (bdX s) (-1) (bdB s))
theorem leaf_bounds:Leaf 222 boundsP:=by
  intro B b q s w h hst hB hBq hbq _ _;unfold boundsP
  split
  · rename_i hx
    refine ro_mono (bounds_yes w h hst hB hBq hbq hx) ?_;rintro _ _ ⟨_,e,h1⟩;rw [e];exact ⟨_,_,_,_,rfl,own_z _ _ _ _,own_z _ _ _ _,own_z _ _ _ _,h1⟩
  · rename_i hx
    refine ro_mono (bounds_no w h hst hB hBq hbq hx) ?_;rintro _ _ e;rw [e];exact ⟨_,_,_,_,rfl,own_z _ _ _ _,own_z _ _ _ _,own_z _ _ _ _,own_z _ _ _ _⟩
end Go.Proofs.YtjgghimjnbjlbaaGreatDoor

namespace Go.Proofs.YtjgghimjnbjlbaaGreatDoor
open Go.RowKit
set_option maxRecDepth 10000
set_option maxHeartbeats 8000000
def fstW (f:FmL):List UInt8:=(Lib.cut f.2.1 [32]).1
def rstT (f:FmL):List UInt8:=(Lib.cut f.2.1 [32]).2.1
def mustsP (l:List (List UInt8)) (s:Ls):Ls:=l.foldl (fun s x=>mustP x s) s
def pickP (T:List FmL) (rd:FuncId->Ls->SL × Ls) (s:Ls):Int × SL × Ls:=match T.find? fun f=>decide ((nextP s).1=fstW f) with
  | some f=>(f.1,rd f.2.2.1 (mustsP (Lib.fields (rstT f)) (nextP s).2))
  | none=>(0,SL.zero,failP 80 (nextP s).2)
def PkO (B b q:Nat) (r:Int × SL × Ls) (w:World) (e:Ending) (w':World):Prop:=e=.returned (.int .i64 r.1)/\∃ cs',StAt w' q cs'/\Says w.heap.size w' cs' r.2.1/\LnAt w' b r.2.2/\SStp B (fun k=>k=b∨k=q) w w'
structure TabOk (T:List FmL) (rd:FuncId->Ls->SL × Ls):Prop where
  leaf:∀ f∈T,Leaf f.2.2.1 (rd f.2.2.1)
  len:∀ f∈T,f.2.1.length<=1000
  asc:∀ f∈T,∀ c∈rstT f,c.toNat<128
  rl:∀ f∈T,(rstT f).length<=1000
  rst:∀ f∈T,∀ x∈Lib.fields (rstT f),x.length<=1000
  fl:∀ f∈T,(Lib.fields (rstT f)).length<=100
  few:T.length<=100
  ent:∀ f∈T,Go.Proofs.Enters Tryz.prog f.2.2.1
theorem cut_at (f:FmL) (w:World) (hg:Gl w) (hl:f.2.1.length<=1000):Calls Tryz.prog 128 #[.string (txtOf f.2.1),.string ⟨#[32]⟩] w fun e w'=>(∃ b,e=.returned (.tuple #[.string (txtOf (fstW f)),.string (txtOf (rstT f)),.bool b]))/\Below w.heap.size w w':=by
  obtain ⟨m,hm⟩:=hg.most;refine (Tryz.strings_Cut (txtOf f.2.1) ⟨#[32]⟩ m w (by rw [txt_size];omega) hm).mono fun e w' hq=>?_
  obtain ⟨q1,n,rfl⟩:=hq;rw [txt_list] at q1;exact ⟨⟨_,q1⟩,bl_drewN w n⟩
theorem fields_at (f:FmL) (w:World) (hg:Gl w) (ha:∀ c∈rstT f,c.toNat<128) (hr:(rstT f).length<=1000):Calls Tryz.prog 129 #[.string (txtOf (rstT f))] w fun e w'=>e=.returned (.slice (some ⟨w.heap.size,0,none⟩) (Lib.fields (rstT f)).length (Lib.fields (rstT f)).length)/\w'=w.alloc (.cells ((Lib.fields (rstT f)).map fun l=>Value.string (txtOf l)).toArray 9):=by
  have:=Tryz.strings_Fields (txtOf (rstT f)) w (by rw [txt_size];omega) (fun j b hb=>by rw [txt_list] at hb;exact ha b (List.mem_of_getElem? hb)) hg.space;rw [txt_list] at this;exact this
theorem tab_cell {T:List FmL} {w:World} {t:Nat} (h:w.heap[t]?=some (.cells (fmsC T).toArray 182 (0,0))) (j:Nat) (hj:j<T.length):w.cell? ⟨t,j*4,none⟩=some (.int .i64 T[j].1)/\w.cell? ⟨t,j*4+1,none⟩=some (.string (txtOf T[j].2.1))/\w.cell? ⟨t,j*4+2,none⟩=some (.func (.func T[j].2.2.1) #[] #[])/\w.cell? ⟨t,j*4+3,none⟩=some (.func (.func T[j].2.2.2) #[] #[]):=by
  have key:∀ (T:List FmL) (j:Nat) (hj:j<T.length) (i:Nat),i<4->(fmsC T)[j*4+i]?=(fmC T[j])[i]?:=by
    intro T
    induction T with
    | nil=>intro j hj;exact absurd hj (Nat.not_lt_zero _)
    | cons f T ih =>
      intro j hj i hi;have e:fmsC (f :: T)=fmC f++fmsC T:=by simp [fmsC]
      cases j with
      | zero =>
        rw [e,Nat.zero_mul,Nat.zero_add,List.getElem?_append_left (by simp [fmC];omega)];rfl
      | succ j =>
        rw [e,List.getElem?_append_right (by simp [fmC];omega)];have:=ih j (by simpa using hj) i hi;simp only [List.getElem_cons_succ];rw [<-this]
        congr 1
        simp [fmC];omega
  have k:=fun i hi=>key T j hj i hi
  refine ⟨?_,?_,?_,?_⟩
  · have:=k 0 (by omega);rw [Nat.add_zero] at this;rw [cell_of h];simpa [fmC] using this
  · have:=k 1 (by omega);rw [cell_of h];simpa [fmC] using this
  · have:=k 2 (by omega);rw [cell_of h];simpa [fmC] using this
  · have:=k 3 (by omega);rw [cell_of h];simpa [fmC] using this
theorem pick_any {B b q t:Nat} {s:Ls} {T:List FmL} {rd:FuncId->Ls->SL × Ls} (hT:TabOk T rd) (w:World) (h:LnAt w b s) (hst:StAt w q cs0) (htb:w.heap[t]?=some (.cells (fmsC T).toArray 182 (0,0))) (hg:Gl w) (hB:B<=b) (hBq:B<=q) (hbq:q≠b) (htb1:t≠b) (hB12:12<=B):Calls Tryz.prog 79 #[.pointer (some ⟨b,0,none⟩),.slice (some ⟨t,0,none⟩) T.length T.length,.pointer (some ⟨q,0,none⟩)] w (PkO B b q (pickP T rd s) w):=by
  obtain ⟨x,hx⟩:∃ x,(nextP s).1=x:=⟨_,rfl⟩;obtain ⟨s1,hs1⟩:∃ s1,(nextP s).2=s1:=⟨_,rfl⟩;have HN:Hid (Calls Tryz.prog 127 #[.pointer (some ⟨b,0,none⟩)] w (LO B b (.string (txtOf x)) s1 w)):=by have:=next_any w h hB;rw [hx,hs1] at this;exact this
  obtain ⟨R,hR⟩:∃ R,pickP T rd s=R:=⟨_,rfl⟩;have HRs:Hid (∀ f,(T.find? fun f=>decide (x=fstW f))=some f->R=(f.1,rd f.2.2.1 (mustsP (Lib.fields (rstT f)) s1))):=fun f hf=>by
    rw [<-hR];unfold pickP;rw [hx,hs1,hf]
  have HRn:Hid ((T.find? fun f=>decide (x=fstW f))=none->R=(0,SL.zero,failP 80 s1)):=fun hf=>by
    rw [<-hR];unfold pickP;rw [hx,hs1,hf]
  rw [hR];have HS:Hid (StAt w q cs0):=hst;have HTb:Hid (w.heap[t]?=some (.cells (fmsC T).toArray 182 (0,0))):=htb;have HG:Hid (Gl w):=hg;have HT:Hid (TabOk T rd):=hT;have hTl:=hT.few;clear h hst htb hg hT hx hs1 hR;go_enter Tryz.func79,Tryz.ntmps79;go_wp2_with fail
  refine calls_at HN.out (by with_reducible rfl) (by with_reducible rfl) ?_;rintro e w1 ⟨rfl,h1,h2⟩;have H1:Hid (LnAt w1 b s1/\SStp B (fun k=>k=b) w w1):=⟨h1,h2⟩;clear h1 h2 HN;go_wp2_with fail
  go_loopw [19] (fun iv wr=>∃ j:Nat,iv=.int .i64 (j:Int)/\j<=T.length/\Hid ((T.find? fun f=>decide (x=fstW f))=(T.drop j).find? fun f=>decide (x=fstW f))/\Hid (LnAt wr b s1/\SStp B (fun k=>k=b) w wr)) (fun iv _=>T.length-(intOf iv).toNat)
  case atStart=>exact ⟨0,rfl,Nat.zero_le _,rfl,H1⟩
  case round=>
    obtain ⟨j,rfl,hj,HF,HL⟩:=hrel;have HTr:Hid (wr.heap[t]?=some (.cells (fmsC T).toArray 182 (0,0))):=(HL.out.2.off.block t (Array.getElem?_eq_some_iff.1 HTb.out).1 htb1).trans HTb.out
    by_cases hjn:j<T.length
    · have hjI:(j:Int)<(T.length:Int):=by omega
      obtain ⟨k0,k1,k2,k3⟩:=tab_cell HTr.out j hjn;obtain ⟨f,hf⟩:∃ f,T[j]=f:=⟨_,rfl⟩;have hmem:f∈T:=hf▸List.getElem_mem hjn;rw [hf] at k0 k1 k2 k3;have hSF:∀ (W:World) (ad:Addr) (id:FuncId),(store ad (.func (.func id) #[] #[])).run Tryz.prog W=stored Tryz.prog W ad (.func (.func id) #[] #[]) .plain:=fun W ad id=>run_store Tryz.prog W ad _ _ rfl
      obtain ⟨X,hX⟩:∃ X,wr.alloc (.cells #[.int .i64 f.1,.string (txtOf f.2.1),.func (.func f.2.2.1) #[] #[],.func (.func f.2.2.2) #[] #[]] 182)=X:=⟨_,rfl⟩;have hbX:Below wr.heap.size wr X:=by rw [<-hX];exact (Below.refl _ _).alloc (Nat.le_refl _) _
      have gX:X.heap[wr.heap.size]?=some (.cells #[.int .i64 f.1,.string (txtOf f.2.1),.func (.func f.2.2.1) #[] #[],.func (.func f.2.2.2) #[] #[]] 182 (0,0)):=by rw [<-hX];exact heap_alloc_new wr _
      have HgX:Hid (X.heap[wr.heap.size]?=some (.cells #[.int .i64 f.1,.string (txtOf f.2.1),.func (.func f.2.2.1) #[] #[],.func (.func f.2.2.2) #[] #[]] 182 (0,0))):=gX;have HLX:Hid (LnAt X b s1/\SStp B (fun k=>k=b) w X):=⟨HL.out.1.below hbX,HL.out.2.next hbX (Nat.le_of_lt (Nat.lt_of_le_of_lt hB HL.out.1.lt))⟩;have hbl:b<wr.heap.size:=HL.out.1.lt;have HGX:Hid (Gl X):=(HG.out.below HL.out.2.below hB12).next hbX;have HC:Hid (Calls Tryz.prog 128 #[.string (txtOf f.2.1),.string ⟨#[32]⟩] X fun e w'=>(∃ b,e=.returned (.tuple #[.string (txtOf (fstW f)),.string (txtOf (rstT f)),.bool b]))/\Below X.heap.size X w'):=cut_at f X HGX.out (HT.out.len f hmem);have d1:X.cell? ⟨wr.heap.size,1,none⟩=some (.string (txtOf f.2.1)):=cell_of gX 1;clear hbX gX;go_wp2_with fail
      refine calls_at HC.out (by with_reducible rfl) (by with_reducible rfl) ?_;rintro e w3 ⟨⟨cb,rfl⟩,hb3⟩;have HB3:Hid (Below X.heap.size X w3):=hb3;have HL3:Hid (LnAt w3 b s1/\SStp B (fun k=>k=b) w w3):=⟨HLX.out.1.below hb3,HLX.out.2.next hb3 (Nat.le_of_lt (Nat.lt_of_le_of_lt hB HLX.out.1.lt))⟩;clear hb3 HC k0 k1 k2 k3 hX d1;have hq:=txt_beq x (fstW f)
      by_cases hxf:x=fstW f
      · rw [decide_eq_true hxf] at hq
        have HRf:Hid (R=(f.1,rd f.2.2.1 (mustsP (Lib.fields (rstT f)) s1))):=HRs.out f (by
          rw [HF.out,List.drop_eq_getElem_cons hjn,hf]
          exact List.find?_cons_of_pos (by simpa using hxf))
        have HFd:Hid (Calls Tryz.prog 129 #[.string (txtOf (rstT f))] w3 fun e w'=>e=.returned (.slice (some ⟨w3.heap.size,0,none⟩) (Lib.fields (rstT f)).length (Lib.fields (rstT f)).length)/\w'=w3.alloc (.cells ((Lib.fields (rstT f)).map fun l=>Value.string (txtOf l)).toArray 9)):=fields_at f w3 (HGX.out.next HB3.out) (HT.out.asc f hmem) (HT.out.rl f hmem);clear hxf;go_wp2_with fail
        refine calls_at HFd.out (by with_reducible rfl) (by with_reducible rfl) ?_;rintro e w4 ⟨rfl,hw4⟩;have hb4:Below w3.heap.size w3 w4:=by rw [hw4];exact (Below.refl _ _).alloc (Nat.le_refl _) _
        have g4:w4.heap[w3.heap.size]?=some (.cells ((Lib.fields (rstT f)).map fun l=>Value.string (txtOf l)).toArray 9 (0,0)):=by rw [hw4];exact heap_alloc_new w3 _
        obtain ⟨Fl,hFl⟩:∃ F,Lib.fields (rstT f)=F:=⟨_,rfl⟩;have HL4:Hid (LnAt w4 b s1/\SStp B (fun k=>k=b) w w4):=⟨HL3.out.1.below hb4,HL3.out.2.next hb4 (Nat.le_of_lt (Nat.lt_of_le_of_lt hB HL3.out.1.lt))⟩;have HB4:Hid (Below X.heap.size X w4):=bl_next HB3.out hb4;rw [hFl] at g4 HRf;rw [hFl];have Hg4:Hid (w4.heap[w3.heap.size]?=some (.cells (Fl.map fun l=>Value.string (txtOf l)).toArray 9 (0,0))):=g4;have hb3l:b<w3.heap.size:=HL3.out.1.lt;have HFx:Hid (∀ y∈Fl,y.length<=1000):=by
          have:=HT.out.rst f hmem;rw [hFl] at this;exact this
        have hFn:Fl.length<=100:=by have:=HT.out.fl f hmem;rw [hFl] at this;exact this
        clear hw4 hb4 g4 hFl HFd;have hql:q<w.heap.size:=HS.out.lt;have hwl:w.heap.size<=wr.heap.size:=HL.out.2.off.size;obtain ⟨p0,hp0⟩:∃ p0,wr.heap.size=p0:=⟨_,rfl⟩;rw [hp0] at HgX hbl hwl;have hpX:p0<X.heap.size:=(Array.getElem?_eq_some_iff.1 HgX.out).1;rw [hp0];clear hp0;go_wp2_with fail
        go_loopw [36] (fun iv wq=>∃ i:Nat,iv=.int .i64 (i:Int)/\i<=Fl.length/\Hid (LnAt wq b (mustsP (Fl.take i) s1)/\SStp B (fun k=>k=b) w wq/\Off (fun k=>k=b) w4 wq)) (fun iv _=>Fl.length-(intOf iv).toNat)
        case atStart=>exact ⟨0,rfl,Nat.zero_le _,HL4.out.1,HL4.out.2,Off.refl _ _⟩
        case round=>
          obtain ⟨i,rfl,hi,HLi⟩:=hrel;have HgF:Hid (wr.heap[w3.heap.size]?=some (.cells (Fl.map fun l=>Value.string (txtOf l)).toArray 9 (0,0))):=(HLi.out.2.2.block _ (Array.getElem?_eq_some_iff.1 Hg4.out).1 (fun e=>by have e':w3.heap.size=b:=e;omega)).trans Hg4.out;have Hgp:Hid (wr.heap[p0]?=some (.cells #[.int .i64 f.1,.string (txtOf f.2.1),.func (.func f.2.2.1) #[] #[],.func (.func f.2.2.2) #[] #[]] 182 (0,0))):=by
            have h1:=(HB4.out.block p0 hpX).trans HgX.out;exact (HLi.out.2.2.block p0 (Array.getElem?_eq_some_iff.1 h1).1 (fun e=>by have e':p0=b:=e;omega)).trans h1
          by_cases hin:i<Fl.length
          · have hiI:(i:Int)<(Fl.length:Int):=by omega
            obtain ⟨y,hy⟩:∃ y,Fl[i]=y:=⟨_,rfl⟩;have c0:wr.cell? ⟨w3.heap.size,i,none⟩=some (.string (txtOf y)):=by rw [cell_of HgF.out];simp [hin,hy]
            have HMu:Hid (Calls Tryz.prog 130 #[.pointer (some ⟨b,0,none⟩),.string (txtOf y)] wr (LO B b (.tuple #[]) (mustP y (mustsP (Fl.take i) s1)) wr)):=must_any y wr HLi.out.1 hB;have HMe:Hid (mustP y (mustsP (Fl.take i) s1)=mustsP (Fl.take (i+1)) s1):=by
              show _=_;unfold mustsP;rw [List.take_succ_eq_append_getElem hin,List.foldl_append,hy];rfl
            clear hy;go_wp2_with fail
            refine calls_at HMu.out (by with_reducible rfl) (by with_reducible rfl) ?_;rintro e w6 ⟨rfl,h6,h7⟩;have H6:Hid (LnAt w6 b (mustsP (Fl.take (i+1)) s1)/\SStp B (fun k=>k=b) w w6/\Off (fun k=>k=b) w4 w6):=by
              rw [HMe.out] at h6;exact ⟨h6,HLi.out.2.1.trans h7,HLi.out.2.2.trans h7.off⟩
            clear h6 h7;go_wp2_with fail
            go_roundw
            case rel=>exact ⟨i+1,by go_num,hin,H6⟩
            case measure=>simp [intOf];omega
          · have hiI:¬ (i:Int)<(Fl.length:Int):=by omega
            have e0:wr.cell? ⟨p0,2,none⟩=some (.func (.func f.2.2.1) #[] #[]):=cell_of Hgp.out 2;have HLe:Hid (LnAt wr b (mustsP Fl s1)/\SStp B (fun k=>k=b) w wr):=by
              have:=HLi.out;rw [List.take_of_length_le (by omega)] at this;exact ⟨this.1,this.2.1⟩
            have HLf:Hid (Calls Tryz.prog f.2.2.1 #[.pointer (some ⟨b,0,none⟩),.pointer (some ⟨q,0,none⟩)] wr (RdO B b q (rd f.2.2.1 (mustsP Fl s1)) wr)):=HT.out.leaf f hmem B b q _ wr HLe.out.1 (HS.out.stp HLe.out.2 hbq) hB hBq hbq (HG.out.below HLe.out.2.below hB12) hB12;have he:=HT.out.ent f hmem;unfold Go.Proofs.Enters at he;have HEnd:Hid (∀ w7,RdO B b q (rd f.2.2.1 (mustsP Fl s1)) wr (.returned (.tuple #[])) w7->w7.cell? ⟨p0,0,none⟩=some (.int .i64 f.1)/\∃ cs',StAt w7 q cs'/\Says w.heap.size w7 cs' R.2.1/\LnAt w7 b R.2.2/\SStp B (fun k=>k=b∨k=q) w w7):=fun w7 h7=>by
              obtain ⟨_,cs',a1,⟨vo,vp,vl,vi,a2,a3⟩,a4,a5⟩:=h7;have hws:=HLe.out.2.off.size;refine ⟨?_,cs',a1,?_,?_,(HLe.out.2.more fun _ hk=>.inl hk).trans a5⟩
              · have h1:=(a5.off.block p0 (Array.getElem?_eq_some_iff.1 Hgp.out).1 (fun e=>by rcases e with e | e <;> omega)).trans Hgp.out
                exact cell_of h1 0
              · rw [HRf.out]
                exact ⟨vo,vp,vl,vi,a2,own_less a3.o hws,own_less a3.p hws,own_less a3.l hws,own_less a3.i hws⟩
              · rw [HRf.out]
                exact a4
            go_wp2_with (go_at_fn f.2.2.1;refine calls_at HLf.out (by with_reducible rfl) (by with_reducible rfl) ?_;rintro e w7 ⟨rfl,h7⟩;obtain ⟨z0,z1⟩:=HEnd.out w7 ⟨rfl,h7⟩;(have HZ:Hid (∃ cs',StAt w7 q cs'/\Says w.heap.size w7 cs' R.2.1/\LnAt w7 b R.2.2/\SStp B (fun k=>k=b∨k=q) w w7):=z1);clear h7 z1);go_ret;refine ⟨?_,HZ.out⟩;rw [HRf.out];rfl
      · rw [decide_eq_false hxf] at hq
        have HF2:Hid ((T.find? fun f=>decide (x=fstW f))=(T.drop (j+1)).find? fun f=>decide (x=fstW f)):=by
          show _=_;rw [HF.out,List.drop_eq_getElem_cons hjn,hf];exact List.find?_cons_of_neg (by simpa using hxf)
        clear hxf;go_wp2_with fail
        go_roundw
        case rel=>exact ⟨j+1,by go_num,hjn,HF2,HL3⟩
        case measure=>simp [intOf];omega
    · have hjI:¬ (j:Int)<(T.length:Int):=by omega
      have HRz:Hid (R=(0,SL.zero,failP 80 s1)):=HRn.out (by rw [HF.out,List.drop_eq_nil_of_le (by omega)];rfl);have HFa:Hid (Calls Tryz.prog 131 #[.pointer (some ⟨b,0,none⟩),.int .i64 80] wr (LO B b (.tuple #[]) (failP 80 s1) wr)):=fail_any 80 wr HL.out.1 hB;go_wp2_with fail
      refine calls_at HFa.out (by with_reducible rfl) (by with_reducible rfl) ?_;rintro e w5 ⟨rfl,h5,h6⟩;have H5:Hid (LnAt w5 b (failP 80 s1)/\SStp B (fun k=>k=b) w w5):=⟨h5,HL.out.2.trans h6⟩;clear h5 h6;go_wp2_with fail
      go_ret;rw [HRz.out];exact ⟨rfl,cs0,HS.out.stp H5.out.2 hbq,says_zero _ _,H5.out.1,H5.out.2.more fun _ hk=>.inl hk⟩
end Go.Proofs.YtjgghimjnbjlbaaGreatDoor

namespace Go.Proofs.YtjgghimjnbjlbaaGreatDoor
open Go.RowKit
set_option maxRecDepth 10000
set_option maxHeartbeats 8000000
def allP (s:Ls):SL × Ls:=({ SL.zero with high:=allY s,ids:=[(allR s).1] },(allR s).2)
def rdC (f:FuncId) (s:Ls):SL × Ls:=if f=220 then unsatP s else if f=222 then boundsP s else if f=224 then allP s else (SL.zero,s)
theorem claims_ok:TabOk claimsL rdC where
  leaf:=by
    intro f hf;simp only [claimsL,List.mem_cons,List.not_mem_nil,or_false] at hf;rcases hf with rfl | rfl | rfl | rfl | rfl
    · exact leaf_nothing
    · exact leaf_unsat
    · exact leaf_nothing
    · exact leaf_bounds
    · exact leaf_all
  len:=by
    have h:(claimsL.all fun f=>decide (f.2.1.length<=1000))=true:=by kernel_rfl
    exact fun f hf=>of_decide_eq_true (List.all_eq_true.1 h f hf)
  asc:=by
    have h:(claimsL.all fun f=>(rstT f).all fun c=>decide (c.toNat<128))=true:=by kernel_rfl
    exact fun f hf c hc=>of_decide_eq_true (List.all_eq_true.1 (List.all_eq_true.1 h f hf) c hc)
  rl:=by
    have h:(claimsL.all fun f=>decide ((rstT f).length<=1000))=true:=by kernel_rfl
    exact fun f hf=>of_decide_eq_true (List.all_eq_true.1 h f hf)
  rst:=by
    have h:(claimsL.all fun f=>(Lib.fields (rstT f)).all fun x=>decide (x.length<=1000))=true:=by kernel_rfl
    exact fun f hf c hc=>of_decide_eq_true (List.all_eq_true.1 (List.all_eq_true.1 h f hf) c hc)
  fl:=by
    have h:(claimsL.all fun f=>decide ((Lib.fields (rstT f)).length<=100))=true:=by kernel_rfl
    exact fun f hf=>of_decide_eq_true (List.all_eq_true.1 h f hf)
  few:=by decide
  ent:=by
    intro f hf;simp only [claimsL,List.mem_cons,List.not_mem_nil,or_false] at hf;rcases hf with rfl | rfl | rfl | rfl | rfl
    · exact Go.Proofs.enters_of Tryz.func132 (by kernel_rfl) rfl
    · exact Go.Proofs.enters_of Tryz.func220 (by kernel_rfl) rfl
    · exact Go.Proofs.enters_of Tryz.func132 (by kernel_rfl) rfl
    · exact Go.Proofs.enters_of Tryz.func222 (by kernel_rfl) rfl
    · exact Go.Proofs.enters_of Tryz.func224 (by kernel_rfl) rfl
def endsP (s:Ls):SL × Ls:=({ (pickP claimsL rdC s).2.1 with ends:=(pickP claimsL rdC s).1 },(pickP claimsL rdC s).2.2)
theorem SlOwn.set {B0 q:Nat} {w:World} {d:SL} {vo vp vl vi:Value} (h:SlOwn B0 w d vo vp vl vi) (hq:q<B0) (i:Nat) (v:Value):SlOwn B0 (w.setCell ⟨q,i,none⟩ v) d vo vp vl vi:=by
  have k:∀ {t:TypeId} {m n:Nat} {u:Value} {xs:List Value},w.ownsRow B0 t m u n xs->(w.setCell ⟨q,i,none⟩ v).ownsRow B0 t m u n xs:=fun ho=>own_keep ho fun g hg=>heap_setCell_other _ _ _ _ (by have:=(ho.lt g hg).1;show g≠q;omega)
  exact ⟨k h.o,k h.p,k h.l,k h.i⟩
theorem SlOwn.less {B0 C:Nat} {w:World} {d:SL} {vo vp vl vi:Value} (h:SlOwn B0 w d vo vp vl vi) (hc:C<=B0):SlOwn C w d vo vp vl vi:=⟨own_less h.o hc,own_less h.p hc,own_less h.l hc,own_less h.i hc⟩
theorem leaf_ends:Leaf 147 endsP:=by
  intro B b q s w h hst hB hBq hbq hg hB12;unfold endsP;obtain ⟨X,hX⟩:∃ X,w.alloc (.cells (fmsC claimsL).toArray 182)=X:=⟨_,rfl⟩;have hbX:Below w.heap.size w X:=by rw [<-hX];exact (Below.refl _ _).alloc (Nat.le_refl _) _
  have gX:X.heap[w.heap.size]?=some (.cells (fmsC claimsL).toArray 182 (0,0)):=by rw [<-hX];exact heap_alloc_new w _
  have hbl:=h.lt;have hql:=hst.lt;have HX:Hid (Below w.heap.size w X):=hbX;obtain ⟨R,hR⟩:∃ R,pickP claimsL rdC s=R:=⟨_,rfl⟩;have HC:Hid (Calls Tryz.prog 195 #[] w fun e w'=>e=.returned (.slice (some ⟨w.heap.size,0,none⟩) 5 5)/\w'=X):=by
    have:=claims_any w;rw [hX] at this;exact this
  have HP:Hid (Calls Tryz.prog 79 #[.pointer (some ⟨b,0,none⟩),.slice (some ⟨w.heap.size,0,none⟩) 5 5,.pointer (some ⟨q,0,none⟩)] X (PkO B b q R X)):=by
    have:=pick_any (B:=B) (b:=b) (q:=q) (t:=w.heap.size) (s:=s) claims_ok X (h.below hbX) (hst.same (hbX.block q hql)) gX (hg.next hbX) hB hBq hbq (by omega) hB12;rw [hR] at this;exact this
  rw [hR];clear h hst hg hbX gX hX hR;go_enter Tryz.func147,Tryz.ntmps147;go_wp2_with fail
  refine calls_at HC.out (by with_reducible rfl) (by with_reducible rfl) ?_;rintro e w1 ⟨rfl,rfl⟩;go_wp2_with fail
  refine calls_at HP.out (by with_reducible rfl) (by with_reducible rfl) ?_;rintro e w2 ⟨rfl,cs',a1,⟨vo,vp,vl,vi,rfl,a3⟩,a4,a5⟩;have hsz:=HX.out.size;have c7:w2.cell? ⟨q,7,none⟩=some (.int .i64 R.2.1.ends):=cell_of a1.o 7;have z7:=frozen_of a1.o 7;have HE:Hid (RdO B b q ({ R.2.1 with ends:=R.1 },R.2.2) w (.returned (.tuple #[])) (w2.setCell ⟨q,7,none⟩ (.int .i64 R.1))):=by
    obtain ⟨r1,r2,r3⟩:=rd_put (B:=B) (w:=w) a1 a4 ((SStp.of_below HX.out (by omega)).trans a5) hBq hbq 7 (.int .i64 R.1);have r4:=(a3.set (Nat.lt_of_lt_of_le hql hsz) 7 (.int .i64 R.1)).less hsz;exact ⟨rfl,_,r1,⟨vo,vp,vl,vi,rfl,r4.o,r4.p,r4.l,r4.i⟩,r2,r3⟩
  clear a1 a3 a4 a5;go_wp2_with fail
  go_end0;exact HE.out
end Go.Proofs.YtjgghimjnbjlbaaGreatDoor
