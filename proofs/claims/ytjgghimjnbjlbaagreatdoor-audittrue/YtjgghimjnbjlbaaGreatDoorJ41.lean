/-
  Put together: PfSay, PfPick, PfEnds.
-/
import Derived.Test.YtjgghimjnbjlbaaGreatDoorJ37
import Derived.Test.YtjgghimjnbjlbaaGreatDoorPfDel
import Derived.Test.YtjgghimjnbjlbaaGreatDoorPfGl
import Derived.Test.YtjgghimjnbjlbaaGreatDoorJ04
import Derived.Test.YtjgghimjnbjlbaaGreatDoorJ11
namespace Go.Proofs.YtjgghimjnbjlbaaGreatDoor
open Go.RowKit
structure SL where
  k:Int
  n:List UInt8
  ops:List OpL
  pcs:List PcL
  deg:List UInt8
  lits:List Int
  ids:List (List UInt8)
  ends:Int
  low:List UInt8
  high:List UInt8
def SL.zero:SL:=⟨0,[],[],[],[],[],[],0,[],[]⟩
def slC (d:SL) (vo vp vl vi:Value):Array Value:=#[.int .i64 d.k,.string (yd d.n),vo,vp,.string (yd d.deg),vl,vi,.int .i64 d.ends,.string (yd d.low),.string (yd d.high)]
structure SlOwn (B0:Nat) (w:World) (d:SL) (vo vp vl vi:Value):Prop where
  o:w.ownsRow B0 220 3 vo d.ops.length (opsC d.ops)
  p:w.ownsRow B0 251 2 vp d.pcs.length (pcsC d.pcs)
  l:w.ownsRow B0 3 1 vl d.lits.length (d.lits.map (.int .i64))
  i:w.ownsRow B0 9 1 vi d.ids.length (d.ids.map fun x=>.string (yd x))
def Says (B0:Nat) (w:World) (cs:Array Value) (d:SL):Prop:=∃ vo vp vl vi,cs=slC d vo vp vl vi/\SlOwn B0 w d vo vp vl vi
def cs0:Array Value:=slC SL.zero (.slice none 0 0) (.slice none 0 0) (.slice none 0 0) (.slice none 0 0)
theorem yw (B0:Nat) (w:World) (t:TypeId) (m:Nat):w.ownsRow B0 t m (.slice none 0 0) 0 []:=World.ownsRow_nil _ _ _ _
theorem Z5 (B0:Nat) (w:World):Says B0 w cs0 SL.zero:=⟨_,_,_,_,rfl,yw _ _ _ _,yw _ _ _ _,yw _ _ _ _,yw _ _ _ _⟩
def RdO (B b q:Nat) (g:SL × Ls) (w:World) (e:Ending) (w':World):Prop:=RO B b q w (fun cs' w'=>Says w.heap.size w' cs' g.1) g.2 e w'
def Leaf (f:FuncId) (g:Ls->SL × Ls):Prop:=∀ (B b q:Nat) (s:Ls) (w:World),LnAt w b s->StAt w q cs0->B<=b->B<=q->q≠b->Gl w->12<=B->Calls Tryz.prog f #[.pointer (some ⟨b,0,none⟩),.pointer (some ⟨q,0,none⟩)] w (RdO B b q (g s) w)
theorem zK {B b q:Nat} {w:World} {Ps:Array Value->World->Prop} {s':Ls} {d:SL} {f:FuncId} {args:Array Value} (h:Calls Tryz.prog f args w (RO B b q w Ps s')) (hp:∀ cs' w',Ps cs' w'->Says w.heap.size w' cs' d):Calls Tryz.prog f args w (RdO B b q (d,s') w):=
  h.mono fun _ w' ⟨h1,cs',h2,h3,h4⟩=>⟨h1,cs',h2,hp cs' w' h3,h4⟩
theorem Yp:Leaf 132 fun s=>(SL.zero,s):=fun B _ _ _ w h hst _ _ _ _ _=>zK (y6c (B:=B) w h hst) fun _ _ e=>by rw [e];exact Z5 _ _
theorem y5M:Leaf 146 fun s=>(SL.zero,([],s.2)):=fun _ _ _ _ w h hst hB _ hbq _ _=>zK (y6b w h hst hB hbq) fun _ _ e=>by rw [e];exact Z5 _ _
theorem y5H:Leaf 134 fun s=>({ SL.zero with n:=(Y0 s).1 },(Y0 s).2):=fun _ _ _ _ w h hst hB hBq hbq _ _=>zK (y69 w h hst hB hBq hbq) fun _ _ e=>by
  rw [e];exact ⟨_,_,_,_,rfl,yw _ _ _ _,yw _ _ _ _,yw _ _ _ _,yw _ _ _ _⟩
theorem y5I:Leaf 136 fun s=>({ SL.zero with ops:=(opsP s).1 },(opsP s).2):=fun _ _ _ _ w h hst hB hBq hbq _ _=>(y68 w h hst hB hBq hbq).mono fun _ _ ⟨h1,v,hp⟩=>⟨h1,_,hp.st,⟨v,_,_,_,rfl,hp.own,yw _ _ _ _,yw _ _ _ _,yw _ _ _ _⟩,hp.ln,hp.stp⟩
theorem y5J:Leaf 138 fun s=>({ SL.zero with pcs:=(rowP s).1.1,deg:=(rowP s).1.2,ids:=(idsP (rowP s).2).1 },(idsP (rowP s).2).2):=fun _ _ _ _ w h hst hB hBq hbq _ _=>zK (y6e w h hst hB hBq hbq) fun _ _ ⟨_,_,e,h1,h2⟩=>by
  rw [e];exact ⟨_,_,_,_,rfl,yw _ _ _ _,h1,yw _ _ _ _,h2⟩
theorem y5K:Leaf 140 fun s=>({ SL.zero with pcs:=(rowP (eqS s)).1.1,deg:=(rowP (eqS s)).1.2,ids:=[eqY s] },(rowP (eqS s)).2):=fun _ _ _ _ w h hst hB hBq hbq _ _=>zK (y6h w h hst hB hBq hbq) fun _ _ ⟨_,_,e,h1,h2⟩=>by
  rw [e];exact ⟨_,_,_,_,rfl,yw _ _ _ _,h1,yw _ _ _ _,h2⟩
theorem KY:Leaf 142 fun s=>({ SL.zero with lits:=(zl ze s).1.map fun x=>(litP x).1 },(zl ze s).2):=fun _ _ _ _ w h hst hB hBq hbq _ _=>zK (y6a w h hst hB hBq hbq) fun _ w' ⟨_,e,h1⟩=>by
  rw [e];refine ⟨_,_,_,_,rfl,yw _ _ _ _,yw _ _ _ _,?_,yw _ _ _ _⟩;show w'.ownsRow _ _ _ _ (List.length (List.map _ _)) _;rw [List.length_map,List.map_map];exact h1
theorem y5L:Leaf 144 fun s=>({ SL.zero with ids:=eqY s :: (idsP (eqS s)).1 },(idsP (eqS s)).2):=fun _ _ _ s w h hst hB hBq hbq _ _=>zK (y5n w h hst hB hBq hbq) fun _ w' ⟨_,e,h1⟩=>by
  rw [e];refine ⟨_,_,_,_,rfl,yw _ _ _ _,yw _ _ _ _,yw _ _ _ _,?_⟩;show w'.ownsRow _ _ _ _ ((idsP (eqS s)).1.length+1) _;rw [Nat.add_comm];exact h1
def ZL (s:Ls):SL × Ls:=if (yg s).1.2=true then ({ SL.zero with ids:=[(zf (yg s).1.1 (yg s).2).1] },(zf (yg s).1.1 (yg s).2).2) else (SL.zero,(yg s).2)
theorem y5p:Leaf 220 ZL:=by
  intro B b q s w h hst hB hBq hbq _ _;unfold ZL
  cases hk:(yg s).1.2 with
  | false=>exact zK (y6i w h hst hB hbq hk) fun _ _ e=>by rw [e];exact Z5 _ _
  | true =>
    refine zK (y6j w h hst hB hBq hbq hk) ?_;rintro _ _ ⟨_,e,h1⟩;rw [e];exact ⟨_,_,_,_,rfl,yw _ _ _ _,yw _ _ _ _,yw _ _ _ _,h1⟩
theorem y5r:Leaf 224 fun s=>({ SL.zero with high:=allY s,ids:=[(allR s).1] },(allR s).2):=fun _ _ _ _ w h hst hB hBq hbq _ _=>zK (y6l w h hst hB hBq hbq) fun _ _ ⟨_,e,h1⟩=>by
  rw [e];exact ⟨_,_,_,_,rfl,yw _ _ _ _,yw _ _ _ _,yw _ _ _ _,h1⟩
def ZM (s:Ls):SL × Ls:=if bdX s=[58] then ({ SL.zero with low:=(ye s).1,ids:=[(bdI s).1],high:=(ye (bdI s).2).1 },bdS s) else ({ SL.zero with low:=(ye s).1,high:=bdX s },yr (bdX s) (-1) (bdB s))
theorem y5q:Leaf 222 ZM:=by
  intro B b q s w h hst hB hBq hbq _ _;unfold ZM
  split
  · rename_i hx
    refine zK (y6p w h hst hB hBq hbq hx) ?_;rintro _ _ ⟨_,e,h1⟩;rw [e];exact ⟨_,_,_,_,rfl,yw _ _ _ _,yw _ _ _ _,yw _ _ _ _,h1⟩
  · rename_i hx
    refine zK (y6o w h hst hB hBq hbq hx) ?_;rintro _ _ e;rw [e];exact ⟨_,_,_,_,rfl,yw _ _ _ _,yw _ _ _ _,yw _ _ _ _,yw _ _ _ _⟩
end Go.Proofs.YtjgghimjnbjlbaaGreatDoor

namespace Go.Proofs.YtjgghimjnbjlbaaGreatDoor
open Go.RowKit
set_option maxRecDepth 10000
set_option maxHeartbeats 8000000
def fstW (f:FmL):List UInt8:=(Lib.cut f.2.1 [32]).1
def rstT (f:FmL):List UInt8:=(Lib.cut f.2.1 [32]).2.1
def zI (l:List (List UInt8)) (s:Ls):Ls:=l.foldl (fun s x=>xy x s) s
def zn (T:List FmL) (rd:FuncId->Ls->SL × Ls) (s:Ls):Int × SL × Ls:=match T.find? fun f=>decide ((ye s).1=fstW f) with
  | some f=>(f.1,rd f.2.2.1 (zI (Lib.fields (rstT f)) (ye s).2))
  | none=>(0,SL.zero,yu 80 (ye s).2)
def PkO (B b q:Nat) (r:Int × SL × Ls) (w:World) (e:Ending) (w':World):Prop:=e=.returned (.int .i64 r.1)/\∃ cs',StAt w' q cs'/\Says w.heap.size w' cs' r.2.1/\LnAt w' b r.2.2/\SStp B (fun k=>k=b∨k=q) w w'
structure TabOk (T:List FmL) (rd:FuncId->Ls->SL × Ls):Prop where
  leaf:∀ f∈T,Leaf f.2.2.1 (rd f.2.2.1)
  len:∀ f∈T,f.2.1.length<=1000
  asc:∀ f∈T,∀ c∈rstT f,c.toNat<128
  rl:∀ f∈T,(rstT f).length<=1000
  rst:∀ f∈T,∀ x∈Lib.fields (rstT f),x.length<=1000
  fl:∀ f∈T,(Lib.fields (rstT f)).length<=100
  few:T.length<=100
  ent:∀ f∈T,Go.Proofs.Enters Tryz.prog f.2.2.1
theorem y5Z (f:FmL) (w:World) (hg:Gl w) (hl:f.2.1.length<=1000):Calls Tryz.prog 128 #[.string (yd f.2.1),.string ⟨#[32]⟩] w fun e w'=>(∃ b,e=.returned (.tuple #[.string (yd (fstW f)),.string (yd (rstT f)),.bool b]))/\Below w.heap.size w w':=by
  obtain ⟨m,hm⟩:=hg.most;refine (Tryz.strings_Cut (yd f.2.1) ⟨#[32]⟩ m w (by rw [zA];omega) hm).mono fun e w' hq=>?_
  obtain ⟨q1,n,rfl⟩:=hq;rw [yS] at q1;exact ⟨⟨_,q1⟩,y00 w n⟩
theorem y60 (f:FmL) (w:World) (hg:Gl w) (ha:∀ c∈rstT f,c.toNat<128) (hr:(rstT f).length<=1000):Calls Tryz.prog 129 #[.string (yd (rstT f))] w fun e w'=>e=.returned (.slice (some ⟨w.heap.size,0,none⟩) (Lib.fields (rstT f)).length (Lib.fields (rstT f)).length)/\w'=w.alloc (.cells ((Lib.fields (rstT f)).map fun l=>Value.string (yd l)).toArray 9):=by
  have:=Tryz.strings_Fields (yd (rstT f)) w (by rw [zA];omega) (fun j b hb=>by rw [yS] at hb;exact ha b (List.mem_of_getElem? hb)) hg.space;rw [yS] at this;exact this
theorem y61 {T:List FmL} {w:World} {t:Nat} (h:w.heap[t]?=some (.cells (fmsC T).toArray 182 (0,0))) (j:Nat) (hj:j<T.length):w.cell? ⟨t,j * 4,none⟩=some (.int .i64 T[j].1)/\w.cell? ⟨t,j * 4+1,none⟩=some (.string (yd T[j].2.1))/\w.cell? ⟨t,j * 4+2,none⟩=some (.func (.func T[j].2.2.1) #[] #[])/\w.cell? ⟨t,j * 4+3,none⟩=some (.func (.func T[j].2.2.2) #[] #[]):=by
  have key:∀ (T:List FmL) (j:Nat) (hj:j<T.length) (i:Nat),i<4->(fmsC T)[j * 4+i]?=(fmC T[j])[i]?:=by
    intro T
    induction T with
    | nil=>intro j hj;exact absurd hj (Nat.not_lt_zero _)
    | cons f T ih =>
      intro j hj i hi;have e:fmsC (f :: T)=fmC f++fmsC T:=by simp [fmsC]
      cases j with
      | zero =>
        rw [e,Nat.zero_mul,Nat.zero_add,List.getElem?_append_left (by simp [fmC];omega)];rfl
      | succ j =>
        rw [e,List.getElem?_append_right (by simp [fmC];omega)];have:=ih j (by simpa using hj) i hi;simp only [List.getElem_cons_succ];rw [<-this]
        congr 1
        simp [fmC];omega
  have k:=fun i hi=>key T j hj i hi
  refine ⟨?_,?_,?_,?_⟩
  · have:=k 0 (by omega);rw [Nat.add_zero] at this;rw [yb h];simpa [fmC] using this
  · have:=k 1 (by omega);rw [yb h];simpa [fmC] using this
  · have:=k 2 (by omega);rw [yb h];simpa [fmC] using this
  · have:=k 3 (by omega);rw [yb h];simpa [fmC] using this
theorem KM {B b q t:Nat} {s:Ls} {T:List FmL} {rd:FuncId->Ls->SL × Ls} (hT:TabOk T rd) (w:World) (h:LnAt w b s) (hst:StAt w q cs0) (htb:w.heap[t]?=some (.cells (fmsC T).toArray 182 (0,0))) (hg:Gl w) (hB:B<=b) (hBq:B<=q) (hbq:q≠b) (htb1:t≠b) (hB12:12<=B):Calls Tryz.prog 79 #[.pointer (some ⟨b,0,none⟩),.slice (some ⟨t,0,none⟩) T.length T.length,.pointer (some ⟨q,0,none⟩)] w (PkO B b q (zn T rd s) w):=by
  obtain ⟨x,hx⟩:∃ x,(ye s).1=x:=⟨_,rfl⟩;obtain ⟨s1,hs1⟩:∃ s1,(ye s).2=s1:=⟨_,rfl⟩;have HN:Hid (Calls Tryz.prog 127 #[.pointer (some ⟨b,0,none⟩)] w (LO B b (.string (yd x)) s1 w)):=by have:=zQ w h hB;rw [hx,hs1] at this;exact this
  obtain ⟨R,hR⟩:∃ R,zn T rd s=R:=⟨_,rfl⟩;have HRs:Hid (∀ f,(T.find? fun f=>decide (x=fstW f))=some f->R=(f.1,rd f.2.2.1 (zI (Lib.fields (rstT f)) s1))):=fun f hf=>by
    rw [<-hR];unfold zn;rw [hx,hs1,hf]
  have HRn:Hid ((T.find? fun f=>decide (x=fstW f))=none->R=(0,SL.zero,yu 80 s1)):=fun hf=>by
    rw [<-hR];unfold zn;rw [hx,hs1,hf]
  rw [hR];have HS:Hid (StAt w q cs0):=hst;have HTb:Hid (w.heap[t]?=some (.cells (fmsC T).toArray 182 (0,0))):=htb;have HG:Hid (Gl w):=hg;have HT:Hid (TabOk T rd):=hT;have hTl:=hT.few;clear h hst htb hg hT hx hs1 hR;go_enter Tryz.func79,Tryz.ntmps79;go_wp2_with fail
  refine cA HN.out ?_;rintro e w1 ⟨rfl,h1,h2⟩;have H1:Hid (LnAt w1 b s1/\SStp B (fun k=>k=b) w w1):=⟨h1,h2⟩;clear h1 h2 HN;go_wp2_with fail
  go_loopw [19] (fun iv wr=>∃ j:Nat,iv=.int .i64 (j:Int)/\j<=T.length/\Hid ((T.find? fun f=>decide (x=fstW f))=(T.drop j).find? fun f=>decide (x=fstW f))/\Hid (LnAt wr b s1/\SStp B (fun k=>k=b) w wr)) (fun iv _=>T.length-(intOf iv).toNat)
  case atStart=>exact ⟨0,rfl,Nat.zero_le _,rfl,H1⟩
  case round=>
    obtain ⟨j,rfl,hj,HF,HL⟩:=hrel;have HTr:Hid (wr.heap[t]?=some (.cells (fmsC T).toArray 182 (0,0))):=(HL.out.2.off.block t (hLt HTb.out) htb1).trans HTb.out
    by_cases hjn:j<T.length
    · have hjI:(j:Int)<(T.length:Int):=by omega
      obtain ⟨k0,k1,k2,k3⟩:=y61 HTr.out j hjn;obtain ⟨f,hf⟩:∃ f,T[j]=f:=⟨_,rfl⟩;have hmem:f∈T:=hf▸List.getElem_mem hjn;rw [hf] at k0 k1 k2 k3;have hSF:∀ (W:World) (ad:Addr) (id:FuncId),(store ad (.func (.func id) #[] #[])).run Tryz.prog W=stored Tryz.prog W ad (.func (.func id) #[] #[]) .plain:=fun W ad id=>run_store Tryz.prog W ad _ _ rfl
      obtain ⟨X,hX⟩:∃ X,wr.alloc (.cells #[.int .i64 f.1,.string (yd f.2.1),.func (.func f.2.2.1) #[] #[],.func (.func f.2.2.2) #[] #[]] 182)=X:=⟨_,rfl⟩;have hbX:Below wr.heap.size wr X:=bAe hX;have gX:X.heap[wr.heap.size]?=some (.cells #[.int .i64 f.1,.string (yd f.2.1),.func (.func f.2.2.1) #[] #[],.func (.func f.2.2.2) #[] #[]] 182 (0,0)):=hAe hX;have HgX:Hid (X.heap[wr.heap.size]?=some (.cells #[.int .i64 f.1,.string (yd f.2.1),.func (.func f.2.2.1) #[] #[],.func (.func f.2.2.2) #[] #[]] 182 (0,0))):=gX;have HLX:Hid (LnAt X b s1/\SStp B (fun k=>k=b) w X):=⟨HL.out.1.below hbX,HL.out.2.next hbX (Nat.le_of_lt (Nat.lt_of_le_of_lt hB HL.out.1.lt))⟩;have hbl:b<wr.heap.size:=HL.out.1.lt;have HGX:Hid (Gl X):=(HG.out.below HL.out.2.below hB12).next hbX
      have HC:Hid (Calls Tryz.prog 128 #[.string (yd f.2.1),.string ⟨#[32]⟩] X fun e w'=>(∃ b,e=.returned (.tuple #[.string (yd (fstW f)),.string (yd (rstT f)),.bool b]))/\Below X.heap.size X w'):=y5Z f X HGX.out (HT.out.len f hmem);have d1:X.cell? ⟨wr.heap.size,1,none⟩=some (.string (yd f.2.1)):=yb gX 1;clear hbX gX;go_wp2_with fail
      refine cA HC.out ?_;rintro e w3 ⟨⟨cb,rfl⟩,hb3⟩;have HB3:Hid (Below X.heap.size X w3):=hb3;have HL3:Hid (LnAt w3 b s1/\SStp B (fun k=>k=b) w w3):=⟨HLX.out.1.below hb3,HLX.out.2.next hb3 (Nat.le_of_lt (Nat.lt_of_le_of_lt hB HLX.out.1.lt))⟩;clear hb3 HC k0 k1 k2 k3 hX d1;have hq:=ZO x (fstW f)
      by_cases hxf:x=fstW f
      · rw [decide_eq_true hxf] at hq
        have HRf:Hid (R=(f.1,rd f.2.2.1 (zI (Lib.fields (rstT f)) s1))):=HRs.out f (by
          rw [HF.out,List.drop_eq_getElem_cons hjn,hf]
          exact List.find?_cons_of_pos (by simpa using hxf))
        have HFd:Hid (Calls Tryz.prog 129 #[.string (yd (rstT f))] w3 fun e w'=>e=.returned (.slice (some ⟨w3.heap.size,0,none⟩) (Lib.fields (rstT f)).length (Lib.fields (rstT f)).length)/\w'=w3.alloc (.cells ((Lib.fields (rstT f)).map fun l=>Value.string (yd l)).toArray 9)):=y60 f w3 (HGX.out.next HB3.out) (HT.out.asc f hmem) (HT.out.rl f hmem);clear hxf;go_wp2_with fail
        refine cA HFd.out ?_;rintro e w4 ⟨rfl,hw4⟩;have hb4:Below w3.heap.size w3 w4:=by rw [hw4];exact (Below.refl _ _).alloc (Nat.le_refl _) _
        have g4:w4.heap[w3.heap.size]?=some (.cells ((Lib.fields (rstT f)).map fun l=>Value.string (yd l)).toArray 9 (0,0)):=by rw [hw4];exact heap_alloc_new w3 _
        obtain ⟨Fl,hFl⟩:∃ F,Lib.fields (rstT f)=F:=⟨_,rfl⟩;have HL4:Hid (LnAt w4 b s1/\SStp B (fun k=>k=b) w w4):=⟨HL3.out.1.below hb4,HL3.out.2.next hb4 (Nat.le_of_lt (Nat.lt_of_le_of_lt hB HL3.out.1.lt))⟩;have HB4:Hid (Below X.heap.size X w4):=ym HB3.out hb4;rw [hFl] at g4 HRf;rw [hFl];have Hg4:Hid (w4.heap[w3.heap.size]?=some (.cells (Fl.map fun l=>Value.string (yd l)).toArray 9 (0,0))):=g4;have hb3l:b<w3.heap.size:=HL3.out.1.lt;have HFx:Hid (∀ y∈Fl,y.length<=1000):=by
          have:=HT.out.rst f hmem;rw [hFl] at this;exact this
        have hFn:Fl.length<=100:=by have:=HT.out.fl f hmem;rw [hFl] at this;exact this
        clear hw4 hb4 g4 hFl HFd;have hql:q<w.heap.size:=HS.out.lt;have hwl:w.heap.size<=wr.heap.size:=HL.out.2.off.size;obtain ⟨p0,hp0⟩:∃ p0,wr.heap.size=p0:=⟨_,rfl⟩;rw [hp0] at HgX hbl hwl;have hpX:p0<X.heap.size:=(hLt HgX.out);rw [hp0];clear hp0;go_wp2_with fail
        go_loopw [36] (fun iv wq=>∃ i:Nat,iv=.int .i64 (i:Int)/\i<=Fl.length/\Hid (LnAt wq b (zI (Fl.take i) s1)/\SStp B (fun k=>k=b) w wq/\Off (fun k=>k=b) w4 wq)) (fun iv _=>Fl.length-(intOf iv).toNat)
        case atStart=>exact ⟨0,rfl,Nat.zero_le _,HL4.out.1,HL4.out.2,Off.refl _ _⟩
        case round=>
          obtain ⟨i,rfl,hi,HLi⟩:=hrel;have HgF:Hid (wr.heap[w3.heap.size]?=some (.cells (Fl.map fun l=>Value.string (yd l)).toArray 9 (0,0))):=(HLi.out.2.2.block _ (hLt Hg4.out) (fun e=>by have e':w3.heap.size=b:=e;omega)).trans Hg4.out;have Hgp:Hid (wr.heap[p0]?=some (.cells #[.int .i64 f.1,.string (yd f.2.1),.func (.func f.2.2.1) #[] #[],.func (.func f.2.2.2) #[] #[]] 182 (0,0))):=by
            have h1:=(HB4.out.block p0 hpX).trans HgX.out;exact (HLi.out.2.2.block p0 (hLt h1) (fun e=>by have e':p0=b:=e;omega)).trans h1
          by_cases hin:i<Fl.length
          · have hiI:(i:Int)<(Fl.length:Int):=by omega
            obtain ⟨y,hy⟩:∃ y,Fl[i]=y:=⟨_,rfl⟩;have c0:wr.cell? ⟨w3.heap.size,i,none⟩=some (.string (yd y)):=by rw [yb HgF.out];simp [hin,hy]
            have HMu:Hid (Calls Tryz.prog 130 #[.pointer (some ⟨b,0,none⟩),.string (yd y)] wr (LO B b (.tuple #[]) (xy y (zI (Fl.take i) s1)) wr)):=KN y wr HLi.out.1 hB;have HMe:Hid (xy y (zI (Fl.take i) s1)=zI (Fl.take (i+1)) s1):=by
              show _=_;unfold zI;rw [List.take_succ_eq_append_getElem hin,List.foldl_append,hy];rfl
            clear hy;go_wp2_with fail
            refine cA HMu.out ?_;rintro e w6 ⟨rfl,h6,h7⟩;have H6:Hid (LnAt w6 b (zI (Fl.take (i+1)) s1)/\SStp B (fun k=>k=b) w w6/\Off (fun k=>k=b) w4 w6):=by
              rw [HMe.out] at h6;exact ⟨h6,HLi.out.2.1.trans h7,HLi.out.2.2.trans h7.off⟩
            clear h6 h7;go_wp2_with fail
            go_roundw
            case rel=>exact ⟨i+1,by go_num,hin,H6⟩
            case measure=>simp [intOf];omega
          · have hiI:¬ (i:Int)<(Fl.length:Int):=by omega
            have e0:wr.cell? ⟨p0,2,none⟩=some (.func (.func f.2.2.1) #[] #[]):=yb Hgp.out 2;have HLe:Hid (LnAt wr b (zI Fl s1)/\SStp B (fun k=>k=b) w wr):=by
              have:=HLi.out;rw [List.take_of_length_le (by omega)] at this;exact ⟨this.1,this.2.1⟩
            have HLf:Hid (Calls Tryz.prog f.2.2.1 #[.pointer (some ⟨b,0,none⟩),.pointer (some ⟨q,0,none⟩)] wr (RdO B b q (rd f.2.2.1 (zI Fl s1)) wr)):=HT.out.leaf f hmem B b q _ wr HLe.out.1 (HS.out.stp HLe.out.2 hbq) hB hBq hbq (HG.out.below HLe.out.2.below hB12) hB12;have he:=HT.out.ent f hmem;unfold Go.Proofs.Enters at he;have HEnd:Hid (∀ w7,RdO B b q (rd f.2.2.1 (zI Fl s1)) wr (.returned (.tuple #[])) w7->w7.cell? ⟨p0,0,none⟩=some (.int .i64 f.1)/\∃ cs',StAt w7 q cs'/\Says w.heap.size w7 cs' R.2.1/\LnAt w7 b R.2.2/\SStp B (fun k=>k=b∨k=q) w w7):=fun w7 h7=>by
              obtain ⟨_,cs',a1,⟨vo,vp,vl,vi,a2,a3⟩,a4,a5⟩:=h7;have hws:=HLe.out.2.off.size;refine ⟨?_,cs',a1,?_,?_,(HLe.out.2.more fun _ hk=>.inl hk).trans a5⟩
              · have h1:=(a5.off.block p0 (hLt Hgp.out) (fun e=>by rcases e with e | e <;> omega)).trans Hgp.out
                exact yb h1 0
              · rw [HRf.out]
                exact ⟨vo,vp,vl,vi,a2,yM a3.o hws,yM a3.p hws,yM a3.l hws,yM a3.i hws⟩
              · rw [HRf.out]
                exact a4
            go_wp2_with (go_at_fn f.2.2.1;refine cA HLf.out ?_;rintro e w7 ⟨rfl,h7⟩;obtain ⟨z0,z1⟩:=HEnd.out w7 ⟨rfl,h7⟩;(have HZ:Hid (∃ cs',StAt w7 q cs'/\Says w.heap.size w7 cs' R.2.1/\LnAt w7 b R.2.2/\SStp B (fun k=>k=b∨k=q) w w7):=z1);clear h7 z1);go_ret;refine ⟨?_,HZ.out⟩;rw [HRf.out];rfl
      · rw [decide_eq_false hxf] at hq
        have HF2:Hid ((T.find? fun f=>decide (x=fstW f))=(T.drop (j+1)).find? fun f=>decide (x=fstW f)):=by
          show _=_;rw [HF.out,List.drop_eq_getElem_cons hjn,hf];exact List.find?_cons_of_neg (by simpa using hxf)
        clear hxf;go_wp2_with fail
        go_roundw
        case rel=>exact ⟨j+1,by go_num,hjn,HF2,HL3⟩
        case measure=>simp [intOf];omega
    · have hjI:¬ (j:Int)<(T.length:Int):=by omega
      have HRz:Hid (R=(0,SL.zero,yu 80 s1)):=HRn.out (by rw [HF.out,List.drop_eq_nil_of_le (by omega)];rfl);have HFa:Hid (Calls Tryz.prog 131 #[.pointer (some ⟨b,0,none⟩),.int .i64 80] wr (LO B b (.tuple #[]) (yu 80 s1) wr)):=xz 80 wr HL.out.1 hB;go_wp2_with fail
      refine cA HFa.out ?_;rintro e w5 ⟨rfl,h5,h6⟩;have H5:Hid (LnAt w5 b (yu 80 s1)/\SStp B (fun k=>k=b) w w5):=⟨h5,HL.out.2.trans h6⟩;clear h5 h6;go_wp2_with fail
      go_ret;rw [HRz.out];exact ⟨rfl,cs0,HS.out.stp H5.out.2 hbq,Z5 _ _,H5.out.1,H5.out.2.more fun _ hk=>.inl hk⟩
end Go.Proofs.YtjgghimjnbjlbaaGreatDoor

namespace Go.Proofs.YtjgghimjnbjlbaaGreatDoor
open Go.RowKit
set_option maxRecDepth 10000
set_option maxHeartbeats 8000000
def allP (s:Ls):SL × Ls:=({ SL.zero with high:=allY s,ids:=[(allR s).1] },(allR s).2)
def rdC (f:FuncId) (s:Ls):SL × Ls:=if f=220 then ZL s else if f=222 then ZM s else if f=224 then allP s else (SL.zero,s)
theorem y5o:TabOk claimsL rdC where
  leaf:=by
    intro f hf;simp only [claimsL,List.mem_cons,List.not_mem_nil,or_false] at hf;rcases hf with rfl | rfl | rfl | rfl | rfl
    · exact Yp
    · exact y5p
    · exact Yp
    · exact y5q
    · exact y5r
  len:=by
    have h:(claimsL.all fun f=>decide (f.2.1.length<=1000))=true:=by kernel_rfl
    exact fun f hf=>of_decide_eq_true (List.all_eq_true.1 h f hf)
  asc:=by
    have h:(claimsL.all fun f=>(rstT f).all fun c=>decide (c.toNat<128))=true:=by kernel_rfl
    exact fun f hf c hc=>of_decide_eq_true (List.all_eq_true.1 (List.all_eq_true.1 h f hf) c hc)
  rl:=by
    have h:(claimsL.all fun f=>decide ((rstT f).length<=1000))=true:=by kernel_rfl
    exact fun f hf=>of_decide_eq_true (List.all_eq_true.1 h f hf)
  rst:=by
    have h:(claimsL.all fun f=>(Lib.fields (rstT f)).all fun x=>decide (x.length<=1000))=true:=by kernel_rfl
    exact fun f hf c hc=>of_decide_eq_true (List.all_eq_true.1 (List.all_eq_true.1 h f hf) c hc)
  fl:=by
    have h:(claimsL.all fun f=>decide ((Lib.fields (rstT f)).length<=100))=true:=by kernel_rfl
    exact fun f hf=>of_decide_eq_true (List.all_eq_true.1 h f hf)
  few:=by decide
  ent:=by
    intro f hf;simp only [claimsL,List.mem_cons,List.not_mem_nil,or_false] at hf;rcases hf with rfl | rfl | rfl | rfl | rfl
    · exact Go.Proofs.enters_of Tryz.func132 (by kernel_rfl) rfl
    · exact Go.Proofs.enters_of Tryz.func220 (by kernel_rfl) rfl
    · exact Go.Proofs.enters_of Tryz.func132 (by kernel_rfl) rfl
    · exact Go.Proofs.enters_of Tryz.func222 (by kernel_rfl) rfl
    · exact Go.Proofs.enters_of Tryz.func224 (by kernel_rfl) rfl
def ZN (s:Ls):SL × Ls:=({ (zn claimsL rdC s).2.1 with ends:=(zn claimsL rdC s).1 },(zn claimsL rdC s).2.2)
theorem SlOwn.set {B0 q:Nat} {w:World} {d:SL} {vo vp vl vi:Value} (h:SlOwn B0 w d vo vp vl vi) (hq:q<B0) (i:Nat) (v:Value):SlOwn B0 (w.setCell ⟨q,i,none⟩ v) d vo vp vl vi:=by
  have k:∀ {t:TypeId} {m n:Nat} {u:Value} {xs:List Value},w.ownsRow B0 t m u n xs->(w.setCell ⟨q,i,none⟩ v).ownsRow B0 t m u n xs:=fun ho=>yN ho fun g hg=>heap_setCell_other _ _ _ _ (by have:=(ho.lt g hg).1;show g≠q;omega)
  exact ⟨k h.o,k h.p,k h.l,k h.i⟩
theorem SlOwn.less {B0 C:Nat} {w:World} {d:SL} {vo vp vl vi:Value} (h:SlOwn B0 w d vo vp vl vi) (hc:C<=B0):SlOwn C w d vo vp vl vi:=⟨yM h.o hc,yM h.p hc,yM h.l hc,yM h.i hc⟩
theorem y5s:Leaf 147 ZN:=by
  intro B b q s w h hst hB hBq hbq hg hB12;unfold ZN;obtain ⟨X,hX⟩:∃ X,w.alloc (.cells (fmsC claimsL).toArray 182)=X:=⟨_,rfl⟩;have hbX:Below w.heap.size w X:=bAe hX;have gX:X.heap[w.heap.size]?=some (.cells (fmsC claimsL).toArray 182 (0,0)):=hAe hX;have hbl:=h.lt;have hql:=hst.lt;have HX:Hid (Below w.heap.size w X):=hbX;obtain ⟨R,hR⟩:∃ R,zn claimsL rdC s=R:=⟨_,rfl⟩;have HC:Hid (Calls Tryz.prog 195 #[] w fun e w'=>e=.returned (.slice (some ⟨w.heap.size,0,none⟩) 5 5)/\w'=X):=by
    have:=y5t w;rw [hX] at this;exact this
  have HP:Hid (Calls Tryz.prog 79 #[.pointer (some ⟨b,0,none⟩),.slice (some ⟨w.heap.size,0,none⟩) 5 5,.pointer (some ⟨q,0,none⟩)] X (PkO B b q R X)):=by
    have:=KM (B:=B) (b:=b) (q:=q) (t:=w.heap.size) (s:=s) y5o X (h.below hbX) (hst.same (hbX.block q hql)) gX (hg.next hbX) hB hBq hbq (by omega) hB12;rw [hR] at this;exact this
  rw [hR];clear h hst hg hbX gX hX hR;go_enter Tryz.func147,Tryz.ntmps147;go_wp2_with fail
  refine cA HC.out ?_;rintro e w1 ⟨rfl,rfl⟩;go_wp2_with fail
  refine cA HP.out ?_;rintro e w2 ⟨rfl,cs',a1,⟨vo,vp,vl,vi,rfl,a3⟩,a4,a5⟩;have hsz:=HX.out.size;have c7:w2.cell? ⟨q,7,none⟩=some (.int .i64 R.2.1.ends):=yb a1.o 7;have z7:=yl a1.o 7;have HE:Hid (RdO B b q ({ R.2.1 with ends:=R.1 },R.2.2) w (.returned (.tuple #[])) (w2.setCell ⟨q,7,none⟩ (.int .i64 R.1))):=by
    obtain ⟨r1,r2,r3⟩:=zd (B:=B) (w:=w) a1 a4 ((SStp.of_below HX.out (by omega)).trans a5) hBq hbq 7 (.int .i64 R.1);have r4:=(a3.set (Nat.lt_of_lt_of_le hql hsz) 7 (.int .i64 R.1)).less hsz;exact ⟨rfl,_,r1,⟨vo,vp,vl,vi,rfl,r4.o,r4.p,r4.l,r4.i⟩,r2,r3⟩
  clear a1 a3 a4 a5;go_wp2_with fail
  go_end0;exact HE.out
end Go.Proofs.YtjgghimjnbjlbaaGreatDoor
