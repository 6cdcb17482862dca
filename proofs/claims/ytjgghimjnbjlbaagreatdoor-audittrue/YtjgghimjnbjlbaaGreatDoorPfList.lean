import Derived.Test.YtjgghimjnbjlbaaGreatDoorPfNum
import Derived.Test.YtjgghimjnbjlbaaGreatDoorPfRow
namespace Go.Proofs.YtjgghimjnbjlbaaGreatDoor
open Go.RowKit
set_option maxRecDepth 10000
set_option maxHeartbeats 8000000
def lstP (rd:List UInt8->Ls->Ls):Nat->Ls->List (List UInt8) × Ls
  | 0,s=>([],s)
  | n+1,s=>if (yg s).1.2=true then ((yg s).1.1 :: (lstP rd n (rd (yg s).1.1 (yg s).2)).1,(lstP rd n (rd (yg s).1.1 (yg s).2)).2) else ([],(yg s).2)
theorem KO {rd:List UInt8->Ls->Ls} {n:Nat} {s:Ls} {x:List UInt8} (h:(yg s).1=(x,false)):lstP rd (n+1) s=([],(yg s).2):=by simp [lstP,h]
theorem KP {rd:List UInt8->Ls->Ls} {n:Nat} {s:Ls} {x:List UInt8} (h:(yg s).1=(x,true)):lstP rd (n+1) s=(x :: (lstP rd n (rd x (yg s).2)).1,(lstP rd n (rd x (yg s).2)).2):=by simp [lstP,h]
def zl (rd:List UInt8->Ls->Ls) (s:Ls):List (List UInt8) × Ls:=lstP rd (s.1.length+1) s
theorem xZ (e:Int) (s:Ls):(yu e s).1=s.1:=by unfold yu;split <;> rfl
theorem xx (x:List UInt8) (g:Int) (s:Ls):(yr x g s).1=s.1:=by unfold yr;split <;> first | rfl | exact xZ _ _
theorem ZP (x:List UInt8) (s:Ls):(ze x s).1=s.1:=by unfold ze;split <;> first | rfl | exact xZ _ _
theorem y5y {l:List UInt8} (h:l.dropWhile blk≠[]):0<wlen (l.dropWhile blk):=by
  cases hl:l.dropWhile blk with
  | nil=>exact absurd hl h
  | cons c t =>
    have hc:blk c=false:=by
      have:=List.head?_dropWhile_not blk l;rw [hl] at this;simpa using this
    unfold wlen;rw [List.takeWhile_cons_of_pos (by simp [hc])];simp
theorem xX {s:Ls} (h:(yg s).1.2=true):(yg s).2.1.length<s.1.length/\(yg s).1.1.length<=s.1.length:=by
  unfold yg at h ⊢
  split
  · rename_i h1
    rw [if_pos h1] at h
    cases h
  · rename_i h1
    have h2:s.1.dropWhile blk≠[]:=fun e=>h1 (.inr e)
    have h3:=y5y h2;have h4:(s.1.dropWhile blk).length<=s.1.length:=(List.dropWhile_sublist _).length_le;have h5:0<(s.1.dropWhile blk).length:=List.length_pos_iff.2 h2;simp only [List.length_drop,List.length_take];omega
def LOr (B b:Nat) (t:TypeId) (xs:List Value) (s':Ls) (w:World) (e:Ending) (w':World):Prop:=∃ v,e=.returned v/\w'.ownsRow w.heap.size t 1 v xs.length xs/\LnAt w' b s'/\SStp B (fun k=>k=b) w w'
theorem KQ {B b C:Nat} {s:Ls} {w w2 w3:World} {t:TypeId} {v v3 u:Value} {n:Nat} {xs ys:List Value} (h:LnAt w2 b s) (hs:SStp B (fun k=>k=b) w w2) (ho:w2.ownsRow w.heap.size t 1 v n xs) (hb:b<w.heap.size) (hB:B<=b) (ho3:w3.ownsRow w.heap.size t 1 v3 C ys) (hg:(w2.alloc (.cells #[u] t)).grownBy w3 v.ownBlock):LnAt w3 b s/\SStp B (fun k=>k=b) w w3/\w3.ownsRow w.heap.size t 1 v3 C ys:=by
  have hz:=hs.off.size;have hv:∀ g,v.ownBlock=some g->w.heap.size<=g:=fun g hg=>(ho.lt g hg).1
  have hk:∀ k,k<w2.heap.size->k<w.heap.size->w3.heap[k]?=w2.heap[k]?:=fun k h1 h2=>by
    rw [hg.block k (by simp;omega) (fun e=>by have:=hv k e.symm;omega),heap_alloc_old w2 _ h1]
  refine ⟨⟨(hk b h.lt hb).trans h.o,h.n⟩,⟨hs.below.trans ?_,⟨Nat.le_trans hz (Nat.le_trans (by simp) hg.size),fun k h1 h2=>(hk k (by omega) h1).trans (hs.off.block k h1 h2)⟩⟩,ho3⟩;exact ((Below.refl B w2).alloc (by omega) _).grown hg (by simp;omega) (fun k hk=>Nat.le_trans (by omega) (hv k hk))
theorem un43:Tryz.prog.underlying 60=some (.slice 9):=by kernel_rfl
theorem inf9:(Tryz.prog.info? 9).map (fun i=>(i.zero,i.size,i.bytes))=some (some (.string ⟨#[]⟩),1,16):=by kernel_rfl
theorem un42:Tryz.prog.underlying 27=some (.slice 3):=by kernel_rfl
theorem inf3:(Tryz.prog.info? 3).map (fun i=>(i.zero,i.size,i.bytes))=some (some (.int .i64 0),1,8):=by kernel_rfl
theorem KL {B b:Nat} {s:Ls} (w:World) (h:LnAt w b s) (hB:B<=b):Calls Tryz.prog 188 #[.pointer (some ⟨b,0,none⟩),.func (.func 189) #[.pointer (some ⟨b,0,none⟩)] #[]] w (LOr B b 9 ((zl (fun x s=>yr x 1 s) s).1.map fun x=>.string (yd x)) (zl (fun x s=>yr x 1 s) s).2 w):=by
  have hBw:B<=w.heap.size:=Nat.le_of_lt (Nat.lt_of_le_of_lt hB h.lt);have hbl:b<w.heap.size:=h.lt;have hn:=h.n;obtain ⟨N,hN⟩:∃ N,s.1.length+1=N:=⟨_,rfl⟩;obtain ⟨rd,hrd⟩:∃ rd:List UInt8->Ls->Ls,(fun x s=>yr x 1 s)=rd:=⟨_,rfl⟩;have hrr:∀ x s,(rd x s).1=s.1:=by rw [<-hrd];exact fun x s=>xx x 1 s
  have HT:Hid (∀ w' s',LnAt w' b s'->Calls Tryz.prog 149 #[.pointer (some ⟨b,0,none⟩)] w' (LO B b (.tuple #[.string (yd (yg s').1.1),.bool (yg s').1.2]) (yg s').2 w')):=fun w' s' h'=>xY w' h' hB
  have HI:Hid (∀ w' s' x,LnAt w' b s'->x.length<=9000000->Calls Tryz.prog 189 #[.pointer (some ⟨b,0,none⟩),.string (yd x)] w' (LO B b (.string (yd x)) (rd x s') w')):=by rw [<-hrd];exact fun w' s' x h' hx=>Yo x w' h' hB hx
  have HL:Hid (LnAt w b s):=h;unfold zl;rw [hrd,hN];have HN:Hid (s.1.length+1=N):=hN;have Hrr:Hid (∀ x s,(rd x s).1=s.1):=hrr;clear h hrd hN hrr;go_enter Tryz.func188,Tryz.ntmps188;go_wp2_with fail
  refine cA (HT.out w s HL.out) ?_;rintro e w1 ⟨rfl,h1,h2⟩;have H1:Hid (LnAt w1 b (yg s).2/\SStp B (fun k=>k=b) w w1):=⟨h1,h2⟩;clear h1 h2;go_wp2_with fail
  go_loopg [5,6,7] N (fun g v5 v6 v7 wr=>∃ (v:Value) (acc:List (List UInt8)) (sc:Ls) (x:List UInt8) (ok:Bool),v5=v/\v6=.string (yd x)/\v7=.bool ok/\Hid ((yg sc).1=(x,ok))/\Hid (sc.1.length+1<=g/\acc.length+sc.1.length<=s.1.length/\lstP rd N s=(acc++(lstP rd g sc).1,(lstP rd g sc).2))/\Hid (wr.ownsRow w.heap.size 9 1 v acc.length (acc.map fun x=>.string (yd x)))/\Hid (LnAt wr b (yg sc).2)/\Hid (SStp B (fun k=>k=b) w wr))
  case atStart=>exact ⟨_,[],s,_,_,rfl,rfl,rfl,rfl,⟨by have:=HN.out;omega,by simp,rfl⟩,World.ownsRow_nil _ _ _ _,H1.out.1,H1.out.2⟩
  case round=>
    clear H1 HL;obtain ⟨v,acc,sc,x,ok,rfl,rfl,rfl,HTk,HG,HO,HLn,HS⟩:=hrel;obtain ⟨va,vc,hvs⟩:=yv HO.out;subst hvs
    cases ok with
    | false =>
      have HR:Hid (lstP rd N s=(acc,(yg sc).2)):=by
        have h1:=HG.out.2.2;obtain ⟨g',hg'⟩:∃ g',gk=g'+1:=⟨gk-1,by have:=HG.out.1;omega⟩;rw [hg',KO HTk.out,List.append_nil] at h1;exact h1
      go_wp2_with fail
      go_ret;exact ⟨_,rfl,by rw [HR.out,List.length_map];exact HO.out,by rw [HR.out];exact HLn.out,HS.out⟩
    | true =>
      cases gk with
      | zero=>exact absurd HG.out.1 (by omega)
      | succ g'=>
      have hk1:(yg sc).1.2=true:=by rw [HTk.out]
      have hk2:(yg sc).1.1=x:=by rw [HTk.out]
      have hl:=xX hk1;rw [hk2] at hl;have hG:=HG.out;have hxl:x.length<=9000000:=by omega
      have hal:acc.length<=9000000:=by omega
      have HNx:Hid ((rd x (yg sc).2).1.length+1<=g'/\(acc++[x]).length+(rd x (yg sc).2).1.length<=s.1.length/\lstP rd N s=((acc++[x])++(lstP rd g' (rd x (yg sc).2)).1,(lstP rd g' (rd x (yg sc).2)).2)):=by
        refine ⟨by rw [Hrr.out];omega,by rw [Hrr.out];simp;omega,?_⟩;have h1:=hG.2.2;rw [KP HTk.out] at h1;rw [h1,List.append_assoc];rfl
      have HI2:Hid (Calls Tryz.prog 189 #[.pointer (some ⟨b,0,none⟩),.string (yd x)] wr (LO B b (.string (yd x)) (rd x (yg sc).2) wr)):=HI.out wr _ x HLn.out hxl;clear hk1 hk2 hl hG HG
      go_wp2_with (first
        | (go_at_call 189;refine cA HI2.out ?_;rintro e w2 ⟨rfl,h3,h4⟩;(have H2:Hid (LnAt w2 b (rd x (yg sc).2)/\SStp B (fun k=>k=b) w w2):=⟨h3,HS.out.trans h4⟩);(have HO2:Hid (w2.ownsRow w.heap.size 9 1 (.slice va acc.length vc) acc.length (acc.map fun x=>.string (yd x))):=zD HO.out h4 hbl);clear h3 h4)
        | (at_builtin;refine Kl w2 (.string (yd x)) rfl _ _ 60 9 (.string ⟨#[]⟩) 16 rfl un43 inf9 rfl w.heap.size _ _ _ (by rfl) HO2.out rfl _ rfl (by rfl) (by unfold maxLen;omega) (by omega) (H2.out.2.off.size) ?_;intro v3 w3 ho3 hg3 hn3;(have H3:Hid (LnAt w3 b (rd x (yg sc).2)/\SStp B (fun k=>k=b) w w3/\w3.ownsRow w.heap.size 9 1 v3 (acc.length+1) ((acc.map fun x=>.string (yd x))++[.string (yd x)])):=KQ H2.out.1 H2.out.2 HO2.out hbl hB ho3 hg3);clear ho3 hg3 hn3)
        | (go_at_call 149;refine cA (HT.out w3 _ H3.out.1) ?_;rintro e w4 ⟨rfl,h5,h6⟩;(have H4:Hid (LnAt w4 b (yg (rd x (yg sc).2)).2/\SStp B (fun k=>k=b) w w4/\w4.ownsRow w.heap.size 9 1 v3 (acc.length+1) ((acc.map fun x=>.string (yd x))++[.string (yd x)])):=⟨h5,H3.out.2.1.trans h6,zD H3.out.2.2 h6 hbl⟩);clear h5 h6))
      go_roundg g'
      case measure=>omega
      case rel=>exact ⟨v3,acc++[x],rd x (yg sc).2,_,_,rfl,rfl,rfl,rfl,HNx.out,by rw [List.length_append,List.map_append];exact H4.out.2.2,H4.out.1,H4.out.2.1⟩
theorem y5z {B b:Nat} {s:Ls} (w:World) (h:LnAt w b s) (hB:B<=b):Calls Tryz.prog 191 #[.pointer (some ⟨b,0,none⟩),.func (.func 192) #[.pointer (some ⟨b,0,none⟩)] #[]] w (LOr B b 3 ((zl ze s).1.map fun x=>.int .i64 (litP x).1) (zl ze s).2 w):=by
  have hBw:B<=w.heap.size:=Nat.le_of_lt (Nat.lt_of_le_of_lt hB h.lt);have hbl:b<w.heap.size:=h.lt;have hn:=h.n;obtain ⟨N,hN⟩:∃ N,s.1.length+1=N:=⟨_,rfl⟩;obtain ⟨rd,hrd⟩:∃ rd:List UInt8->Ls->Ls,ze=rd:=⟨_,rfl⟩;have hrr:∀ x s,(rd x s).1=s.1:=by rw [<-hrd];exact ZP
  have HT:Hid (∀ w' s',LnAt w' b s'->Calls Tryz.prog 149 #[.pointer (some ⟨b,0,none⟩)] w' (LO B b (.tuple #[.string (yd (yg s').1.1),.bool (yg s').1.2]) (yg s').2 w')):=fun w' s' h'=>xY w' h' hB
  have HI:Hid (∀ w' s' x,LnAt w' b s'->x.length<=9000000->Calls Tryz.prog 192 #[.pointer (some ⟨b,0,none⟩),.string (yd x)] w' (LO B b (.int .i64 (litP x).1) (rd x s') w')):=by rw [<-hrd];exact fun w' s' x h' hx=>KR x w' h' hB hx
  have HL:Hid (LnAt w b s):=h;unfold zl;rw [hrd,hN];have HN:Hid (s.1.length+1=N):=hN;have Hrr:Hid (∀ x s,(rd x s).1=s.1):=hrr;clear h hrd hN hrr;go_enter Tryz.func191,Tryz.ntmps191;go_wp2_with fail
  refine cA (HT.out w s HL.out) ?_;rintro e w1 ⟨rfl,h1,h2⟩;have H1:Hid (LnAt w1 b (yg s).2/\SStp B (fun k=>k=b) w w1):=⟨h1,h2⟩;clear h1 h2;go_wp2_with fail
  go_loopg [5,6,7] N (fun g v5 v6 v7 wr=>∃ (v:Value) (acc:List (List UInt8)) (sc:Ls) (x:List UInt8) (ok:Bool),v5=v/\v6=.string (yd x)/\v7=.bool ok/\Hid ((yg sc).1=(x,ok))/\Hid (sc.1.length+1<=g/\acc.length+sc.1.length<=s.1.length/\lstP rd N s=(acc++(lstP rd g sc).1,(lstP rd g sc).2))/\Hid (wr.ownsRow w.heap.size 3 1 v acc.length (acc.map fun x=>.int .i64 (litP x).1))/\Hid (LnAt wr b (yg sc).2)/\Hid (SStp B (fun k=>k=b) w wr))
  case atStart=>exact ⟨_,[],s,_,_,rfl,rfl,rfl,rfl,⟨by have:=HN.out;omega,by simp,rfl⟩,World.ownsRow_nil _ _ _ _,H1.out.1,H1.out.2⟩
  case round=>
    clear H1 HL;obtain ⟨v,acc,sc,x,ok,rfl,rfl,rfl,HTk,HG,HO,HLn,HS⟩:=hrel;obtain ⟨va,vc,hvs⟩:=yv HO.out;subst hvs
    cases ok with
    | false =>
      have HR:Hid (lstP rd N s=(acc,(yg sc).2)):=by
        have h1:=HG.out.2.2;obtain ⟨g',hg'⟩:∃ g',gk=g'+1:=⟨gk-1,by have:=HG.out.1;omega⟩;rw [hg',KO HTk.out,List.append_nil] at h1;exact h1
      go_wp2_with fail
      go_ret;exact ⟨_,rfl,by rw [HR.out,List.length_map];exact HO.out,by rw [HR.out];exact HLn.out,HS.out⟩
    | true =>
      cases gk with
      | zero=>exact absurd HG.out.1 (by omega)
      | succ g'=>
      have hk1:(yg sc).1.2=true:=by rw [HTk.out]
      have hk2:(yg sc).1.1=x:=by rw [HTk.out]
      have hl:=xX hk1;rw [hk2] at hl;have hG:=HG.out;have hxl:x.length<=9000000:=by omega
      have hal:acc.length<=9000000:=by omega
      have HNx:Hid ((rd x (yg sc).2).1.length+1<=g'/\(acc++[x]).length+(rd x (yg sc).2).1.length<=s.1.length/\lstP rd N s=((acc++[x])++(lstP rd g' (rd x (yg sc).2)).1,(lstP rd g' (rd x (yg sc).2)).2)):=by
        refine ⟨by rw [Hrr.out];omega,by rw [Hrr.out];simp;omega,?_⟩;have h1:=hG.2.2;rw [KP HTk.out] at h1;rw [h1,List.append_assoc];rfl
      have HI2:Hid (Calls Tryz.prog 192 #[.pointer (some ⟨b,0,none⟩),.string (yd x)] wr (LO B b (.int .i64 (litP x).1) (rd x (yg sc).2) wr)):=HI.out wr _ x HLn.out hxl;clear hk1 hk2 hl hG HG
      go_wp2_with (first
        | (go_at_call 192;refine cA HI2.out ?_;rintro e w2 ⟨rfl,h3,h4⟩;(have H2:Hid (LnAt w2 b (rd x (yg sc).2)/\SStp B (fun k=>k=b) w w2):=⟨h3,HS.out.trans h4⟩);(have HO2:Hid (w2.ownsRow w.heap.size 3 1 (.slice va acc.length vc) acc.length (acc.map fun x=>.int .i64 (litP x).1)):=zD HO.out h4 hbl);clear h3 h4)
        | (at_builtin;refine Kl w2 (.int .i64 (litP x).1) rfl _ _ 27 3 (.int .i64 0) 8 rfl un42 inf3 rfl w.heap.size _ _ _ (by rfl) HO2.out rfl _ rfl (by rfl) (by unfold maxLen;omega) (by omega) (H2.out.2.off.size) ?_;intro v3 w3 ho3 hg3 hn3;(have H3:Hid (LnAt w3 b (rd x (yg sc).2)/\SStp B (fun k=>k=b) w w3/\w3.ownsRow w.heap.size 3 1 v3 (acc.length+1) ((acc.map fun x=>.int .i64 (litP x).1)++[.int .i64 (litP x).1])):=KQ H2.out.1 H2.out.2 HO2.out hbl hB ho3 hg3);clear ho3 hg3 hn3)
        | (go_at_call 149;refine cA (HT.out w3 _ H3.out.1) ?_;rintro e w4 ⟨rfl,h5,h6⟩;(have H4:Hid (LnAt w4 b (yg (rd x (yg sc).2)).2/\SStp B (fun k=>k=b) w w4/\w4.ownsRow w.heap.size 3 1 v3 (acc.length+1) ((acc.map fun x=>.int .i64 (litP x).1)++[.int .i64 (litP x).1])):=⟨h5,H3.out.2.1.trans h6,zD H3.out.2.2 h6 hbl⟩);clear h5 h6))
      go_roundg g'
      case measure=>omega
      case rel=>exact ⟨v3,acc++[x],rd x (yg sc).2,_,_,rfl,rfl,rfl,rfl,HNx.out,by rw [List.length_append,List.map_append];exact H4.out.2.2,H4.out.1,H4.out.2.1⟩
end Go.Proofs.YtjgghimjnbjlbaaGreatDoor
