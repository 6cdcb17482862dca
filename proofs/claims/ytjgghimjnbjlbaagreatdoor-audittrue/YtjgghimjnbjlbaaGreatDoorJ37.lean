/-
  Put together: PfPc, PfRowW, PfRd2, PfRd3, PfRd4, PfRd5.
-/
import Derived.Test.YtjgghimjnbjlbaaGreatDoorJ04
import Derived.Test.YtjgghimjnbjlbaaGreatDoorPfReg
import Derived.Test.YtjgghimjnbjlbaaGreatDoorJ36
namespace Go.Proofs.YtjgghimjnbjlbaaGreatDoor
open Go.RowKit
abbrev PcL:=List UInt8 × Int
def pcC (o:PcL):List Value:=[.string (yd o.1),.int .i64 o.2]
def pcsC (L:List PcL):List Value:=L.flatMap pcC
theorem y5O (L M:List PcL):pcsC (L++M)=pcsC L++pcsC M:=by unfold pcsC;rw [List.flatMap_append]
theorem y5P (o:PcL):pcsC [o]=pcC o:=by simp [pcsC]
theorem un39:Tryz.prog.underlying 87=some (.slice 251):=by kernel_rfl
theorem y5Q:(Tryz.prog.info? 251).map (fun i=>(i.zero,i.size,i.bytes))=some (some (.agg #[.string ⟨#[]⟩,.int .i64 0]),2,24):=by kernel_rfl
def pcA (x:List UInt8) (s:Ls):Ls:=yr x (-1) s
def pcY (x:List UInt8) (s:Ls):List UInt8:=(ye (pcA x s)).1
def pcB (x:List UInt8) (s:Ls):Ls:=ze (pcY x s) (ye (pcA x s)).2
def rowL:Nat->List UInt8->Ls->List PcL × Ls
  | 0,_,s=>([],s)
  | n+1,x,s=>if x=[62,61]∨s.2.isSome=true then ([],s) else ((x,(litP (pcY x s)).1) :: (rowL n (ye (pcB x s)).1 (ye (pcB x s)).2).1,(rowL n (ye (pcB x s)).1 (ye (pcB x s)).2).2)
theorem y5R {n:Nat} {x:List UInt8} {s:Ls} (h:x=[62,61]∨s.2.isSome=true):rowL (n+1) x s=([],s):=by simp only [rowL];rw [if_pos h]
theorem y5S {n:Nat} {x:List UInt8} {s:Ls} (h:¬ (x=[62,61]∨s.2.isSome=true)):rowL (n+1) x s=((x,(litP (pcY x s)).1) :: (rowL n (ye (pcB x s)).1 (ye (pcB x s)).2).1,(rowL n (ye (pcB x s)).1 (ye (pcB x s)).2).2):=by simp only [rowL];rw [if_neg h]
def rowP (s:Ls):(List PcL × List UInt8) × Ls:=
  (((rowL (s.1.length+3) (ye s).1 (ye s).2).1,(ye (rowL (s.1.length+3) (ye s).1 (ye s).2).2).1),xy [59] (yr (ye (rowL (s.1.length+3) (ye s).1 (ye s).2).2).1 (-1) (ye (rowL (s.1.length+3) (ye s).1 (ye s).2).2).2))
theorem y5T (e:Int) (s:Ls):(yu e s).2.isSome=true:=by
  unfold yu
  cases h:s.2 with
  | none=>rfl
  | some x=>simp [h]
theorem y5U {s:Ls} (h:(ye s).2.2=none):(ye s).2.1.length<s.1.length:=by
  unfold ye at h ⊢
  split
  · rename_i hk;exact (xX hk).1
  · rename_i hk
    rw [if_neg hk] at h;have:=y5T 82 (yg s).2;simp only at h;rw [h] at this
    cases this
theorem y5V (x:List UInt8) (s:Ls):(ye (pcB x s)).2.1.length<=s.1.length/\((ye (pcB x s)).2.2=none->(ye (pcB x s)).2.1.length<s.1.length):=by
  have h1:(pcB x s).1.length<=s.1.length:=by
    unfold pcB;rw [ZP];refine Nat.le_trans (zR _) ?_;unfold pcA;rw [xx];exact Nat.le_refl _
  exact ⟨Nat.le_trans (zR _) h1,fun h=>Nat.lt_of_lt_of_le (y5U h) h1⟩
theorem y5W (x:List UInt8) (s:Ls):(pcY x s).length<=s.1.length:=by
  unfold pcY;refine Nat.le_trans (zw _) ?_;unfold pcA;rw [xx];exact Nat.le_refl _
def RwM (N g:Nat) (n0:Nat) (x:List UInt8) (acc:List PcL) (s:Ls) (all:List PcL × Ls):Prop:=x.length<=n0/\s.1.length<=n0/\1<=g/\g<=N/\(s.2=none->s.1.length+2<=g/\acc.length+s.1.length<=n0)/\acc.length<=n0+1/\all=(acc++(rowL g x s).1,(rowL g x s).2)
theorem y5X (s:Ls):RwM (s.1.length+3) (s.1.length+3) s.1.length (ye s).1 [] (ye s).2 (rowL (s.1.length+3) (ye s).1 (ye s).2):=
  ⟨zw s,zR s,by omega,Nat.le_refl _,fun _=>⟨by have:=zR s;omega,by have:=zR s;simp;exact this⟩,by simp,by simp⟩
theorem KZ {N g n0:Nat} {x:List UInt8} {acc:List PcL} {s:Ls} {all:List PcL × Ls} (h:RwM N g n0 x acc s all) (hs:x=[62,61]∨s.2.isSome=true):all=(acc,s):=by
  obtain ⟨_,_,h1,_,_,_,h2⟩:=h;obtain ⟨g',rfl⟩:∃ g',g=g'+1:=⟨g-1,by omega⟩;rw [y5R hs,List.append_nil] at h2;exact h2
theorem y5Y {N g n0:Nat} {x:List UInt8} {acc:List PcL} {s:Ls} {all:List PcL × Ls} (h:RwM N (g+1) n0 x acc s all) (hs:¬ (x=[62,61]∨s.2.isSome=true)):RwM N g n0 (ye (pcB x s)).1 (acc++[(x,(litP (pcY x s)).1)]) (ye (pcB x s)).2 all:=by
  obtain ⟨h0,h1,h2,h3,h4,h5,h6⟩:=h;have hn:s.2=none:=by
    cases h7:s.2 with
    | none=>rfl
    | some e=>exact absurd (.inr (by rw [h7];rfl)) hs
  have h8:=h4 hn;have h9:=y5V x s;refine ⟨?_,Nat.le_trans h9.1 h1,by omega,by omega,fun hq=>?_,by simp;omega,?_⟩
  · refine Nat.le_trans (zw _) ?_
    unfold pcB;rw [ZP];refine Nat.le_trans (zR _) ?_;unfold pcA;rw [xx];exact h1
  · have:=h9.2 hq
    simp;omega
  · rw [y5S hs] at h6
    rw [h6,List.append_assoc];rfl
structure RwAt (B b p2 p3:Nat) (w0 w:World) (v d:Value) (acc:List PcL) (s:Ls):Prop where
  e2:p2=w0.heap.size
  e3:p3=w0.heap.size+1
  b2:w.heap[p2]?=some (.cells #[.slice none 0 0,.string ⟨#[]⟩] 89 (0,0))
  b3:w.heap[p3]?=some (.cells #[v,d] 89 (0,0))
  own:w.ownsRow (w0.heap.size+2) 251 2 v acc.length (pcsC acc)
  ln:LnAt w b s
  stp:SStp B (fun k=>k=b) w0 w
theorem RwAt.call {B b p2 p3:Nat} {w0 w w':World} {v d:Value} {acc:List PcL} {s s':Ls} (h:RwAt B b p2 p3 w0 w v d acc s) (hb:b<w0.heap.size) (h1:LnAt w' b s') (h2:SStp B (fun k=>k=b) w w'):RwAt B b p2 p3 w0 w' v d acc s':=by
  have l2:p2<w.heap.size:=(hLt h.b2);have l3:p3<w.heap.size:=(hLt h.b3);exact ⟨h.e2,h.e3,(h2.off.block p2 l2 (by have:=h.e2;omega)).trans h.b2,(h2.off.block p3 l3 (by have:=h.e3;omega)).trans h.b3,zD h.own h2 (by omega),h1,h.stp.trans h2⟩
theorem RwAt.drewn {B b p2 p3:Nat} {w0 w:World} {v d:Value} {acc:List PcL} {s:Ls} (h:RwAt B b p2 p3 w0 w v d acc s):RwAt B b p2 p3 w0 w.drew v d acc s:=
  ⟨h.e2,h.e3,h.b2,h.b3,h.own.drew,⟨h.ln.o,h.ln.n⟩,h.stp.below.drew,⟨h.stp.off.size,h.stp.off.block⟩⟩
theorem RwAt.app {B b p2 p3:Nat} {w0 w w6:World} {v v6 d:Value} {acc:List PcL} {s:Ls} {o:PcL} (h:RwAt B b p2 p3 w0 w v d acc s) (hB:B<=b) (hb:b<w0.heap.size) (h1:w6.ownsRow (w0.heap.size+2) 251 2 v6 (acc.length+1) (pcsC acc++pcC o)) (h2:(w.alloc (.cells (pcC o).toArray 251)).grownBy w6 v.ownBlock):w6.heap[p3]?=some (.cells #[v,d] 89 (0,0))/\RwAt B b p2 p3 w0 (w6.setCell ⟨p3,0,none⟩ v6) v6 d (acc++[o]) s:=by
  have e2:=h.e2;have e3:=h.e3;have l2:p2<w.heap.size:=(hLt h.b2);have l3:p3<w.heap.size:=(hLt h.b3);have hv:∀ g,v.ownBlock=some g->w0.heap.size+2<=g:=fun g hg=>(h.own.lt g hg).1
  have hk:∀ k,k<w.heap.size->k<w0.heap.size+2->w6.heap[k]?=w.heap[k]?:=fun k h3 h4=>by
    rw [h2.block k (by simp;omega) (fun e=>by have:=hv k e.symm;omega),heap_alloc_old w _ h3]
  have g3:=(hk p3 l3 (by omega)).trans h.b3;have hne:∀ k,k≠p3->(w6.setCell ⟨p3,0,none⟩ v6).heap[k]?=w6.heap[k]?:=fun k hk=>heap_setCell_other _ _ _ _ hk
  have hz:=h.stp.off.size;refine ⟨g3,e2,e3,(hne p2 (by omega)).trans ((hk p2 l2 (by omega)).trans h.b2),yB g3 0 v6,?_,⟨(hne b (by omega)).trans ((hk b h.ln.lt (by omega)).trans h.ln.o),h.ln.n⟩,?_,⟨?_,?_⟩⟩
  · rw [List.length_append,y5O,y5P]
    exact yN h1 fun g hg=>hne g (by have:=(h1.lt g hg).1;omega)
  · exact (h.stp.below.trans (((Below.refl B w).alloc (by omega) _).grown h2 (by simp;omega) (fun k hk=>Nat.le_trans (by omega) (hv k hk)))).setCell (by show B<=p3;omega) _
  · rw [World.size_setCell];exact Nat.le_trans hz (Nat.le_trans (by simp) h2.size)
  · intro k h3 h4
    rw [hne k (by omega),hk k (by omega) (by omega)];exact h.stp.off.block k h3 h4
theorem RwAt.deg {B b p2 p3:Nat} {w0 w:World} {v d d':Value} {acc:List PcL} {s:Ls} (h:RwAt B b p2 p3 w0 w v d acc s) (hB:B<=b) (hb:b<w0.heap.size):RwAt B b p2 p3 w0 (w.setCell ⟨p3,1,none⟩ d') v d' acc s:=by
  have e2:=h.e2;have e3:=h.e3;have hne:∀ k,k≠p3->(w.setCell ⟨p3,1,none⟩ d').heap[k]?=w.heap[k]?:=fun k hk=>heap_setCell_other _ _ _ _ hk
  exact ⟨e2,e3,(hne p2 (by omega)).trans h.b2,yB h.b3 1 d',yN h.own fun g hg=>hne g (by have:=(h.own.lt g hg).1;omega),⟨(hne b (by omega)).trans h.ln.o,h.ln.n⟩,h.stp.below.setCell (by show B<=p3;omega) _,⟨Nat.le_trans h.stp.off.size (by simp),fun k h3 h4=>(hne k (by omega)).trans (h.stp.off.block k h3 h4)⟩⟩
def Z4 (B b:Nat) (w:World) (r:(List PcL × List UInt8) × Ls) (e:Ending) (w':World):Prop:=∃ v,e=.returned (.agg #[v,.string (yd r.1.2)])/\w'.ownsRow w.heap.size 251 2 v r.1.1.length (pcsC r.1.1)/\LnAt w' b r.2/\SStp B (fun k=>k=b) w w'
theorem RwAt.out {B b p2 p3:Nat} {w0 w:World} {v:Value} {y:List UInt8} {acc:List PcL} {s:Ls} (h:RwAt B b p2 p3 w0 w v (.string (yd y)) acc s) (hB:B<=b) (hb:b<w0.heap.size):Z4 B b w0 ((acc,y),s) (.returned (.agg #[v,.string (yd y)])) ((w.setCell ⟨p2,0,none⟩ v).setCell ⟨p2,1,none⟩ (.string (yd y))):=by
  have e2:=h.e2;have hne:∀ k,k≠p2->((w.setCell ⟨p2,0,none⟩ v).setCell ⟨p2,1,none⟩ (.string (yd y))).heap[k]?=w.heap[k]?:=fun k hk=>(heap_setCell_other _ _ _ _ hk).trans (heap_setCell_other _ _ _ _ hk)
  refine ⟨v,rfl,yM (yN h.own fun g hg=>hne g (by have:=(h.own.lt g hg).1;omega)) (by omega),⟨(hne b (by omega)).trans h.ln.o,h.ln.n⟩,(h.stp.below.setCell (by show B<=p2;omega) _).setCell (by show B<=p2;omega) _,⟨Nat.le_trans h.stp.off.size (by simp),fun k h3 h4=>(hne k (by omega)).trans (h.stp.off.block k h3 h4)⟩⟩
end Go.Proofs.YtjgghimjnbjlbaaGreatDoor

namespace Go.Proofs.YtjgghimjnbjlbaaGreatDoor
open Go.RowKit
set_option maxRecDepth 10000
set_option maxHeartbeats 8000000
theorem y03 {B b:Nat} {s:Ls} (w:World) (h:LnAt w b s) (hB:B<=b):Calls Tryz.prog 187 #[.pointer (some ⟨b,0,none⟩)] w (Z4 B b w (rowP s)):=by
  have hn:=h.n;have hbl:=h.lt;have hBw:B<=w.heap.size:=by omega
  have HNx:Hid (∀ w' s',LnAt w' b s'->Calls Tryz.prog 127 #[.pointer (some ⟨b,0,none⟩)] w' (LO B b (.string (yd (ye s').1)) (ye s').2 w')):=fun w' s' h'=>zQ w' h' hB
  have HNum:Hid (∀ w' s' x,LnAt w' b s'->x.length<=9000000->Calls Tryz.prog 215 #[.pointer (some ⟨b,0,none⟩),.string (yd x)] w' (LO B b (.string (yd x)) (yr x (-1) s') w')):=fun w' s' x h' hx=>yn x w' h' hB hx
  have HLit:Hid (∀ w' s' x,LnAt w' b s'->x.length<=9000000->Calls Tryz.prog 192 #[.pointer (some ⟨b,0,none⟩),.string (yd x)] w' (LO B b (.int .i64 (litP x).1) (ze x s') w')):=fun w' s' x h' hx=>KR x w' h' hB hx
  have HMu:Hid (∀ w' s',LnAt w' b s'->Calls Tryz.prog 130 #[.pointer (some ⟨b,0,none⟩),.string ⟨#[59]⟩] w' (LO B b (.tuple #[]) (xy [59] s') w')):=fun w' s' h'=>KN [59] w' h' hB
  obtain ⟨X1,hX1⟩:∃ X,w.alloc (.cells #[.slice none 0 0,.string ⟨#[]⟩] 89)=X:=⟨_,rfl⟩;obtain ⟨X2,hX2⟩:∃ X,X1.alloc (.cells #[.slice none 0 0,.string ⟨#[]⟩] 89)=X:=⟨_,rfl⟩;have HX:Hid (RwAt B b w.heap.size X1.heap.size w X2 (.slice none 0 0) (.string ⟨#[]⟩) [] s):=by
    have s1:X1.heap.size=w.heap.size+1:=by rw [<-hX1];simp
    have b1:Below w.heap.size w X1:=bAe hX1;have b2:Below X1.heap.size X1 X2:=bAe hX2;refine ⟨rfl,s1,(b2.block _ (by omega)).trans (hAe hX1),hAe hX2,World.ownsRow_nil _ _ _ _,h.below (ym b1 b2),SStp.of_below (ym b1 b2) hBw⟩
  have HSz2:Hid (∀ u {v d acc s},RwAt B b w.heap.size X1.heap.size w u v d acc s->w.heap.size+2<=u.heap.size):=fun u _ _ _ _ hr=>by have:=(hLt hr.b3);have:=hr.e3;omega
  have HSz:Hid (∀ Y:World,w.heap.size+2<=Y.heap.size->w.heap.size+2<=Y.heap.size):=fun _ h=>h
  unfold rowP;obtain ⟨N,hN⟩:∃ N,s.1.length+3=N:=⟨_,rfl⟩;have hM:=y5X s;rw [hN] at hM ⊢;obtain ⟨all,hall⟩:∃ a,rowL N (ye s).1 (ye s).2=a:=⟨_,rfl⟩;rw [hall] at hM ⊢;have HM0:Hid (RwM N N s.1.length (ye s).1 [] (ye s).2 all):=hM;clear h hN hM hall;go_enter Tryz.func187,Tryz.ntmps187;go_wp2_with fail
  refine cA (HNx.out X2 s HX.out.ln) ?_;rintro e w1 ⟨rfl,h1,h2⟩;have H1:Hid (RwAt B b w.heap.size X1.heap.size w w1 (.slice none 0 0) (.string ⟨#[]⟩) [] (ye s).2):=HX.out.call hbl h1 h2;clear h1 h2 HX;go_wp2_with fail
  go_loopg [4] N (fun g v4 wr=>∃ (v:Value) (acc:List PcL) (sc:Ls) (x:List UInt8),v4=.string (yd x)/\Hid (RwM N g s.1.length x acc sc all)/\Hid (RwAt B b w.heap.size X1.heap.size w wr v (.string ⟨#[]⟩) acc sc))
  case atStart=>exact ⟨_,[],(ye s).2,_,rfl,HM0.out,H1.out⟩
  case round=>
    clear H1 HM0;obtain ⟨v,acc,sc,x,rfl,HM,HRw⟩:=hrel;obtain ⟨va,vc,hvs⟩:=yv HRw.out.own;subst hvs;have hq:=xB x [62,61];have l1:wr.cell? ⟨b,1,none⟩=some (fv sc.2):=yb HRw.out.ln.o 1
    by_cases hx:x=[62,61]
    · rw [decide_eq_true hx] at hq
      have HXq:Hid (x=[62,61]):=hx;clear l1 hx;have HRs:Hid (all=(acc,sc)):=KZ HM.out (.inl HXq.out);go_wp2_with fail
      refine cA (HNx.out wr _ HRw.out.ln) ?_;rintro e w2 ⟨rfl,h1,h2⟩;have H2:Hid (RwAt B b w.heap.size X1.heap.size w w2 (.slice va acc.length vc) (.string ⟨#[]⟩) acc (ye sc).2):=HRw.out.call hbl h1 h2;clear h1 h2;go_wp2_with fail
      refine cA (HNum.out w2 _ (ye sc).1 H2.out.ln (Nat.le_trans (zw sc) (Nat.le_trans HM.out.2.1 hn))) ?_;rintro e w3 ⟨rfl,h1,h2⟩;have H3:Hid (RwAt B b w.heap.size X1.heap.size w w3 (.slice va acc.length vc) (.string ⟨#[]⟩) acc (yr (ye sc).1 (-1) (ye sc).2)):=H2.out.call hbl h1 h2;clear h1 h2;have d1:w3.cell? ⟨X1.heap.size,1,none⟩=some (.string ⟨#[]⟩):=yb H3.out.b3 1;have dz:=yl H3.out.b3 1;have H4:Hid (RwAt B b w.heap.size X1.heap.size w (w3.setCell ⟨X1.heap.size,1,none⟩ (.string (yd (ye sc).1))) (.slice va acc.length vc) (.string (yd (ye sc).1)) acc (yr (ye sc).1 (-1) (ye sc).2)):=H3.out.deg hB hbl;go_wp2_with fail
      refine cA (HMu.out _ _ H4.out.ln) ?_;rintro e w5 ⟨rfl,h1,h2⟩;have H5:Hid (RwAt B b w.heap.size X1.heap.size w w5 (.slice va acc.length vc) (.string (yd (ye sc).1)) acc (xy [59] (yr (ye sc).1 (-1) (ye sc).2))):=H4.out.call hbl h1 h2;clear h1 h2 d1 dz;have f0:w5.cell? ⟨X1.heap.size,0,none⟩=some (.slice va acc.length vc):=yb H5.out.b3 0;have f1:w5.cell? ⟨X1.heap.size,1,none⟩=some (.string (yd (ye sc).1)):=yb H5.out.b3 1;have k0:w5.cell? ⟨w.heap.size,0,none⟩=some (.slice none 0 0):=yb H5.out.b2 0;have k1:w5.cell? ⟨w.heap.size,1,none⟩=some (.string ⟨#[]⟩):=yb H5.out.b2 1;have kz:=yl H5.out.b2;go_wp2_with fail
      have hE:=H5.out.out hB hbl;have hp:=yB (yB H5.out.b2 0 (.slice va acc.length vc)) 1 (.string (yd (ye sc).1));have m0:=yb hp 0;have m1:=yb hp 1;simp only [HRs.out];exact bodyPost_ret (v:=.agg #[.slice va acc.length vc,.string (yd (ye sc).1)]) (by simp [results,Tryz.results187,go_sem,m0,m1]) rfl hE
    · rw [decide_eq_false hx] at hq
      cases hf:sc.2 with
      | some e0 =>
        rw [hf] at l1;simp only [fv] at l1;have HFq:Hid (sc.2.isSome=true):=by show _=_;rw [hf];rfl
        clear hf hx;have HRs:Hid (all=(acc,sc)):=KZ HM.out (.inr HFq.out);go_wp2_with fail
        refine cA (HNx.out wr _ HRw.out.ln) ?_;rintro e w2 ⟨rfl,h1,h2⟩;have H2:Hid (RwAt B b w.heap.size X1.heap.size w w2 (.slice va acc.length vc) (.string ⟨#[]⟩) acc (ye sc).2):=HRw.out.call hbl h1 h2;clear h1 h2;go_wp2_with fail
        refine cA (HNum.out w2 _ (ye sc).1 H2.out.ln (Nat.le_trans (zw sc) (Nat.le_trans HM.out.2.1 hn))) ?_;rintro e w3 ⟨rfl,h1,h2⟩;have H3:Hid (RwAt B b w.heap.size X1.heap.size w w3 (.slice va acc.length vc) (.string ⟨#[]⟩) acc (yr (ye sc).1 (-1) (ye sc).2)):=H2.out.call hbl h1 h2;clear h1 h2;have d1:w3.cell? ⟨X1.heap.size,1,none⟩=some (.string ⟨#[]⟩):=yb H3.out.b3 1;have dz:=yl H3.out.b3 1;have H4:Hid (RwAt B b w.heap.size X1.heap.size w (w3.setCell ⟨X1.heap.size,1,none⟩ (.string (yd (ye sc).1))) (.slice va acc.length vc) (.string (yd (ye sc).1)) acc (yr (ye sc).1 (-1) (ye sc).2)):=H3.out.deg hB hbl;go_wp2_with fail
        refine cA (HMu.out _ _ H4.out.ln) ?_;rintro e w5 ⟨rfl,h1,h2⟩;have H5:Hid (RwAt B b w.heap.size X1.heap.size w w5 (.slice va acc.length vc) (.string (yd (ye sc).1)) acc (xy [59] (yr (ye sc).1 (-1) (ye sc).2))):=H4.out.call hbl h1 h2;clear h1 h2 d1 dz;have f0:w5.cell? ⟨X1.heap.size,0,none⟩=some (.slice va acc.length vc):=yb H5.out.b3 0;have f1:w5.cell? ⟨X1.heap.size,1,none⟩=some (.string (yd (ye sc).1)):=yb H5.out.b3 1;have k0:w5.cell? ⟨w.heap.size,0,none⟩=some (.slice none 0 0):=yb H5.out.b2 0;have k1:w5.cell? ⟨w.heap.size,1,none⟩=some (.string ⟨#[]⟩):=yb H5.out.b2 1;have kz:=yl H5.out.b2;go_wp2_with fail
        have hE:=H5.out.out hB hbl;have hp:=yB (yB H5.out.b2 0 (.slice va acc.length vc)) 1 (.string (yd (ye sc).1));have m0:=yb hp 0;have m1:=yb hp 1;simp only [HRs.out];exact bodyPost_ret (v:=.agg #[.slice va acc.length vc,.string (yd (ye sc).1)]) (by simp [results,Tryz.results187,go_sem,m0,m1]) rfl hE
      | none=>
      rw [hf] at l1;simp only [fv] at l1
      cases gk with
      | zero=>exact absurd HM.out.2.2.1 (by omega)
      | succ g'=>
      have hno:¬ (x=[62,61]∨sc.2.isSome=true):=by rintro (h | h);exact hx h;rw [hf] at h;cases h
      have HMn:Hid (RwM N g' s.1.length (ye (pcB x sc)).1 (acc++[(x,(litP (pcY x sc)).1)]) (ye (pcB x sc)).2 all):=y5Y HM.out hno;have hxl:x.length<=9000000:=Nat.le_trans HM.out.1 hn;have hyl:(ye (pcA x sc)).1.length<=9000000:=Nat.le_trans (y5W x sc) (Nat.le_trans HM.out.2.1 hn);have hal:acc.length<=9000001:=Nat.le_trans HM.out.2.2.2.2.2.1 (by omega);have HC0:Hid (True/\wr.drew.cell? ⟨X1.heap.size,0,none⟩=some (.slice va acc.length vc)):=⟨trivial,yb HRw.out.b3 0⟩;clear hno HM hf hx;go_wp2_with fail
      refine zt (fun _=>True) (fun w'=>w'.cell? ⟨X1.heap.size,0,none⟩=some (.slice va acc.length vc)) [13] (by kernel_rfl) HC0.out (fun hHeld=>?_);have HRU:Hid (RwAt B b w.heap.size X1.heap.size w wr.drew (.slice va acc.length vc) (.string ⟨#[]⟩) acc sc):=HRw.out.drewn;clear HC0 l1 hq;generalize wr.drew=U at hHeld HRU ⊢
      refine tB (i:=0) (oi:=⟨some 18,.fieldAddr 89 (.tmp 3) 0,_,_,_,_⟩) (v:=?v_aa) ?hy_aa (by assumption) ?rest_aa
      case hy_aa=>(intro w hSw;(try dsimp only at hSw);go_simp;try (with_reducible rfl))
      try simp only [Act.put,q1,q2,q3]
      refine tA (i:=1) (oi:=⟨some 19,.load 87 (.tmp 18),_,_,_,_⟩) (v:=?v_ab) ?hy_ab (by assumption) ?rest_ab
      case hy_ab=>(intro w hSw;(try dsimp only at hSw);go_simp;try (with_reducible rfl))
      try simp only [Act.put,q1,q2,q3]
      refine tB (i:=2) (oi:=⟨some 20,.move (.tmp 0),_,_,_,_⟩) (v:=?v_ac) ?hy_ac (by assumption) ?rest_ac
      case hy_ac=>(intro w hSw;(try dsimp only at hSw);go_simp;try (with_reducible rfl))
      try simp only [Act.put,q1,q2,q3]
      refine tB (i:=3) (oi:=⟨some 21,.move (.tmp 4),_,_,_,_⟩) (v:=?v_ad) ?hy_ad (by assumption) ?rest_ad
      case hy_ad=>(intro w hSw;(try dsimp only at hSw);go_simp;try (with_reducible rfl))
      try simp only [Act.put,q1,q2,q3]
      refine tB (i:=5) (oi:=⟨some 23,.move (.tmp 0),_,_,_,_⟩) (v:=?v_ae) ?hy_ae (by assumption) ?rest_ae
      case hy_ae=>(intro w hSw;(try dsimp only at hSw);go_simp;try (with_reducible rfl))
      try simp only [Act.put,q1,q2,q3]
      refine tB (i:=6) (oi:=⟨some 24,.move (.tmp 0),_,_,_,_⟩) (v:=?v_af) ?hy_af (by assumption) ?rest_af
      case hy_af=>(intro w hSw;(try dsimp only at hSw);go_simp;try (with_reducible rfl))
      try simp only [Act.put,q1,q2,q3]
      refine yF (i:=4) (o:=⟨some 22,.call { callee:=.value (.func 215),args:=#[(.tmp 20),(.tmp 21)],argTypes:=#[135,9] },_,_,_,_⟩) (by kernel_rfl) rfl (fun K hK=>?_);go_simp;refine cA (HNum.out U _ x HRU.out.ln hxl) ?_;rintro e u1 ⟨rfl,h1,h2⟩;go_wp2_with fail
      have HR1:Hid (RwAt B b w.heap.size X1.heap.size w u1 (.slice va acc.length vc) (.string ⟨#[]⟩) acc (pcA x sc)):=HRU.out.call hbl h1 h2;clear hHeld h1 h2;have hHeld:True/\_:=⟨trivial,yb HR1.out.b3 0⟩;refine hK.out _ _ ⟨trivial,fun _=>hHeld.2⟩ ?_;clear hK K;try simp only [Act.put,q1,q2,q3]
      refine yF (i:=7) (o:=⟨some 25,.call { callee:=.value (.func 127),args:=#[(.tmp 24)],argTypes:=#[135] },_,_,_,_⟩) (by kernel_rfl) rfl (fun K hK=>?_);go_simp;refine cA (HNx.out u1 _ HR1.out.ln) ?_;rintro e u2 ⟨rfl,h1,h2⟩;go_wp2_with fail
      have HR2:Hid (RwAt B b w.heap.size X1.heap.size w u2 (.slice va acc.length vc) (.string ⟨#[]⟩) acc (ye (pcA x sc)).2):=HR1.out.call hbl h1 h2;clear hHeld h1 h2;have hHeld:True/\_:=⟨trivial,yb HR2.out.b3 0⟩;refine hK.out _ _ ⟨trivial,fun _=>hHeld.2⟩ ?_;clear hK K;try simp only [Act.put,q1,q2,q3]
      refine yF (i:=8) (o:=⟨some 26,.call { callee:=.value (.func 192),args:=#[(.tmp 23),(.tmp 25)],argTypes:=#[135,9] },_,_,_,_⟩) (by kernel_rfl) rfl (fun K hK=>?_);go_simp;refine cA (HLit.out u2 _ (ye (pcA x sc)).1 HR2.out.ln hyl) ?_;rintro e u3 ⟨rfl,h1,h2⟩;go_wp2_with fail
      have HR3:Hid (RwAt B b w.heap.size X1.heap.size w u3 (.slice va acc.length vc) (.string ⟨#[]⟩) acc (pcB x sc)):=HR2.out.call hbl h1 h2;clear hHeld h1 h2;have hHeld:True/\_:=⟨trivial,yb HR3.out.b3 0⟩;refine hK.out _ _ ⟨trivial,fun _=>hHeld.2⟩ ?_;clear hK K;try simp only [Act.put,q1,q2,q3]
      refine tB (i:=9) (oi:=⟨some 27,.build 251 #[(0,(.tmp 22)),(1,(.tmp 26))],_,_,_,_⟩) (v:=?v_ag) ?hy_ag (by assumption) ?rest_ag
      case hy_ag=>(intro w hSw;(try dsimp only at hSw);go_simp;try (with_reducible rfl))
      try simp only [Act.put,q1,q2,q3]
      refine yF (i:=10) (o:=⟨some 28,.buildSlice 87 1 #[(0,(.tmp 27))],_,_,_,_⟩) (by kernel_rfl) rfl (fun K hK=>?_);go_simp;obtain ⟨Y,hY⟩:∃ Y,u3.alloc (.cells #[.string (yd x),.int .i64 (litP (ye (pcA x sc)).1).1] 251)=Y:=⟨_,rfl⟩;have HSc2:Hid (xw Y (.slice (some ⟨u3.heap.size,0,none⟩) 1 1) 1 2 [.string (yd x),.int .i64 (litP (ye (pcA x sc)).1).1]):=y6r (hAe hY) rfl rfl;have HY:Hid (u3.alloc (.cells #[.string (yd x),.int .i64 (litP (ye (pcA x sc)).1).1] 251)=Y):=hY;have HBY:Hid (Below u3.heap.size u3 Y):=by show Below _ _ _;rw [<-hY];exact (Below.refl _ _).alloc (Nat.le_refl _) _
      rw [hY];clear hY hHeld;have hg3:Y.heap[X1.heap.size]?=some (.cells #[.slice va acc.length vc,.string ⟨#[]⟩] 89 (0,0)):=(HBY.out.block _ (hLt HR3.out.b3)).trans HR3.out.b3;have hHeld:True/\_:=⟨trivial,yb hg3 0⟩;clear hg3;refine hK.out _ _ ⟨trivial,fun _=>hHeld.2⟩ ?_;clear hK K;try simp only [Act.put,q1,q2,q3]
      refine yF (i:=11) (o:=⟨some 29,.call { callee:=.builtin .append,args:=#[(.tmp 19),(.tmp 28)],argTypes:=#[87,87] },_,_,_,_⟩) (by kernel_rfl) rfl (fun K hK=>?_);have hown:Y.ownsRow (w.heap.size+2) 251 2 (.slice va acc.length vc) acc.length (pcsC acc):=Yn HR3.out.own HBY.out;refine y6q Y (.tmp 19) (.tmp 28) 87 251 (.agg #[.string ⟨#[]⟩,.int .i64 0]) 2 24 rfl un39 y5Q rfl (by decide) (w.heap.size+2) _ _ acc.length 1 (pcsC acc) _ (by rfl) (by rfl) hown HSc2.out (by unfold maxLen;omega) (by omega) (HSz.out Y (Nat.le_trans (HSz2.out _ HR3.out) HBY.out.size)) (by rfl) ?_;intro v6 w6 o1 o2 o3;have hE:=HR3.out.app (o:=(x,(litP (ye (pcA x sc)).1).1)) hB hbl o1 (by show (u3.alloc (.cells #[.string (yd x),.int .i64 (litP (ye (pcA x sc)).1).1] 251)).grownBy w6 _;rw [HY.out];exact o2)
      obtain ⟨a6,c6,rfl⟩:=yv o1;have HR6:Hid (RwAt B b w.heap.size X1.heap.size w (w6.setCell ⟨X1.heap.size,0,none⟩ (.slice a6 (acc.length+1) c6)) (.slice a6 (acc.length+1) c6) (.string ⟨#[]⟩) (acc++[(x,(litP (ye (pcA x sc)).1).1)]) (pcB x sc)):=hE.2;have c0:w6.cell? ⟨X1.heap.size,0,none⟩=some (.slice va acc.length vc):=yb hE.1 0;have cz:∀ i,w6.frozen? ⟨X1.heap.size,i,none⟩=false:=yl hE.1;clear hE o1 o2 o3 hown hHeld;refine hK.out _ _ ⟨trivial,fun _=>c0⟩ ?_;have hHeld:True/\_:=⟨trivial,c0⟩;clear hK K;try simp only [Act.put,q1,q2,q3]
      refine tB (i:=12) (oi:=⟨some 30,.fieldAddr 89 (.tmp 3) 0,_,_,_,_⟩) (v:=?v_ah) ?hy_ah (by assumption) ?rest_ah
      case hy_ah=>(intro w hSw;(try dsimp only at hSw);go_simp;try (with_reducible rfl))
      try simp only [Act.put,q1,q2,q3]
      refine yX (i:=13) (o:=⟨none,.store 87 (.tmp 30) (.tmp 29),_,_,_,_⟩) (by kernel_rfl) rfl (by kernel_rfl) (fun K hK=>?_);go_simp;refine hK.out _ _ ?sh_ai ?rest_ai
      case sh_ai=>((try dsimp only);try exact trivial)
      clear hK K;try simp only [Act.put,q1,q2,q3]
      refine zu (by kernel_rfl) ?_ _;obtain ⟨Z,hZ⟩:∃ Z,w6.setCell ⟨X1.heap.size,0,none⟩ (.slice a6 (acc.length+1) c6)=Z:=⟨_,rfl⟩;rw [hZ] at HR6;rw [hZ];clear hZ c0 cz hHeld HSc2 HY HBY HR1 HR2 HR3 HRU;go_wp2_with fail
      refine cA (HNx.out Z _ HR6.out.ln) ?_;rintro e w7 ⟨rfl,h1,h2⟩;have HR7:Hid (RwAt B b w.heap.size X1.heap.size w w7 (.slice a6 (acc.length+1) c6) (.string ⟨#[]⟩) (acc++[(x,(litP (ye (pcA x sc)).1).1)]) (ye (pcB x sc)).2):=HR6.out.call hbl h1 h2;clear h1 h2;go_wp2_with fail
      go_roundg g'
      case measure=>omega
      case rel=>exact ⟨_,_,_,_,rfl,HMn.out,HR7.out⟩
end Go.Proofs.YtjgghimjnbjlbaaGreatDoor

namespace Go.Proofs.YtjgghimjnbjlbaaGreatDoor
open Go.RowKit
set_option maxRecDepth 10000
set_option maxHeartbeats 8000000
theorem zj {w:World} {q C i:Nat} {t:TypeId} {size n:Nat} {v u:Value} {xs:List Value} (h:w.ownsRow C t size v n xs) (hq:q<C):(w.setCell ⟨q,i,none⟩ u).ownsRow C t size v n xs:=
  yN h fun g hg=>heap_setCell_other _ _ _ _ (by have:=(h.lt g hg).1;show g≠q;omega)
def Yb (B0:Nat) (cs:Array Value) (r:List PcL × List UInt8) (ids:List (List UInt8)) (cs':Array Value) (w':World):Prop:=∃ vr vi,cs'=((cs.setIfInBounds 3 vr).setIfInBounds 4 (.string (yd r.2))).setIfInBounds 6 vi/\w'.ownsRow B0 251 2 vr r.1.length (pcsC r.1)/\w'.ownsRow B0 9 1 vi ids.length (ids.map fun x=>.string (yd x))
def idsP (s:Ls):List (List UInt8) × Ls:=zl (fun x s=>yr x 1 s) s
theorem y6d {B b q:Nat} {s:Ls} {cs:Array Value} {w w2:World} {r:List PcL × List UInt8} {ids:List (List UInt8)} {vr vi:Value} (hst:StAt w2 q cs) (hl:LnAt w2 b s) (hs:SStp B (fun k=>k=b) w w2) (hBq:B<=q) (hbq:q≠b) (hq:q<w.heap.size) (h1:w2.ownsRow w.heap.size 251 2 vr r.1.length (pcsC r.1)) (h2:w2.ownsRow w.heap.size 9 1 vi ids.length (ids.map fun x=>.string (yd x))):RO B b q w (Yb w.heap.size cs r ids) s (.returned (.tuple #[])) (((w2.setCell ⟨q,3,none⟩ vr).setCell ⟨q,4,none⟩ (.string (yd r.2))).setCell ⟨q,6,none⟩ vi):=by
  obtain ⟨a1,a2,a3⟩:=zd hst hl (hs.more fun _ hk=>.inl hk) hBq hbq 3 vr;obtain ⟨b1,b2,b3⟩:=zd a1 a2 a3 hBq hbq 4 (.string (yd r.2));obtain ⟨c1,c2,c3⟩:=zd b1 b2 b3 hBq hbq 6 vi;exact ⟨rfl,_,c1,⟨vr,vi,rfl,zj (zj (zj h1 hq) hq) hq,zj (zj (zj h2 hq) hq) hq⟩,c2,c3⟩
theorem y6e {B b q:Nat} {s:Ls} {cs:Array Value} (w:World) (h:LnAt w b s) (hst:StAt w q cs) (hB:B<=b) (hBq:B<=q) (hbq:q≠b):Calls Tryz.prog 138 #[.pointer (some ⟨b,0,none⟩),.pointer (some ⟨q,0,none⟩)] w (RO B b q w (Yb w.heap.size cs (rowP s).1 (idsP (rowP s).2).1) (idsP (rowP s).2).2):=by
  have hql:=hst.lt;have hbl:=h.lt;have HN:Hid (Calls Tryz.prog 187 #[.pointer (some ⟨b,0,none⟩)] w (Z4 B b w (rowP s))):=y03 w h hB;have HI:Hid (∀ w' s',LnAt w' b s'->Calls Tryz.prog 188 #[.pointer (some ⟨b,0,none⟩),.func (.func 189) #[.pointer (some ⟨b,0,none⟩)] #[]] w' (LOr B b 9 ((idsP s').1.map fun x=>.string (yd x)) (idsP s').2 w')):=fun w' s' h'=>KL w' h' hB
  have HS:Hid (StAt w q cs):=hst;obtain ⟨r,hr⟩:∃ r,rowP s=r:=⟨_,rfl⟩;rw [hr] at HN ⊢;clear h hst hr;go_enter Tryz.func138,Tryz.ntmps138;go_wp2_with fail
  refine cA HN.out ?_;rintro e w1 ⟨vr,rfl,h0,h1,h2⟩;have H1:Hid (w1.ownsRow w.heap.size 251 2 vr r.1.1.length (pcsC r.1.1)/\LnAt w1 b r.2/\SStp B (fun k=>k=b) w w1):=⟨h0,h1,h2⟩;obtain ⟨va,vc,hvs⟩:=yv h0;subst hvs;clear h0 h1 h2;go_wp2_with fail
  refine cA (HI.out w1 _ H1.out.2.1) ?_;rintro e w2 ⟨vi,rfl,h0,h1,h2⟩;rw [List.length_map] at h0;have hst2:=(HS.out.stp H1.out.2.2 hbq).stp h2 hbq;have HE:=y6d (r:=r.1) hst2 h1 (H1.out.2.2.trans h2) hBq hbq hql (zD H1.out.1 h2 hbl) (yM h0 H1.out.2.2.off.size);obtain ⟨ua,uc,hus⟩:=yv h0;subst hus;obtain ⟨x3,c3⟩:=hst2.cell 3 (by omega);obtain ⟨x4,c4⟩:=hst2.cell 4 (by omega);obtain ⟨x6,c6⟩:=hst2.cell 6 (by omega);have z:=yl hst2.o;have HE2:Hid (RO B b q w (Yb w.heap.size cs r.1 (idsP r.2).1) (idsP r.2).2 (.returned (.tuple #[])) (((w2.setCell ⟨q,3,none⟩ (.slice va r.1.1.length vc)).setCell ⟨q,4,none⟩ (.string (yd r.1.2))).setCell ⟨q,6,none⟩ (.slice ua (idsP r.2).1.length uc))):=HE;clear h0 h1 h2 hst2 HE;go_wp2_with fail
  go_end0;exact HE2.out
end Go.Proofs.YtjgghimjnbjlbaaGreatDoor

namespace Go.Proofs.YtjgghimjnbjlbaaGreatDoor
open Go.RowKit
set_option maxRecDepth 10000
set_option maxHeartbeats 8000000
theorem y6f {B b q:Nat} {s:Ls} {cs:Array Value} {w w2:World} {r:List PcL × List UInt8} {ids:List (List UInt8)} {vr vi:Value} (hst:StAt w2 q cs) (hl:LnAt w2 b s) (hs:SStp B (fun k=>k=b) w w2) (hBq:B<=q) (hbq:q≠b) (hq:q<w.heap.size) (h1:w2.ownsRow w.heap.size 251 2 vr r.1.length (pcsC r.1)) (h2:w2.ownsRow w.heap.size 9 1 vi ids.length (ids.map fun x=>.string (yd x))):RO B b q w (Yb w.heap.size cs r ids) s (.returned (.tuple #[])) (((w2.setCell ⟨q,6,none⟩ vi).setCell ⟨q,3,none⟩ vr).setCell ⟨q,4,none⟩ (.string (yd r.2))):=by
  obtain ⟨a1,a2,a3⟩:=zd hst hl (hs.more fun _ hk=>.inl hk) hBq hbq 6 vi;obtain ⟨b1,b2,b3⟩:=zd a1 a2 a3 hBq hbq 3 vr;obtain ⟨c1,c2,c3⟩:=zd b1 b2 b3 hBq hbq 4 (.string (yd r.2));refine ⟨rfl,_,c1,⟨vr,vi,?_,zj (zj (zj h1 hq) hq) hq,zj (zj (zj h2 hq) hq) hq⟩,c2,c3⟩;rw [Array.setIfInBounds_comm (i:=6) (j:=3) vi vr (by decide),Array.setIfInBounds_comm (i:=6) (j:=4) vi _ (by decide)]
def eqY (s:Ls):List UInt8:=(ye s).1
def eqS (s:Ls):Ls:=yr (ye s).1 1 (ye s).2
theorem y6g (s:Ls):(eqY s).length<=s.1.length:=zw s
theorem y6h {B b q:Nat} {s:Ls} {cs:Array Value} (w:World) (h:LnAt w b s) (hst:StAt w q cs) (hB:B<=b) (hBq:B<=q) (hbq:q≠b):Calls Tryz.prog 140 #[.pointer (some ⟨b,0,none⟩),.pointer (some ⟨q,0,none⟩)] w (RO B b q w (Yb w.heap.size cs (rowP (eqS s)).1 [eqY s]) (rowP (eqS s)).2):=by
  have hn:=h.n;have hql:=hst.lt;have hbl:=h.lt;have hBw:B<=w.heap.size:=by omega
  have HN:Hid (∀ w' s',LnAt w' b s'->Calls Tryz.prog 127 #[.pointer (some ⟨b,0,none⟩)] w' (LO B b (.string (yd (ye s').1)) (ye s').2 w')):=fun w' s' h'=>zQ w' h' hB
  have HS:Hid (StAt w q cs):=hst;have HL:Hid (LnAt w b s):=h;have HI:Hid (∀ w' s',LnAt w' b s'->Calls Tryz.prog 189 #[.pointer (some ⟨b,0,none⟩),.string (yd (ye s).1)] w' (LO B b (.string (yd (ye s).1)) (yr (ye s).1 1 s') w')):=fun w' s' h'=>Yo _ w' h' hB (Nat.le_trans (y6g s) hn)
  have HR:Hid (∀ w' s',LnAt w' b s'->Calls Tryz.prog 187 #[.pointer (some ⟨b,0,none⟩)] w' (Z4 B b w' (rowP s'))):=fun w' s' h'=>y03 w' h' hB
  clear h hst;go_enter Tryz.func140,Tryz.ntmps140;go_wp2_with fail
  refine cA (HN.out w _ HL.out) ?_;rintro e w1 ⟨rfl,h1,h2⟩;have H1:Hid (LnAt w1 b (ye s).2/\SStp B (fun k=>k=b) w w1):=⟨h1,h2⟩;clear h1 h2;go_wp2_with fail
  refine cA (HI.out w1 _ H1.out.1) ?_;rintro e w2 ⟨rfl,h1,h2⟩;have H2:Hid (LnAt w2 b (eqS s)/\SStp B (fun k=>k=b) w w2):=⟨h1,H1.out.2.trans h2⟩;clear h1 h2;go_wp2_with fail
  obtain ⟨Y,hY⟩:∃ Y,w2.alloc (.cells #[.string (yd (ye s).1)] 9)=Y:=⟨_,rfl⟩;have hbY:Below w2.heap.size w2 Y:=bAe hY;have HY:Hid (Y.ownsRow w.heap.size 9 1 (.slice (some ⟨w2.heap.size,0,none⟩) 1 1) 1 [.string (yd (ye s).1)]/\LnAt Y b (eqS s)/\SStp B (fun k=>k=b) w Y):=⟨by rw [<-hY];exact World.ownsRow_lit w2 #[.string (yd (ye s).1)] 1 H2.out.2.off.size (by decide) rfl,H2.out.1.below hbY,H2.out.2.next hbY (Nat.le_trans hBw H2.out.2.off.size)⟩;clear hbY;try rw [hY]
  clear hY;go_wp2_with fail
  refine cA (HR.out Y _ HY.out.2.1) ?_;rintro e w3 ⟨vr,rfl,h0,h1,h2⟩;have hst2:=(HS.out.stp HY.out.2.2 hbq).stp h2 hbq;have HE:=y6f (r:=(rowP (eqS s)).1) (ids:=[eqY s]) hst2 h1 (HY.out.2.2.trans h2) hBq hbq hql (yM h0 HY.out.2.2.off.size) (zD HY.out.1 h2 hbl);obtain ⟨va,vc,hvs⟩:=yv h0;subst hvs;obtain ⟨x3,c3⟩:=hst2.cell 3 (by omega);obtain ⟨x4,c4⟩:=hst2.cell 4 (by omega);obtain ⟨x6,c6⟩:=hst2.cell 6 (by omega);have z:=yl hst2.o;have HE2:Hid (RO B b q w (Yb w.heap.size cs (rowP (eqS s)).1 [eqY s]) (rowP (eqS s)).2 (.returned (.tuple #[])) (((w3.setCell ⟨q,6,none⟩ (.slice (some ⟨w2.heap.size,0,none⟩) 1 1)).setCell ⟨q,3,none⟩ (.slice va (rowP (eqS s)).1.1.length vc)).setCell ⟨q,4,none⟩ (.string (yd (rowP (eqS s)).1.2)))):=by
    exact HE
  clear h0 h1 h2 hst2 HE;go_wp2_with fail
  go_end0;exact HE2.out
end Go.Proofs.YtjgghimjnbjlbaaGreatDoor

namespace Go.Proofs.YtjgghimjnbjlbaaGreatDoor
open Go.RowKit
set_option maxRecDepth 10000
set_option maxHeartbeats 8000000
def IdAt (B0:Nat) (cs:Array Value) (y:List UInt8) (cs':Array Value) (w':World):Prop:=∃ vi,cs'=cs.setIfInBounds 6 vi/\w'.ownsRow B0 9 1 vi 1 [.string (yd y)]
theorem y6i {B b q:Nat} {s:Ls} {cs:Array Value} (w:World) (h:LnAt w b s) (hst:StAt w q cs) (hB:B<=b) (hbq:q≠b) (hk:(yg s).1.2=false):Calls Tryz.prog 220 #[.pointer (some ⟨b,0,none⟩),.pointer (some ⟨q,0,none⟩)] w (RO B b q w (fun cs' _=>cs'=cs) (yg s).2):=by
  have HT:Hid (Calls Tryz.prog 149 #[.pointer (some ⟨b,0,none⟩)] w (LO B b (.tuple #[.string (yd (yg s).1.1),.bool false]) (yg s).2 w)):=by have:=xY w h hB;rw [hk] at this;exact this
  have HS:Hid (StAt w q cs):=hst;clear h hst hk;go_enter Tryz.func220,Tryz.ntmps220;go_wp2_with fail
  refine cA HT.out ?_;rintro e w1 ⟨rfl,h1,h2⟩;have HE:Hid (RO B b q w (fun cs' _=>cs'=cs) (yg s).2 (.returned (.tuple #[])) w1):=⟨rfl,cs,HS.out.stp h2 hbq,rfl,h1,h2.more fun _ hk=>.inl hk⟩;clear h1 h2;go_wp2_with fail
  go_end0;exact HE.out
theorem y6j {B b q:Nat} {s:Ls} {cs:Array Value} (w:World) (h:LnAt w b s) (hst:StAt w q cs) (hB:B<=b) (hBq:B<=q) (hbq:q≠b) (hk:(yg s).1.2=true):Calls Tryz.prog 220 #[.pointer (some ⟨b,0,none⟩),.pointer (some ⟨q,0,none⟩)] w (RO B b q w (IdAt w.heap.size cs (zf (yg s).1.1 (yg s).2).1) (zf (yg s).1.1 (yg s).2).2):=by
  have hql:=hst.lt;have HT:Hid (Calls Tryz.prog 149 #[.pointer (some ⟨b,0,none⟩)] w (LO B b (.tuple #[.string (yd (yg s).1.1),.bool true]) (yg s).2 w)):=by have:=xY w h hB;rw [hk] at this;exact this
  have HN:Hid (∀ w' s',LnAt w' b s'->Calls Tryz.prog 239 #[.pointer (some ⟨b,0,none⟩),.string (yd (yg s).1.1)] w' (LOr B b 9 [.string (yd (zf (yg s).1.1 s').1)] (zf (yg s).1.1 s').2 w')):=fun w' s' h'=>ZR _ w' h' hB
  have HS:Hid (StAt w q cs):=hst;clear h hst hk;go_enter Tryz.func220,Tryz.ntmps220;go_wp2_with fail
  refine cA HT.out ?_;rintro e w1 ⟨rfl,h1,h2⟩;have H1:Hid (LnAt w1 b (yg s).2/\SStp B (fun k=>k=b) w w1):=⟨h1,h2⟩;clear h1 h2;go_wp2_with fail
  refine cA (HN.out w1 _ H1.out.1) ?_;rintro e w2 ⟨v,rfl,h0,h1,h2⟩;have hS2:=HS.out.stp (H1.out.2.trans h2) hbq;obtain ⟨u,c6⟩:=hS2.cell 6 (by omega);have z6:=yl hS2.o 6;have h0':=yM h0 H1.out.2.off.size;have HE:Hid (RO B b q w (IdAt w.heap.size cs (zf (yg s).1.1 (yg s).2).1) (zf (yg s).1.1 (yg s).2).2 (.returned (.tuple #[])) (w2.setCell ⟨q,6,none⟩ v)):=by
    obtain ⟨a1,a2,a3⟩:=zd hS2 h1 ((H1.out.2.trans h2).more fun _ hk=>.inl hk) hBq hbq 6 v;exact ⟨rfl,_,a1,⟨v,rfl,zj h0' hql⟩,a2,a3⟩
  obtain ⟨va,vc,hvs⟩:=yv h0;subst hvs;clear hS2 h0 h0' h1 h2;go_wp2_with fail
  go_end0;exact HE.out
def allY (s:Ls):List UInt8:=(ye s).1
def allS (s:Ls):Ls:=yr (ye s).1 0 (ye s).2
def allR (s:Ls):List UInt8 × Ls:=zf (ye (allS s)).1 (ye (allS s)).2
theorem y6k {B b q:Nat} {s:Ls} {cs:Array Value} {w w2:World} {y z:List UInt8} {vi:Value} (hst:StAt w2 q cs) (hl:LnAt w2 b s) (hs:SStp B (fun k=>k=b) w w2) (hBq:B<=q) (hbq:q≠b) (hq:q<w.heap.size) (h2:w2.ownsRow w.heap.size 9 1 vi 1 [.string (yd z)]):RO B b q w (IdAt w.heap.size (cs.setIfInBounds 9 (.string (yd y))) z) s (.returned (.tuple #[])) ((w2.setCell ⟨q,9,none⟩ (.string (yd y))).setCell ⟨q,6,none⟩ vi):=by
  obtain ⟨a1,a2,a3⟩:=zd hst hl (hs.more fun _ hk=>.inl hk) hBq hbq 9 (.string (yd y));obtain ⟨b1,b2,b3⟩:=zd a1 a2 a3 hBq hbq 6 vi;exact ⟨rfl,_,b1,⟨vi,rfl,zj (zj h2 hq) hq⟩,b2,b3⟩
theorem y6l {B b q:Nat} {s:Ls} {cs:Array Value} (w:World) (h:LnAt w b s) (hst:StAt w q cs) (hB:B<=b) (hBq:B<=q) (hbq:q≠b):Calls Tryz.prog 224 #[.pointer (some ⟨b,0,none⟩),.pointer (some ⟨q,0,none⟩)] w (RO B b q w (IdAt w.heap.size (cs.setIfInBounds 9 (.string (yd (allY s)))) (allR s).1) (allR s).2):=by
  have hn:=h.n;have hql:=hst.lt;have HN:Hid (∀ w' s',LnAt w' b s'->Calls Tryz.prog 127 #[.pointer (some ⟨b,0,none⟩)] w' (LO B b (.string (yd (ye s').1)) (ye s').2 w')):=fun w' s' h'=>zQ w' h' hB
  have HC:Hid (∀ w' s',LnAt w' b s'->Calls Tryz.prog 183 #[.pointer (some ⟨b,0,none⟩),.string (yd (ye s).1)] w' (LO B b (.string (yd (ye s).1)) (yr (ye s).1 0 s') w')):=fun w' s' h'=>KU _ w' h' hB (Nat.le_trans (zw s) hn)
  have HLn:Hid (∀ w' s' x,LnAt w' b s'->Calls Tryz.prog 239 #[.pointer (some ⟨b,0,none⟩),.string (yd x)] w' (LOr B b 9 [.string (yd (zf x s').1)] (zf x s').2 w')):=fun w' s' x h'=>ZR x w' h' hB
  have HS:Hid (StAt w q cs):=hst;have HL:Hid (LnAt w b s):=h;clear h hst;go_enter Tryz.func224,Tryz.ntmps224;go_wp2_with fail
  refine cA (HN.out w _ HL.out) ?_;rintro e w1 ⟨rfl,h1,h2⟩;have H1:Hid (LnAt w1 b (ye s).2/\SStp B (fun k=>k=b) w w1):=⟨h1,h2⟩;clear h1 h2;go_wp2_with fail
  refine cA (HC.out w1 _ H1.out.1) ?_;rintro e w2 ⟨rfl,h1,h2⟩;have H2:Hid (LnAt w2 b (allS s)/\SStp B (fun k=>k=b) w w2):=⟨h1,H1.out.2.trans h2⟩;clear h1 h2;go_wp2_with fail
  refine cA (HN.out w2 _ H2.out.1) ?_;rintro e w3 ⟨rfl,h1,h2⟩;have H3:Hid (LnAt w3 b (ye (allS s)).2/\SStp B (fun k=>k=b) w w3):=⟨h1,H2.out.2.trans h2⟩;clear h1 h2;go_wp2_with fail
  refine cA (HLn.out w3 _ (ye (allS s)).1 H3.out.1) ?_;rintro e w4 ⟨v,rfl,h0,h1,h2⟩;have hS2:=HS.out.stp (H3.out.2.trans h2) hbq;obtain ⟨u6,c6⟩:=hS2.cell 6 (by omega);obtain ⟨u9,c9⟩:=hS2.cell 9 (by omega);have z6:=yl hS2.o;have HE:Hid (RO B b q w (IdAt w.heap.size (cs.setIfInBounds 9 (.string (yd (allY s)))) (allR s).1) (allR s).2 (.returned (.tuple #[])) ((w4.setCell ⟨q,9,none⟩ (.string (yd (ye s).1))).setCell ⟨q,6,none⟩ v)):=y6k (y:=allY s) hS2 h1 (H3.out.2.trans h2) hBq hbq hql (yM h0 H3.out.2.off.size);obtain ⟨va,vc,hvs⟩:=yv h0;subst hvs;clear hS2 h0 h1 h2;go_wp2_with fail
  go_end0;exact HE.out
end Go.Proofs.YtjgghimjnbjlbaaGreatDoor

namespace Go.Proofs.YtjgghimjnbjlbaaGreatDoor
open Go.RowKit
set_option maxRecDepth 10000
set_option maxHeartbeats 8000000
def bdA (s:Ls):Ls:=yr (ye s).1 (-1) (ye s).2
def bdX (s:Ls):List UInt8:=(ye (bdA s)).1
def bdB (s:Ls):Ls:=(ye (bdA s)).2
def bdI (s:Ls):List UInt8 × Ls:=zf (bdX s) (bdB s)
def bdS (s:Ls):Ls:=yr (ye (bdI s).2).1 (-1) (ye (bdI s).2).2
theorem y04 (s:Ls):(bdA s).1.length<=s.1.length:=by unfold bdA;rw [xx];exact zR s
theorem y6m (x:List UInt8) (s:Ls):(zf x s).2.1.length<=s.1.length:=by
  unfold zf;simp only [];rw [xx];refine Nat.le_trans (zR _) ?_;rw [KX];exact Nat.le_refl _
theorem y6n (s:Ls):(bdI s).2.1.length<=s.1.length:=by
  unfold bdI;exact Nat.le_trans (y6m _ _) (Nat.le_trans (zR _) (y04 s))
theorem y6o {B b q:Nat} {s:Ls} {cs:Array Value} (w:World) (h:LnAt w b s) (hst:StAt w q cs) (hB:B<=b) (hBq:B<=q) (hbq:q≠b) (hx:bdX s≠[58]):Calls Tryz.prog 222 #[.pointer (some ⟨b,0,none⟩),.pointer (some ⟨q,0,none⟩)] w (RO B b q w (fun cs' _=>cs'=(cs.setIfInBounds 8 (.string (yd (ye s).1))).setIfInBounds 9 (.string (yd (bdX s)))) (yr (bdX s) (-1) (bdB s))):=by
  have hn:=h.n;have HN:Hid (∀ w' s',LnAt w' b s'->Calls Tryz.prog 127 #[.pointer (some ⟨b,0,none⟩)] w' (LO B b (.string (yd (ye s').1)) (ye s').2 w')):=fun w' s' h'=>zQ w' h' hB
  have HC:Hid (∀ w' s' x,LnAt w' b s'->x.length<=9000000->Calls Tryz.prog 215 #[.pointer (some ⟨b,0,none⟩),.string (yd x)] w' (LO B b (.string (yd x)) (yr x (-1) s') w')):=fun w' s' x h' hx=>yn x w' h' hB hx
  have HS:Hid (StAt w q cs):=hst;have HL:Hid (LnAt w b s):=h;have hq:=xB (ye (bdA s)).1 [58];rw [decide_eq_false (show ¬ (ye (bdA s)).1=[58] from hx)] at hq;have hyl:(ye s).1.length<=9000000:=Nat.le_trans (zw s) hn;have hxl:(ye (bdA s)).1.length<=9000000:=Nat.le_trans (zw _) (Nat.le_trans (y04 s) hn);clear h hst hx;go_enter Tryz.func222,Tryz.ntmps222;go_wp2_with fail
  refine cA (HN.out w _ HL.out) ?_;rintro e w1 ⟨rfl,h1,h2⟩;have H1:Hid (LnAt w1 b (ye s).2/\SStp B (fun k=>k=b) w w1):=⟨h1,h2⟩;clear h1 h2;go_wp2_with fail
  refine cA (HC.out w1 _ _ H1.out.1 hyl) ?_;rintro e w2 ⟨rfl,h1,h2⟩;have hS2:=HS.out.stp (H1.out.2.trans h2) hbq;obtain ⟨u8,c8⟩:=hS2.cell 8 (by omega);have z8:=yl hS2.o 8;have H2:Hid (StAt (w2.setCell ⟨q,8,none⟩ (.string (yd (ye s).1))) q (cs.setIfInBounds 8 (.string (yd (ye s).1)))/\LnAt (w2.setCell ⟨q,8,none⟩ (.string (yd (ye s).1))) b (bdA s)/\SStp B (fun k=>k=b∨k=q) w (w2.setCell ⟨q,8,none⟩ (.string (yd (ye s).1)))):=zd hS2 h1 ((H1.out.2.trans h2).more fun _ hk=>.inl hk) hBq hbq 8 _;clear h1 h2 hS2;go_wp2_with fail
  refine cA (HN.out _ _ H2.out.2.1) ?_;rintro e w3 ⟨rfl,h1,h2⟩;have H3:Hid (StAt w3 q (cs.setIfInBounds 8 (.string (yd (ye s).1)))/\LnAt w3 b (bdB s)/\SStp B (fun k=>k=b∨k=q) w w3):=⟨H2.out.1.stp h2 hbq,h1,H2.out.2.2.trans (h2.more fun _ hk=>.inl hk)⟩;clear h1 h2 c8 z8 H2;go_wp2_with fail
  refine cA (HC.out w3 _ _ H3.out.2.1 hxl) ?_;rintro e w4 ⟨rfl,h1,h2⟩;have hS4:=H3.out.1.stp h2 hbq;obtain ⟨u9,c9⟩:=hS4.cell 9 (by omega);have z9:=yl hS4.o 9;have HE:Hid (RO B b q w (fun cs' _=>cs'=(cs.setIfInBounds 8 (.string (yd (ye s).1))).setIfInBounds 9 (.string (yd (bdX s)))) (yr (bdX s) (-1) (bdB s)) (.returned (.tuple #[])) (w4.setCell ⟨q,9,none⟩ (.string (yd (ye (bdA s)).1)))):=by
    obtain ⟨a1,a2,a3⟩:=zd hS4 h1 (H3.out.2.2.trans (h2.more fun _ hk=>.inl hk)) hBq hbq 9 (.string (yd (ye (bdA s)).1));exact ⟨rfl,_,a1,rfl,a2,a3⟩
  clear hS4 h1 h2;go_wp2_with fail
  go_end0;exact HE.out
theorem y6p {B b q:Nat} {s:Ls} {cs:Array Value} (w:World) (h:LnAt w b s) (hst:StAt w q cs) (hB:B<=b) (hBq:B<=q) (hbq:q≠b) (hx:bdX s=[58]):Calls Tryz.prog 222 #[.pointer (some ⟨b,0,none⟩),.pointer (some ⟨q,0,none⟩)] w (RO B b q w (fun cs' w'=>∃ vi,cs'=((cs.setIfInBounds 8 (.string (yd (ye s).1))).setIfInBounds 6 vi).setIfInBounds 9 (.string (yd (ye (bdI s).2).1))/\w'.ownsRow w.heap.size 9 1 vi 1 [.string (yd (bdI s).1)]) (bdS s)):=by
  have hn:=h.n;have hql:=hst.lt;have hbl:=h.lt;have HN:Hid (∀ w' s',LnAt w' b s'->Calls Tryz.prog 127 #[.pointer (some ⟨b,0,none⟩)] w' (LO B b (.string (yd (ye s').1)) (ye s').2 w')):=fun w' s' h'=>zQ w' h' hB
  have HC:Hid (∀ w' s' x,LnAt w' b s'->x.length<=9000000->Calls Tryz.prog 215 #[.pointer (some ⟨b,0,none⟩),.string (yd x)] w' (LO B b (.string (yd x)) (yr x (-1) s') w')):=fun w' s' x h' hx=>yn x w' h' hB hx
  have HLn:Hid (∀ w' s' x,LnAt w' b s'->Calls Tryz.prog 239 #[.pointer (some ⟨b,0,none⟩),.string (yd x)] w' (LOr B b 9 [.string (yd (zf x s').1)] (zf x s').2 w')):=fun w' s' x h'=>ZR x w' h' hB
  have HS:Hid (StAt w q cs):=hst;have HL:Hid (LnAt w b s):=h;have hq:=xB (ye (bdA s)).1 [58];rw [decide_eq_true (show (ye (bdA s)).1=[58] from hx)] at hq;have hyl:(ye s).1.length<=9000000:=Nat.le_trans (zw s) hn;have hxl:(ye (bdI s).2).1.length<=9000000:=Nat.le_trans (zw _) (Nat.le_trans (y6n s) hn);clear h hst hx;go_enter Tryz.func222,Tryz.ntmps222;go_wp2_with fail
  refine cA (HN.out w _ HL.out) ?_;rintro e w1 ⟨rfl,h1,h2⟩;have H1:Hid (LnAt w1 b (ye s).2/\SStp B (fun k=>k=b) w w1):=⟨h1,h2⟩;clear h1 h2;go_wp2_with fail
  refine cA (HC.out w1 _ _ H1.out.1 hyl) ?_;rintro e w2 ⟨rfl,h1,h2⟩;have hS2:=HS.out.stp (H1.out.2.trans h2) hbq;obtain ⟨u8,c8⟩:=hS2.cell 8 (by omega);have z8:=yl hS2.o 8;have H2:Hid (StAt (w2.setCell ⟨q,8,none⟩ (.string (yd (ye s).1))) q (cs.setIfInBounds 8 (.string (yd (ye s).1)))/\LnAt (w2.setCell ⟨q,8,none⟩ (.string (yd (ye s).1))) b (bdA s)/\SStp B (fun k=>k=b∨k=q) w (w2.setCell ⟨q,8,none⟩ (.string (yd (ye s).1)))):=zd hS2 h1 ((H1.out.2.trans h2).more fun _ hk=>.inl hk) hBq hbq 8 _;clear h1 h2 hS2;go_wp2_with fail
  refine cA (HN.out _ _ H2.out.2.1) ?_;rintro e w3 ⟨rfl,h1,h2⟩;have H3:Hid (StAt w3 q (cs.setIfInBounds 8 (.string (yd (ye s).1)))/\LnAt w3 b (bdB s)/\SStp B (fun k=>k=b∨k=q) w w3):=⟨H2.out.1.stp h2 hbq,h1,H2.out.2.2.trans (h2.more fun _ hk=>.inl hk)⟩;clear h1 h2 c8 z8 H2;go_wp2_with fail
  refine cA (HLn.out w3 _ (ye (bdA s)).1 H3.out.2.1) ?_;rintro e w4 ⟨v,rfl,h0,h1,h2⟩;rw [show ∀ u:Value,[u].length=1 from fun _=>rfl] at h0;have hS4:=H3.out.1.stp h2 hbq;obtain ⟨u6,c6⟩:=hS4.cell 6 (by omega);have z6:=yl hS4.o 6;have h0':=yM h0 H3.out.2.2.off.size;have H4:Hid ((StAt (w4.setCell ⟨q,6,none⟩ v) q ((cs.setIfInBounds 8 (.string (yd (ye s).1))).setIfInBounds 6 v)/\LnAt (w4.setCell ⟨q,6,none⟩ v) b (bdI s).2/\SStp B (fun k=>k=b∨k=q) w (w4.setCell ⟨q,6,none⟩ v))/\(w4.setCell ⟨q,6,none⟩ v).ownsRow w.heap.size 9 1 v 1 [.string (yd (bdI s).1)]):=⟨zd hS4 h1 (H3.out.2.2.trans (h2.more fun _ hk=>.inl hk)) hBq hbq 6 v,zj h0' hql⟩;obtain ⟨va,vc,hvs⟩:=yv h0;subst hvs;clear hS4 h0 h0' h1 h2;go_wp2_with fail
  refine cA (HN.out _ _ H4.out.1.2.1) ?_;rintro e w5 ⟨rfl,h1,h2⟩;have H5:Hid ((StAt w5 q _/\LnAt w5 b (ye (bdI s).2).2/\SStp B (fun k=>k=b∨k=q) w w5)/\w5.ownsRow w.heap.size 9 1 _ 1 [.string (yd (bdI s).1)]):=⟨⟨H4.out.1.1.stp h2 hbq,h1,H4.out.1.2.2.trans (h2.more fun _ hk=>.inl hk)⟩,zD H4.out.2 h2 hbl⟩;clear h1 h2 c6 z6 H4;go_wp2_with fail
  refine cA (HC.out w5 _ _ H5.out.1.2.1 hxl) ?_;rintro e w6 ⟨rfl,h1,h2⟩;have hS6:=H5.out.1.1.stp h2 hbq;obtain ⟨u9,c9⟩:=hS6.cell 9 (by omega);have z9:=yl hS6.o 9;have HE:Hid (RO B b q w (fun cs' w'=>∃ vi,cs'=((cs.setIfInBounds 8 (.string (yd (ye s).1))).setIfInBounds 6 vi).setIfInBounds 9 (.string (yd (ye (bdI s).2).1))/\w'.ownsRow w.heap.size 9 1 vi 1 [.string (yd (bdI s).1)]) (bdS s) (.returned (.tuple #[])) (w6.setCell ⟨q,9,none⟩ (.string (yd (ye (bdI s).2).1)))):=by
    obtain ⟨a1,a2,a3⟩:=zd hS6 h1 (H5.out.1.2.2.trans (h2.more fun _ hk=>.inl hk)) hBq hbq 9 (.string (yd (ye (bdI s).2).1));exact ⟨rfl,_,a1,⟨_,rfl,zj (zD H5.out.2 h2 hbl) hql⟩,a2,a3⟩
  clear hS6 h1 h2;go_wp2_with fail
  go_end0;exact HE.out
end Go.Proofs.YtjgghimjnbjlbaaGreatDoor
