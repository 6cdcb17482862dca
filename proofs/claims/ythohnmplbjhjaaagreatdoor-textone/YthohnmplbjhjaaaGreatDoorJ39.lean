/-
  Put together: TrSplit, TrParse, TfMath, TfLaw, TfKnM, TzLoose.
-/
import Derived.Test.YthohnmplbjhjaaaGreatDoorJ38
import Derived.Lib.Split
import Derived.Test.YthohnmplbjhjaaaGreatDoorJ08
namespace Go.Proofs.YthohnmplbjhjaaaGreatDoor
open Go Go.RowKit
theorem Z2:∀ (s cur:List UInt8),∃ h t,yx s []=h :: t/\yx s cur=(cur++h) :: t
  | [],cur=>⟨[],[],rfl,by simp [yx]⟩
  | c :: s, cur => by
    by_cases hc:c=10
    · exact ⟨[],yx s [],by simp [yx,hc],by simp [yx,hc]⟩
    · obtain ⟨h,t,h1,h2⟩:=Z2 s (cur++[c])
      obtain ⟨h',t',h3,h4⟩:=Z2 s [c]
      rw [h1] at h3
      injection h3 with e1 e2
      subst e1 e2
      refine ⟨c :: h,t,?_,?_⟩
      · show (if c=10 then [] :: yx s [] else yx s ([]++[c]))=_
        rw [if_neg hc,List.nil_append,h4]
        rfl
      · show (if c=10 then cur :: yx s [] else yx s (cur++[c]))=_
        rw [if_neg hc,h2,List.append_assoc]
        rfl
theorem Kj (c:UInt8) (s:List UInt8):([10]:List UInt8).isPrefixOf (c :: s)=decide (c=10):=by
 by_cases h:c=10
 ·subst h;simp [List.isPrefixOf]
 ·have h2:((10:UInt8)==c)=false:=by simp;exact fun e=>h e.symm
  simp [List.isPrefixOf,h2,h]
theorem Kk:∀ (s:List UInt8),Lib.index s [10]=-1->yx s []=[s]
  | [],_=>rfl
  | c :: s, h => by
    unfold Lib.index at h
    rw [Kj] at h
    by_cases hc:c=10
    · rw [decide_eq_true hc] at h;simp at h
    · rw [decide_eq_false hc] at h
      have hs:Lib.index s [10]=-1:=by
        have:=Lib.index_ge s [10]
        by_cases he:Lib.index s [10]=-1
        · exact he
        · have he':(Lib.index s [10]==-1)=false:=by simp [he]
          rw [he'] at h
          simp at h
          omega
      have ih:=Kk s hs
      obtain ⟨x,t,h1,h2⟩:=Z2 s [c]
      rw [ih] at h1
      injection h1 with e1 e2
      subst e1 e2
      show (if c=10 then [] :: yx s [] else yx s ([]++[c]))=_
      rw [if_neg hc,List.nil_append,h2]
      rfl
theorem Xl:∀ (s:List UInt8) (i:Nat),Lib.index s [10]=i->yx s []=s.take i :: yx (s.drop (i+1)) []
  | [], i, h => by
    unfold Lib.index at h
    simp at h
  | c :: s, i, h => by
    unfold Lib.index at h
    rw [Kj] at h
    by_cases hc:c=10
    · rw [decide_eq_true hc] at h
      have hi:i=0:=by simp at h;omega
      subst hi
      simp [yx,hc]
    · rw [decide_eq_false hc] at h
      have hg:=Lib.index_ge s [10]
      by_cases he:Lib.index s [10]=-1
      · rw [he] at h;simp at h
      · have he':(Lib.index s [10]==-1)=false:=by simp [he]
        rw [he'] at h
        simp at h
        obtain ⟨j,hj⟩:∃ j:Nat,i=j+1:=⟨i-1,by omega⟩
        subst hj
        have ih:=Xl s j (by omega)
        obtain ⟨x,t,h1,h2⟩:=Z2 s [c]
        rw [ih] at h1
        injection h1 with e1 e2
        subst e1 e2
        show (if c=10 then [] :: yx s [] else yx s ([]++[c]))=_
        rw [if_neg hc,List.nil_append,h2]
        simp
theorem Zq:∀ (k:Nat) (s:List UInt8),Lib.count s [10]=k->Lib.splitK [10] 0 k s=yx s []
  | 0, s, h => by
    have hm:Lib.index s [10]=-1:=by
      have:=Lib.index_ge s [10]
      by_cases he:Lib.index s [10]=-1
      · exact he
      · obtain ⟨i,hi⟩:∃ i:Nat,Lib.index s [10]=i:=⟨(Lib.index s [10]).toNat,by omega⟩
        have:=Lib.count_hit (by decide:([10]:List UInt8)≠[]) hi
        omega
    rw [Kk s hm]
    rfl
  | k + 1, s, h => by
    have hm:Lib.index s [10]≠-1:=fun e=>by have:=Lib.count_miss e;omega
    have hg:=Lib.index_ge s [10]
    obtain ⟨i,hi⟩:∃ i:Nat,Lib.index s [10]=i:=⟨(Lib.index s [10]).toNat,by omega⟩
    have hc:=Lib.count_hit (by decide:([10]:List UInt8)≠[]) hi
    have hl:([10]:List UInt8).length=1:=rfl
    rw [hl] at hc
    have he:(Lib.index s [10]==-1)=false:=by simp [hm]
    unfold Lib.splitK
    rw [he,Xl s i hi,hi,hl]
    have:=Zq k (s.drop (i+1)) (by omega)
    simp only [Bool.false_eq_true,if_false,Int.toNat_natCast,Nat.add_zero]
    rw [this]
theorem y4t (s:List UInt8):∀ cur,(yx s cur).length=Lib.count s [10]+1:=by
  intro cur
  have h:=Zq _ s rfl
  obtain ⟨x,t,h1,h2⟩:=Z2 s cur
  have hk:∀ (k:Nat) (s:List UInt8),Lib.count s [10]=k->(yx s []).length=k+1:=by
    intro k
    induction k with
    | zero =>
      intro s hs
      rw [<-Zq 0 s hs]
      rfl
    | succ k ih =>
      intro s hs
      have hm:Lib.index s [10]≠-1:=fun e=>by have:=Lib.count_miss e;omega
      have hg:=Lib.index_ge s [10]
      obtain ⟨i,hi⟩:∃ i:Nat,Lib.index s [10]=i:=⟨(Lib.index s [10]).toNat,by omega⟩
      have hc:=Lib.count_hit (by decide:([10]:List UInt8)≠[]) hi
      have hl:([10]:List UInt8).length=1:=rfl
      rw [hl] at hc
      rw [Xl s i hi,List.length_cons,ih (s.drop (i+1)) (by omega)]
  have:=hk _ s rfl
  rw [h1] at this
  rw [h2]
  simpa using this
theorem Xk:∀ (s cur:List UInt8),∀ l∈yx s cur,l.length<=cur.length+s.length
  | [],cur,l,h=>by simp [yx] at h;subst h;simp
  | c :: s, cur, l, h => by
    unfold yx at h
    split at h
    · rcases List.mem_cons.1 h with h | h
      · subst h;simp
      · have:=Xk s [] l h;simp at this ⊢;omega
    · have:=Xk s (cur++[c]) l h;simp at this ⊢;omega
theorem YZ:∀ (s cur:List UInt8),(yx s cur).length<=s.length+1
  | [],cur=>Nat.le_refl _
  | c :: s, cur => by
    unfold yx
    split
    · have:=YZ s [];simp;omega
    · have:=YZ s (cur++[c]);simp;omega
end Go.Proofs.YthohnmplbjhjaaaGreatDoor

namespace Go.Proofs.YthohnmplbjhjaaaGreatDoor
open Go Go.RowKit Go.Shelf Go.Lib
def PO (r:Md.Mo × (Int × Int)) (w:World) (e:Ending) (w':World):Prop:=
 Below w.heap.size w w'/\((r.2.2=0/\Good r.1/\∃ vv vc vg,e=.returned (.tuple #[xj r.1 vv vc vg,.nilIface])/\MoAt w' r.1 vv vc vg)∨(r.2.2≠0/\∃ F,e=.returned (.tuple #[.agg moZ,.iface 91 (.pointer (some ⟨F,0,none⟩))])/\w'.heap[F]?=some (.cells #[.int .i64 1,.int .i64 r.2.1,.int .i64 r.2.2] 44 (0,0))/\w.heap.size<=F))
theorem y4s (s:List UInt8) (mx:Int) (w:World) (hm:w.cell? ⟨1,0,none⟩=some (.int .i64 mx)) (hs:s.length<=1000000):Calls Tryz.prog 27 #[.string (yc s),.string ⟨#[10]⟩] w fun e w'=>e=.returned (.slice (some ⟨w.heap.size,0,none⟩) (yx s []).length (yx s []).length)/\w.alloc (.cells ((yx s []).map fun l=>Value.string (yc l)).toArray 9)=w':=by
 have hz:(yc s).size=s.length:=zL s
 refine (Tryz.strings_Split (yc s) ⟨#[10]⟩ mx w (by rw [hz];omega) hm (by decide)).mono ?_
 rintro e w' ⟨rfl,rfl⟩
 have hc:Lib.countB (yc s) ⟨#[10]⟩=Lib.count s [10]:=by
  show Lib.count (yc s).data.toList [10]=_
  rw [zD]
 have hl:=y4t s []
 have hd:(Lib.splitB ⟨#[10]⟩ 0 (Lib.countB (yc s) ⟨#[10]⟩) (yc s)).map (·.data.toList)=yx s []:=by
  rw [Lib.splitB_data,hc,zD]
  exact Zq _ s rfl
 refine ⟨by rw [hc,hl],?_⟩
 congr 2
 rw [<-hd,List.map_map]
 congr 1
def finT (n:Nat):Md.Mo × Option (Nat × Int)->Md.Mo × (Int × Int)
 | (_,some (i,e))=>(zm,((i:Int),e))
 | (m,none)=>if m.vars=[] then (zm,((n:Int),59)) else (m,(0,0))
theorem K0 {s:List UInt8} (h:¬ 65536<s.length):yJ s=finT (yx s []).length (goT (yx s []) 1 zm):=by
 unfold yJ
 rw [if_neg h]
 rfl
structure PaAt (N g:Nat) (L:List (List UInt8)) (RG:Md.Mo × Option (Nat × Int)) (w:World) (i:Nat) (wr:World):Prop where
 m:∃ m,MoI N (N+1) m wr/\Good m/\goT (L.drop i) (i+1) m=RG
 way:Way wr wr
 low:Below N w wr
 res:wr.heap[N]?=some (.cells moZ 26 (0,0))
 ln:wr.heap[g]?=some (.cells (L.map fun l=>Value.string (yc l)).toArray 9 (0,0))
theorem K3 {w w4 w5:World} {cs ls:Array Value} {n e:Int} {F:Nat} (h:Below w.heap.size w w4/\w4.heap[w.heap.size]?=some (.cells cs 26 (0,0))/\w4.heap[w.heap.size+2]?=some (.cells ls 9 (0,0))/\Way w4 w4) (h5:w5.heap[F]?=some (.cells #[.int .i64 1,.int .i64 n,.int .i64 e] 44 (0,0))) (h6:w4.heap.size<=F) (h7:Below w4.heap.size w4 w5) :
  w5.heap[w.heap.size]?=some (.cells cs 26 (0,0))/\w5.heap[F]?=some (.cells #[.int .i64 1,.int .i64 n,.int .i64 e] 44 (0,0))/\w.heap.size<F/\Below w.heap.size w w5:=by
 have h1:=(Array.getElem?_eq_some_iff.1 h.2.1).1
 exact ⟨(h7.block _ h1).trans h.2.1,h5,by omega,h.1.trans (h7.mono (by omega))⟩
theorem y4u {B P:Nat} {m:Md.Mo} {vv vc vg:Value} {w:World} (h:MoIs B P m vv vc vg w):(#[vv,vc,.bool m.has,vg]:Array Value).all (·.oneCell')=true:=by
 obtain ⟨av,cv,hvv⟩:=yr h.v
 obtain ⟨L,_,hk,_⟩:=h.k
 obtain ⟨ac,cc,hvc⟩:=yr hk
 obtain ⟨ag,cg,hvg⟩:=yr h.g
 rw [hvv,hvc,hvg]
 kernel_rfl
set_option maxRecDepth 100000 in
set_option maxHeartbeats 4000000 in
theorem X0 (s:List UInt8) (w:World) (hw:Way w w) (hs:s.length<=1000000):Calls Tryz.prog 13 #[.string (yc s)] w (PO (yJ s) w):=by
 obtain ⟨RR,hRR⟩:∃ RR,yJ s=RR:=⟨_,rfl⟩
 rw [hRR]
 obtain ⟨mx,hmx⟩:=hw.mx
 have hsz:(yc s).size=s.length:=zL s
 have hbig:=hw.big
 obtain ⟨W,hW⟩:∃ W,w.alloc (.cells #[.slice none 0 0,.slice none 0 0,.bool false,.slice none 0 0] 26)=W:=⟨_,rfl⟩
 have hbW:Below w.heap.size w W:=hW▸(Below.refl _ _).alloc (Nat.le_refl _) _
 have hNW:W.heap[w.heap.size]?=some (.cells moZ 26 (0,0)):=hW▸heap_alloc_new w _
 have hsW:W.heap.size=w.heap.size+1:=by rw [<-hW];simp
 by_cases hlong:65536<s.length
 ·have hR:RR=(zm,(1,50)):=by rw [<-hRR];unfold yJ;rw [if_pos hlong]
  subst hR
  have hl':decide (65536<((yc s).size:Int))=true:=by rw [hsz];exact decide_eq_true (by omega)
  obtain ⟨X,hX⟩:∃ X,yc s=X:=⟨_,rfl⟩
  rw [hX] at hl' ⊢
  have HB:Hid (Below w.heap.size w W/\W.heap[w.heap.size]?=some (.cells moZ 26 (0,0))/\w.heap.size<W.heap.size):=⟨hbW,hNW,by omega⟩
  clear hRR hlong hs hsz hX hmx hw hbW hNW hsW hbig
  go_enter Tryz.func13,Tryz.ntmps13
  go_wp2_with (first
   | (go_at_call 26;refine cZ (Xf 1 50 _) ?_;rintro e w1 ⟨F,rfl,h1,h2,h3⟩;(have H1:Hid (w1.heap[w.heap.size]?=some (.cells moZ 26 (0,0))/\w1.heap[F]?=some (.cells #[.int .i64 1,.int .i64 1,.int .i64 50] 44 (0,0))/\W.heap.size<=F/\Below w.heap.size w w1):=⟨(h3.block _ HB.out.2.2).trans HB.out.2.1,h1,h2,HB.out.1.trans (h3.mono (Nat.le_of_lt HB.out.2.2))⟩);clear h1 h2 h3)
   | (refine wpList_store_row rfl 26 _ _ rfl w.heap.size moZ rfl rfl 26 _ H1.out.1 (zO _ _ _ _) (by rfl) (by kernel_rfl) ?_))
  refine bodyPost_ret (Yi (p:=2) (u:=3) (ty:=26) rfl _ _ w.heap.size 26 moZ (0,0) _ rfl (setRow_heap _ _ _ _ _ _ H1.out.1) Tryz.underlying26 rfl (zO _ _ _ _)) rfl ?_
  exact ⟨below_setRow H1.out.2.2.2 (Nat.le_refl _) _,.inr ⟨by decide,F,rfl,(setRow_other _ _ _ _ (by have:=HB.out.2.2;have:=H1.out.2.2.1;omega)).trans H1.out.2.1,by have:=HB.out.2.2;have:=H1.out.2.2.1;omega⟩⟩
 ·have hl':decide (65536<((yc s).size:Int))=false:=by rw [hsz];exact decide_eq_false (by omega)
  obtain ⟨L,hL⟩:∃ L,yx s []=L:=⟨_,rfl⟩
  obtain ⟨RG,hRG⟩:∃ RG,goT L 1 zm=RG:=⟨_,rfl⟩
  have HR:Hid (RR=finT L.length RG):=by
   show _=_
   rw [<-hRR,K0 hlong,hL,hRG]
  have HLl:Hid (∀ l∈L,l.length<=70000):=fun l hl=>by
   have:=Xk s [] l (by rw [hL];exact hl)
   simp at this
   omega
  have HLn:Hid (L.length<=100000):=by
   show _<=_
   have:=YZ s []
   rw [hL] at this
   omega
  have HSp:Hid (∀ w',w'.cell? ⟨1,0,none⟩=some (.int .i64 mx)->Calls Tryz.prog 27 #[.string (yc s),.string ⟨#[10]⟩] w' fun e w''=>e=.returned (.slice (some ⟨w'.heap.size,0,none⟩) L.length L.length)/\w'.alloc (.cells (L.map fun l=>Value.string (yc l)).toArray 9)=w''):=fun w' h'=>by
   have:=y4s s mx w' h' hs
   rw [hL] at this
   exact this
  obtain ⟨X,hX⟩:∃ X,yc s=X:=⟨_,rfl⟩
  rw [hX] at hl' HSp ⊢
  obtain ⟨W2,hW2⟩:∃ W2,W.alloc (.cells #[.slice none 0 0,.slice none 0 0,.bool false,.slice none 0 0] 26)=W2:=⟨_,rfl⟩
  have hb2:Below W.heap.size W W2:=hW2▸(Below.refl _ _).alloc (Nat.le_refl _) _
  have hP2:W2.heap[w.heap.size+1]?=some (.cells moZ 26 (0,0)):=by rw [<-hsW,<-hW2];exact heap_alloc_new W _
  have hs2:W2.heap.size=w.heap.size+2:=by rw [<-hW2];simp [hsW]
  have hbw2:Below w.heap.size w W2:=hbW.trans (hb2.mono (by omega))
  have hm2:W2.cell? ⟨1,0,none⟩=some (.int .i64 mx):=(hbw2.cell (p:=⟨1,0,none⟩) (by simp only;omega)).trans hmx
  have H3:Hid (∀ W3,W2.alloc (.cells (L.map fun l=>Value.string (yc l)).toArray 9)=W3->PaAt w.heap.size (w.heap.size+2) L RG w 0 W3):=fun W3 h3=>by
   have hb3:Below W2.heap.size W2 W3:=h3▸(Below.refl _ _).alloc (Nat.le_refl _) _
   have hbw3:=hbw2.trans (hb3.mono (by omega))
   refine ⟨⟨zm,⟨.slice none 0 0,.slice none 0 0,.slice none 0 0,(hb3.block _ (by omega)).trans hP2,by omega,yG _ _ 56 3,⟨[],rfl,yG _ _ 61 10,fun d hd=>by simp at hd⟩,yG _ _ 87 2⟩,⟨by decide,by decide,fun x hx=>by simp [zm] at hx⟩,?_⟩,?_,hbw3,(hb3.block _ (by omega)).trans ((hb2.block _ (by omega)).trans hNW),?_⟩
   ·simpa using hRG
   ·exact QU (B:=w.heap.size) hw ⟨hbw3.os,hbw3.tape,hbw3.output,hbw3.size,fun k hk h=>hbw3.block k (by omega)⟩ hbig
   ·rw [<-h3,<-hs2];exact heap_alloc_new W2 _
  have HBig:Hid (5<=w.heap.size):=hbig
  clear hRR hlong hs hsz hX hmx hw hbW hNW hbig hL hRG hb2 hP2 hbw2
  go_enter Tryz.func13,Tryz.ntmps13
  go_wp2_with (first
   | (go_at_call 27;refine cZ (HSp.out _ hm2) ?_;rintro e W3 ⟨rfl,h3⟩;(have HP3:=H3.out _ h3);clear h3))
  have HP:Hid (PaAt w.heap.size (w.heap.size+2) L RG w 0 W3):=HP3
  clear HP3 H3 hm2 HSp hl' hW hW2 hsW hs2
  go_loopw [19] (fun v wr=>∃ i:Nat,v=.int .i64 (i:Int)/\i<=L.length/\Hid (PaAt w.heap.size (w.heap.size+2) L RG w i wr)) (fun v _=>(L.length-RowKit.intOf v).toNat)
  case atStart=>exact ⟨0,rfl,by omega,HP.out⟩
  case round=>
   obtain ⟨i,rfl,hi,HPi⟩:=hrel
   have hLn:=HLn.out
   by_cases hil:i<L.length
   ·obtain ⟨m,hmi,hgm,hgo⟩:=HPi.out.m
    have hlen:L[i].length<=70000:=HLl.out _ (List.getElem_mem hil)
    obtain ⟨vv,vc,vg,hmo⟩:=hmi
    have HRd:Hid (Calls Tryz.prog 28 #[.pointer (some ⟨w.heap.size+1,0,none⟩),.string (yc L[i])] wr fun e w'=>e=.returned (.int .i64 (yR m L[i]).2)/\MoI w.heap.size (w.heap.size+1) (yR m L[i]).1 w'/\Ofw (fun k=>k=w.heap.size+1∨vv.ownBlock=some k∨vc.ownBlock=some k) wr w'):=y4v L[i] wr hmo hgm HPi.out.way hlen
    have HGd:Hid (Good (yR m L[i]).1):=y3P hgm hlen
    have HGo:Hid ((if (yR m L[i]).2=0 then goT (L.drop (i+1)) (i+1+1) (yR m L[i]).1 else (m,some (i+1,(yR m L[i]).2)))=RG):=by
     show _=_
     rw [<-hgo,List.drop_eq_getElem_cons hil]
     rfl
    obtain ⟨rd,hrd⟩:∃ rd,yR m L[i]=rd:=⟨_,rfl⟩
    rw [hrd] at HRd HGd HGo
    have HKp:Hid (∀ w',Ofw (fun k=>k=w.heap.size+1∨vv.ownBlock=some k∨vc.ownBlock=some k) wr w'->Below w.heap.size w w'/\w'.heap[w.heap.size]?=some (.cells moZ 26 (0,0))/\w'.heap[w.heap.size+2]?=some (.cells (L.map fun l=>Value.string (yc l)).toArray 9 (0,0))/\Way w' w'):=fun w' o=>by
     have hp:=HPi.out
     have ob:Ofw (fun k=>w.heap.size<=k) wr w':=o.less fun k hk=>by
      obtain ⟨_,_,_,_,hb⟩:=Zr hmo hk
      exact hb
     refine ⟨hp.low.trans (ob.below (fun k hk=>hk) hp.low.size),(o.block _ (Array.getElem?_eq_some_iff.1 hp.res).1 (fun e=>?_)).trans hp.res,(o.block _ (Array.getElem?_eq_some_iff.1 hp.ln).1 (fun e=>?_)).trans hp.ln,QU hp.way ob HBig.out⟩
     ·rcases e with e | e | e
      ·omega
      ·obtain ⟨_,cur,hc⟩:=yn hmo.v e
       exact absurd (zb hp.res hc) (by decide)
      ·obtain ⟨L',_,hkk,_⟩:=hmo.k
       obtain ⟨_,cur,hc⟩:=yn hkk e
       exact absurd (zb hp.res hc) (by decide)
     ·obtain ⟨c,t,hc,ht,_⟩:=Zr hmo e
      rw [zb hp.ln hc] at ht
      revert ht
      decide
    have cl:wr.cell? ⟨w.heap.size+2,i,none⟩=some (.string (yc L[i])):=by
     rw [yd HPi.out.ln i]
     simp [hil]
    obtain ⟨Y,hY⟩:∃ Y,yc L[i]=Y:=⟨_,rfl⟩
    rw [hY] at HRd cl
    have h1:decide ((i:Int)<(L.length:Int))=true:=decide_eq_true (by omega)
    have hiI:(i:Int)<(L.length:Int):=by omega
    by_cases h0:rd.2=0
    ·have h0':(rd.2==0)=true:=by simp [h0]
     have HG2:Hid (goT (L.drop (i+1)) (i+1+1) rd.1=RG):=by
      show _=_
      rw [<-HGo.out,if_pos h0]
     clear h0 HGo hY hrd hmo hgo hgm hlen
     go_wp2_with (first
      | (go_at_call 28;refine cZ HRd.out ?_;rintro e w4 ⟨rfl,h4,o4⟩;(have H4:Hid (MoI w.heap.size (w.heap.size+1) rd.1 w4/\Ofw (fun k=>k=w.heap.size+1∨vv.ownBlock=some k∨vc.ownBlock=some k) wr w4):=⟨h4,o4⟩);clear h4 o4))
     go_roundw
     case measure=>simp only [RowKit.intOf];omega
     case rel=>
      obtain ⟨k1,k2,k3,k4⟩:=HKp.out _ H4.out.2
      exact ⟨i+1,by simp,by omega,⟨⟨rd.1,H4.out.1,HGd.out,HG2.out⟩,k4,k1,k2,k3⟩⟩
    ·have h0':(rd.2==0)=false:=by simp [h0]
     have HG2:Hid (RR=(zm,(((i+1:Nat):Int),rd.2))/\rd.2≠0):=by
      refine ⟨?_,h0⟩
      rw [HR.out,<-HGo.out,if_neg h0]
      rfl
     have HFm:Hid (∀ w',Calls Tryz.prog 26 #[.int .i64 ((i:Int)+1),.int .i64 rd.2] w' fun en w''=>∃ F,en=.returned (.tuple #[.agg #[.slice none 0 0,.slice none 0 0,.bool false,.slice none 0 0],.iface 91 (.pointer (some ⟨F,0,none⟩))])/\w''.heap[F]?=some (.cells #[.int .i64 1,.int .i64 ((i:Int)+1),.int .i64 rd.2] 44 (0,0))/\w'.heap.size<=F/\Below w'.heap.size w' w''):=fun w'=>Xf _ _ w'
     clear h0 HGo hY hrd hmo hgo hgm hlen
     go_wp2_with (first
      | (go_at_call 28;refine cZ HRd.out ?_;rintro e w4 ⟨rfl,h4,o4⟩;(have H4:Hid (Ofw (fun k=>k=w.heap.size+1∨vv.ownBlock=some k∨vc.ownBlock=some k) wr w4):=o4);clear h4 o4)
      | (go_at_call 26;refine cZ (HFm.out _) ?_;rintro e w5 ⟨F,rfl,h5,h6,h7⟩;(have H5:Hid (w5.heap[w.heap.size]?=some (.cells moZ 26 (0,0))/\w5.heap[F]?=some (.cells #[.int .i64 1,.int .i64 ((i:Int)+1),.int .i64 rd.2] 44 (0,0))/\w.heap.size<F/\Below w.heap.size w w5):=K3 (HKp.out _ H4.out) h5 h6 h7);clear h5 h6 h7)
      | (refine wpList_store_row rfl 26 _ _ rfl w.heap.size moZ rfl rfl 26 _ H5.out.1 (zO _ _ _ _) (by rfl) (by kernel_rfl) ?_))
     refine bodyPost_ret (Yi (p:=2) (u:=3) (ty:=26) rfl _ _ w.heap.size 26 moZ (0,0) _ rfl (setRow_heap _ _ _ _ _ _ H5.out.1) Tryz.underlying26 rfl (zO _ _ _ _)) rfl ?_
     rw [HG2.out.1]
     exact ⟨below_setRow H5.out.2.2.2 (Nat.le_refl _) _,.inr ⟨HG2.out.2,F,rfl,(setRow_other _ _ _ _ (by have:=H5.out.2.2.1;omega)).trans H5.out.2.1,by have:=H5.out.2.2.1;omega⟩⟩
   ·have hie:i=L.length:=by omega
    subst hie
    obtain ⟨m,⟨vv,vc,vg,hmo⟩,hgm,hgo⟩:=HPi.out.m
    have hRG:RG=(m,none):=by rw [<-hgo];simp [goT]
    have HR2:Hid (RR=if m.vars=[] then (zm,((L.length:Int),59)) else (m,(0,0))):=by
     show _=_
     rw [HR.out,hRG]
     rfl
    obtain ⟨av,cv,hvv⟩:=yr hmo.v
    subst hvv
    have h1:decide ((L.length:Int)<(L.length:Int))=false:=decide_eq_false (by omega)
    have cv0:wr.cell? ⟨w.heap.size+1,0,none⟩=some (.slice av m.vars.length cv):=by rw [yd hmo.o 0];rfl
    have HMo:Hid (MoIs w.heap.size (w.heap.size+1) m (.slice av m.vars.length cv) vc vg wr/\Good m):=⟨hmo,hgm⟩
    by_cases hv0:m.vars=[]
    ·have h0':((m.vars.length:Int)==0)=true:=by rw [hv0];rfl
     have HFm:Hid (∀ w',Calls Tryz.prog 26 #[.int .i64 (L.length:Int),.int .i64 59] w' fun en w''=>∃ F,en=.returned (.tuple #[.agg #[.slice none 0 0,.slice none 0 0,.bool false,.slice none 0 0],.iface 91 (.pointer (some ⟨F,0,none⟩))])/\w''.heap[F]?=some (.cells #[.int .i64 1,.int .i64 (L.length:Int),.int .i64 59] 44 (0,0))/\w'.heap.size<=F/\Below w'.heap.size w' w''):=fun w'=>Xf _ _ w'
     have HG2:Hid (RR=(zm,((L.length:Int),59))):=by show _=_;rw [HR2.out,if_pos hv0]
     obtain ⟨nv,hnv⟩:∃ nv,m.vars.length=nv:=⟨_,rfl⟩
     rw [hnv] at h0' cv0
     clear hv0 hmo hgo hgm hRG HMo hnv
     go_wp2_with (first
      | (go_at_call 26;refine cZ (HFm.out _) ?_;rintro e w5 ⟨F,rfl,h5,h6,h7⟩;(have H5:Hid (w5.heap[w.heap.size]?=some (.cells moZ 26 (0,0))/\w5.heap[F]?=some (.cells #[.int .i64 1,.int .i64 (L.length:Int),.int .i64 59] 44 (0,0))/\w.heap.size<F/\Below w.heap.size w w5):=K3 ⟨HPi.out.low,HPi.out.res,HPi.out.ln,HPi.out.way⟩ h5 h6 h7);clear h5 h6 h7)
      | (refine wpList_store_row rfl 26 _ _ rfl w.heap.size moZ rfl rfl 26 _ H5.out.1 (zO _ _ _ _) (by rfl) (by kernel_rfl) ?_))
     refine bodyPost_ret (Yi (p:=2) (u:=3) (ty:=26) rfl _ _ w.heap.size 26 moZ (0,0) _ rfl (setRow_heap _ _ _ _ _ _ H5.out.1) Tryz.underlying26 rfl (zO _ _ _ _)) rfl ?_
     rw [HG2.out]
     exact ⟨below_setRow H5.out.2.2.2 (Nat.le_refl _) _,.inr ⟨(by decide:(59:Int)≠0),F,rfl,(setRow_other _ _ _ _ (by have:=H5.out.2.2.1;omega)).trans H5.out.2.1,by have:=H5.out.2.2.1;omega⟩⟩
    ·have h0':((m.vars.length:Int)==0)=false:=by
      have:m.vars.length≠0:=fun e=>hv0 (List.length_eq_zero_iff.1 e)
      simp
      omega
     have HG2:Hid (RR=(m,(0,0))):=by show _=_;rw [HR2.out,if_neg hv0]
     have hone:(#[.slice av m.vars.length cv,vc,.bool m.has,vg]:Array Value).all (·.oneCell')=true:=y4u hmo
     have HRs:Hid (wr.heap[w.heap.size]?=some (.cells moZ 26 (0,0))/\wr.heap[w.heap.size+1]?=some (.cells #[.slice av m.vars.length cv,vc,.bool m.has,vg] 26 (0,0))/\(#[.slice av m.vars.length cv,vc,.bool m.has,vg]:Array Value).all (·.oneCell')=true):=⟨HPi.out.res,hmo.o,hone⟩
     clear hv0 hmo hgo hgm hRG hone
     go_wp2_with (first
      | (refine wpList_load_row rfl 26 _ rfl (w.heap.size+1) rfl 26 #[.slice av m.vars.length cv,vc,.bool m.has,vg] (0,0) _ HRs.out.2.1 Tryz.underlying26 rfl (zO _ _ _ _) ?_)
      | (refine wpList_store_row rfl 26 _ _ rfl w.heap.size #[.slice av m.vars.length cv,vc,.bool m.has,vg] rfl rfl 26 _ HRs.out.1 (zO _ _ _ _) (by rfl) HRs.out.2.2 ?_))
     refine bodyPost_ret (Yi (p:=2) (u:=3) (ty:=26) rfl _ _ w.heap.size 26 _ (0,0) _ rfl (setRow_heap _ _ _ _ _ _ HRs.out.1) Tryz.underlying26 rfl (zO _ _ _ _)) rfl ?_
     rw [HG2.out]
     have o5:Ofw (fun k=>k=w.heap.size) wr (wr.setRow w.heap.size #[.slice av m.vars.length cv,vc,.bool m.has,vg]):=Y5
     have hmo5:=HMo.out.1.off o5 (fun k hk=>⟨by have hk':k=w.heap.size:=hk;omega,fun c t e=>by have hk':k=w.heap.size:=hk;rw [hk'] at e;rw [zb HRs.out.1 e];decide⟩)
     exact ⟨below_setRow HPi.out.low (Nat.le_refl _) _,.inl ⟨rfl,HMo.out.2,_,_,_,rfl,hmo5.at HMo.out.2⟩⟩
end Go.Proofs.YthohnmplbjhjaaaGreatDoor

namespace Go.Proofs.YthohnmplbjhjaaaGreatDoor
open Go Go.RowKit
theorem Qp:∀ (L:List (List UInt8)) (i:Nat) (m m':Md.Mo) (j:Nat) (e:Int),goT L i m=(m',some (j,e))->i<=j/\j<i+L.length/\goT (L.take (j+1-i)) i m=(m',some (j,e))/\e≠0
  | [],i,m,m',j,e,h=>by simp [goT] at h
  | l :: L, i, m, m', j, e, h => by
    unfold goT at h
    split at h
    · rename_i h0
      obtain ⟨h1,h2,h3,h4⟩:=Qp L (i+1) _ m' j e h
      refine ⟨by omega,by simp;omega,?_,h4⟩
      obtain ⟨k,hk⟩:∃ k,j+1-i=k+1:=⟨j-i,by omega⟩
      have hk2:j+1-(i+1)=k:=by omega
      rw [hk,List.take_succ_cons]
      unfold goT
      rw [if_pos h0,<-hk2]
      exact h3
    · rename_i h0
      simp only [Prod.mk.injEq,Option.some.injEq] at h
      obtain ⟨rfl,rfl,rfl⟩:=h
      refine ⟨Nat.le_refl _,by simp,?_,h0⟩
      have hk:i+1-i=0+1:=by omega
      rw [hk,List.take_succ_cons]
      unfold goT
      rw [if_neg h0]
end Go.Proofs.YthohnmplbjhjaaaGreatDoor

namespace Go.Proofs.YthohnmplbjhjaaaGreatDoor
open Go Go.RowKit Go.Shelf Go.Lib
def KnO (w:World) (e:Ending) (w':World):Prop:=e=.returned (.bool true)/\Below w.heap.size w w'
theorem xm {w w':World} (h:Way w w) (hb:Below w.heap.size w w'):Way w' w':=y2w (h.below hb)
theorem y2x {w:World} {m:Md.Mo} {vv vc vg:Value} (h:MoAt w m vv vc vg):(#[vv,vc,.bool m.has,vg]:Array Value).all (·.oneCell')=true:=by
 obtain ⟨a1,c1,rfl,_⟩:=h.v.form
 obtain ⟨a2,c2,rfl,_⟩:=h.c.form
 obtain ⟨a3,c3,rfl,_⟩:=h.g.form
 kernel_rfl
theorem y2v {r:Md.Mo × (Int × Int)} {w w':World} {e:Ending} (h:PO r w e w'):∃ cs it,e=.returned (.tuple #[.agg cs,it])/\cs.size=4/\cs.all (·.oneCell')=true/\Below w.heap.size w w'/\((r.2.2=0/\it=.nilIface)∨(r.2.2≠0/\∃ F,it=.iface 91 (.pointer (some ⟨F,0,none⟩))/\w'.heap[F]?=some (.cells #[.int .i64 1,.int .i64 r.2.1,.int .i64 r.2.2] 44 (0,0)))):=by
 obtain ⟨hb,⟨h0,_,vv,vc,vg,rfl,hM⟩ | ⟨h0,F,rfl,hF,_⟩⟩:=h
 ·exact ⟨_,_,rfl,rfl,y2x hM,hb,.inl ⟨h0,rfl⟩⟩
 ·exact ⟨_,_,rfl,rfl,by kernel_rfl,hb,.inr ⟨h0,F,rfl,hF⟩⟩
end Go.Proofs.YthohnmplbjhjaaaGreatDoor

namespace Go.Proofs.YthohnmplbjhjaaaGreatDoor
open Go Go.RowKit Go.Shelf Go.Lib
def kn1:List UInt8:=[118,97,114,32,120,32,48,32,51,10,118,97,114,32,121,32,45,49,32,50,10,35,32,98,111,116,104,10,108,105,110,32,60,61,32,52,32,50,32,120,32,45,49,32,121,10,110,101,32,120,32,121,32,49,10,101,108,101,109,101,110,116,32,120,32,121,32,50,32,48,10,109,97,120,32,120,32,121,32,121,10,114,101,105,102,32,120,32,60,61,32,49,32,49,32,120,32,49,32,121,10,109,105,110,105,109,105,122,101,32,51,32,120,32,45,50,32,121]
def kn2:List UInt8:=[118,97,114,32,120,32,48,32,51,10,118,97,114,32,121,32,45,49,32,50,10,116,97,98,108,101,32,120,32,121,32,58,32,48,32,49,32,58,32,51,32,45,49,10,99,111,117,110,116,32,61,32,50,32,45,49,32,120,32,121,32,121,10]
def knM1:Md.Mo:=⟨[⟨⟨#[120]⟩,0,3⟩,⟨⟨#[121]⟩,-1,2⟩],[⟨1,1,[(2,0),(-1,1)],4,0,0,0,[],[],[]⟩,⟨2,0,[],1,0,0,1,[],[],[]⟩,⟨4,0,[],0,0,0,1,[],[2,0],[]⟩,⟨5,0,[],0,0,0,0,[1,1],[],[]⟩,⟨7,0,[(1,0),(1,1)],1,0,0,0,[],[],[]⟩],true,[(3,0),(-2,1)]⟩
def knM2:Md.Mo:=⟨[⟨⟨#[120]⟩,0,3⟩,⟨⟨#[121]⟩,-1,2⟩],[⟨8,0,[],0,0,0,0,[0,1],[],[[0,1],[3,-1]]⟩,⟨9,2,[],2,-1,0,0,[0,1,1],[],[]⟩],false,[]⟩
def knHead:List UInt8:=[118,97,114,32,120,32,48,32,51,10]
def knBad:List (List UInt8 × Int):=[([108,105,110,32,60,32,52,32,49,32,120],51),([108,105,110,32,60,61,32,48,52,32,49,32,120],53),([108,105,110,32,60,61,32,52,32,49],52),([108,105,110,32,60,61,32,52,32,48,32,120],45),([108,105,110,32,60,61,32,52,32,49,32,122],56),([110,101,32,120,32,120,32,48,32,48],57),([116,97,98,108,101,32,120,32,58,32,49,32,50],51),([116,97,98,108,101,32,120,32,120,32,58,32,49],52),([116,97,98,108,101,32,120],52),([99,111,117,110,116,32,61,32,49,32,50],52),([118,97,114,32,120,32,49,32,50],55),([118,97,114,32,121,32,51,32,50],42)]
theorem kn_1:yJ kn1=(knM1,(0,0)):=by kernel_rfl
theorem kn_2:yJ kn2=(knM2,(0,0)):=by kernel_rfl
theorem y2c:yJ (knHead++[108,105,110,32,60,32,52,32,49,32,120])=(zm,(2,51)):=by kernel_rfl
theorem y2d:yJ (knHead++[108,105,110,32,60,61,32,48,52,32,49,32,120])=(zm,(2,53)):=by kernel_rfl
theorem y2e:yJ (knHead++[108,105,110,32,60,61,32,52,32,49])=(zm,(2,52)):=by kernel_rfl
theorem y2f:yJ (knHead++[108,105,110,32,60,61,32,52,32,48,32,120])=(zm,(2,45)):=by kernel_rfl
theorem y2g:yJ (knHead++[108,105,110,32,60,61,32,52,32,49,32,122])=(zm,(2,56)):=by kernel_rfl
theorem y2h:yJ (knHead++[110,101,32,120,32,120,32,48,32,48])=(zm,(2,57)):=by kernel_rfl
theorem y2i:yJ (knHead++[116,97,98,108,101,32,120,32,58,32,49,32,50])=(zm,(2,51)):=by kernel_rfl
theorem y2j:yJ (knHead++[116,97,98,108,101,32,120,32,120,32,58,32,49])=(zm,(2,52)):=by kernel_rfl
theorem y2k:yJ (knHead++[116,97,98,108,101,32,120])=(zm,(2,52)):=by kernel_rfl
theorem y2l:yJ (knHead++[99,111,117,110,116,32,61,32,49,32,50])=(zm,(2,52)):=by kernel_rfl
theorem y2m:yJ (knHead++[118,97,114,32,120,32,49,32,50])=(zm,(2,55)):=by kernel_rfl
theorem y2n:yJ (knHead++[118,97,114,32,121,32,51,32,50])=(zm,(2,42)):=by kernel_rfl
theorem y2o:∀ i,i<12->yJ (knHead++(knBad.getD i ([],0)).1)=(zm,(2,(knBad.getD i ([],0)).2)):=by
 intro i h'
 rcases (by omega:i=0∨i=1∨i=2∨i=3∨i=4∨i=5∨i=6∨i=7∨i=8∨i=9∨i=10∨i=11) with rfl | rfl | rfl | rfl | rfl | rfl | rfl | rfl | rfl | rfl | rfl | rfl
 ·exact y2c
 ·exact y2d
 ·exact y2e
 ·exact y2f
 ·exact y2g
 ·exact y2h
 ·exact y2i
 ·exact y2j
 ·exact y2k
 ·exact y2l
 ·exact y2m
 ·exact y2n
theorem kn_print:(Md.print knM1).2=0/\60<(Md.print knM1).1.length/\(Md.print knM1).1.take 10=knHead:=⟨by kernel_rfl,of_decide_eq_true (by kernel_rfl),by kernel_rfl⟩
end Go.Proofs.YthohnmplbjhjaaaGreatDoor

namespace Go.Proofs.YthohnmplbjhjaaaGreatDoor
open Go Go.RowKit Go.Shelf Go.Lib
theorem XD (a b:List UInt8):yc a++yc b=yc (a++b):=by
 apply ByteArray.ext
 simp [yc]
theorem y6k {s:List UInt8} {i:Nat} (h:i<s.length):(yc s).extract i (i+1)=yc [s[i]]:=by
 apply ByteArray.ext
 rw [ByteArray.data_extract]
 show s.toArray.extract i (i+1)=[s[i]].toArray
 rw [List.extract_toArray]
 congr 1
 show (s.drop i).take (i+1-i)=[s[i]]
 rw [List.drop_eq_getElem_cons h,show i+1-i=1 by omega]
 rfl
end Go.Proofs.YthohnmplbjhjaaaGreatDoor
