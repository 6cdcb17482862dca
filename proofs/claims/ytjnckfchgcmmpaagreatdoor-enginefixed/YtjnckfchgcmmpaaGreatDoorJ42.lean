import Derived.Test.YtjnckfchgcmmpaaGreatDoorJ40
import Derived.Test.YtjnckfchgcmmpaaGreatDoorJ05
import Derived.Test.YtjnckfchgcmmpaaGreatDoorJ41
import Derived.Test.YtjnckfchgcmmpaaGreatDoorJ39
import Derived.Test.YtjnckfchgcmmpaaGreatDoorJ21
namespace Go.Proofs.YtjnckfchgcmmpaaGreatDoor
open Go.RowKit
def tct (t:Tl):Ct:=⟨t.k,t.x,t.v⟩
def stT (s:St) (T:List Tl) (n:Nat):St:=foldC s ((T.take n).map tct)
theorem stT_zero (s:St) (T:List Tl):stT s T 0=s:=rfl
theorem stT_next {s:St} {T:List Tl} {n:Nat} (hn:n<T.length):stT s T (n+1)=(stT s T n).cut T[n].k T[n].x T[n].v:=by
  unfold stT foldC;rw [List.take_succ_eq_append_getElem hn,List.map_append,List.foldl_append];rfl
def dnL (pl:Int) (s:St) (T:List Tl):Nat->List Tl
  | 0=>[]
  | n + 1 => dnL pl s T n ++ (match T[n]? with
    | some t=>if (stT s T n).went t.k t.x t.v then [{ t with con:=pl }] else []
    | none=>[])
theorem dnL_next {pl:Int} {s:St} {T:List Tl} {n:Nat} (hn:n<T.length):dnL pl s T (n+1)=dnL pl s T n++(if (stT s T n).went T[n].k T[n].x T[n].v then [{ T[n] with con:=pl }] else []):=by
  show dnL pl s T n++(match T[n]? with | some t=>_ | none=>_)=_;rw [List.getElem?_eq_getElem hn]
theorem dnL_len (pl:Int) (s:St) (T:List Tl) (n:Nat):(dnL pl s T n).length<=n:=by
  induction n with
  | zero=>simp [dnL]
  | succ n ih =>
    unfold dnL;rw [List.length_append]
    split
    · split <;> simp <;> omega
    · simp;omega
def CallR (pl:Int) (T:List Tl) (ok:Bool) (s s':St) (dn:List Tl) (is:Bool):Prop:=
  (ok=false/\s'=s/\dn=[]/\is=false) ∨
  (ok=true/\∃ n,n<=T.length/\(∀ j (h:j<T.length),j<n->(stT s T j).may T[j].k T[j].x T[j].v=true)/\dn=dnL pl s T n /\
    ((n=T.length/\is=true/\s'=stT s T n)∨(∃ h:n<T.length,(stT s T n).may T[n].k T[n].x T[n].v=false/\is=false/\s'=stT s T (n+1))))
def EcOut (B p:Nat) (nv mv:Value) (s:St) (pl:Int) (TR:List Tl->Bool->Prop) (w:World) (e:Ending) (w':World):Prop:=
  ∃ T ok s' dn is,TR T ok/\CallR pl T ok s s' dn is/\(∃ v t,e=.returned (.tuple #[v,.agg (Tl.cells t).toArray,.bool is])/\(is=true->t=⟨0,0,0,0,0,0,none,0,0⟩)/\w'.ownsRow w.heap.size 60 7 v dn.length (tls dn))/\StAt B w' p nv mv s'/\Stp B p nv mv w w'
theorem tls_cell {w:World} {B:Nat} {a:Option Addr} {cap:Nat} {T:List Tl} (h:w.ownsRow B 60 7 (.slice a T.length cap) T.length (tls T)) (j:Nat) (hj:j<T.length):∃ g,a=some ⟨g,0,none⟩/\B<=g/\g<w.heap.size/\w.cell? ⟨g,j*7,none⟩=some (.int .i64 T[j].con)/\w.cell? ⟨g,j*7+1,none⟩=some (.int .i64 T[j].k)/\w.cell? ⟨g,j*7+2,none⟩=some (.int .i64 T[j].x)/\w.cell? ⟨g,j*7+3,none⟩=some (.int .i64 T[j].v)/\w.cell? ⟨g,j*7+4,none⟩=some (.int .i64 T[j].lo)/\w.cell? ⟨g,j*7+5,none⟩=some (.int .i64 T[j].hi)/\w.cell? ⟨g,j*7+6,none⟩=some (.slice T[j].a T[j].n T[j].cp):=by
  rcases own_cells h with ⟨_,h0⟩ | ⟨g,cp,e,hB,hg,_,hc⟩
  · omega
  · injection e with e1 _ _
    have key:∀ i u,i<7->T[j].cells[i]?=some u->w.cell? ⟨g,j*7+i,none⟩=some u:=fun i u hi hu=>hc _ _ ((tls_get T j i hj hi).trans hu)
    exact ⟨g,e1,hB,hg,key 0 _ (by omega) rfl,key 1 _ (by omega) rfl,key 2 _ (by omega) rfl,key 3 _ (by omega) rfl,key 4 _ (by omega) rfl,key 5 _ (by omega) rfl,key 6 _ (by omega) rfl⟩
theorem set7 {w:World} {N:Nat} {a0 a1 a2 a3 a4 a5 a6:Value} {t:TypeId} (h:w.heap[N]?=some (.cells #[a0,a1,a2,a3,a4,a5,a6] t (0,0))) (b0 b1 b2 b3 b4 b5 b6:Value):(((((((w.setCell ⟨N,0,none⟩ b0).setCell ⟨N,1,none⟩ b1).setCell ⟨N,2,none⟩ b2).setCell ⟨N,3,none⟩ b3).setCell ⟨N,4,none⟩ b4).setCell ⟨N,5,none⟩ b5).setCell ⟨N,6,none⟩ b6).heap[N]?=some (.cells #[b0,b1,b2,b3,b4,b5,b6] t (0,0)):=by
  have h0:=heap_setCell_same _ N 0 _ t b0 h;simp only [List.setIfInBounds_toArray,List.set_cons_zero] at h0;have h1:=heap_setCell_same _ N 1 _ t b1 h0;simp only [List.setIfInBounds_toArray,List.set_cons_zero,List.set_cons_succ] at h1;have h2:=heap_setCell_same _ N 2 _ t b2 h1;simp only [List.setIfInBounds_toArray,List.set_cons_zero,List.set_cons_succ] at h2;have h3:=heap_setCell_same _ N 3 _ t b3 h2;simp only [List.setIfInBounds_toArray,List.set_cons_zero,List.set_cons_succ] at h3;have h4:=heap_setCell_same _ N 4 _ t b4 h3;simp only [List.setIfInBounds_toArray,List.set_cons_zero,List.set_cons_succ] at h4;have h5:=heap_setCell_same _ N 5 _ t b5 h4;simp only [List.setIfInBounds_toArray,List.set_cons_zero,List.set_cons_succ] at h5;have h6:=heap_setCell_same _ N 6 _ t b6 h5
  simp only [List.setIfInBounds_toArray,List.set_cons_zero,List.set_cons_succ] at h6;exact h6
theorem off_set7 {S:Nat->Prop} {w:World} {N:Nat} (hS:S N) (b0 b1 b2 b3 b4 b5 b6:Value):Off S w (((((((w.setCell ⟨N,0,none⟩ b0).setCell ⟨N,1,none⟩ b1).setCell ⟨N,2,none⟩ b2).setCell ⟨N,3,none⟩ b3).setCell ⟨N,4,none⟩ b4).setCell ⟨N,5,none⟩ b5).setCell ⟨N,6,none⟩ b6):=
  ((((((Off.set _ hS).trans (Off.set _ hS)).trans (Off.set _ hS)).trans (Off.set _ hS)).trans (Off.set _ hS)).trans (Off.set _ hS)).trans (Off.set _ hS)
theorem below_set7 {B:Nat} {w0 w:World} {N:Nat} (h:Below B w0 w) (hN:B<=N) (b0 b1 b2 b3 b4 b5 b6:Value):Below B w0 (((((((w.setCell ⟨N,0,none⟩ b0).setCell ⟨N,1,none⟩ b1).setCell ⟨N,2,none⟩ b2).setCell ⟨N,3,none⟩ b3).setCell ⟨N,4,none⟩ b4).setCell ⟨N,5,none⟩ b5).setCell ⟨N,6,none⟩ b6):=
  ((((((h.setCell hN _).setCell hN _).setCell hN _).setCell hN _).setCell hN _).setCell hN _).setCell hN _
theorem cells7 {w:World} {N:Nat} {a0 a1 a2 a3 a4 a5 a6:Value} {t:TypeId} (h:w.heap[N]?=some (.cells #[a0,a1,a2,a3,a4,a5,a6] t (0,0))):w.cell? ⟨N,0,none⟩=some a0/\w.cell? ⟨N,1,none⟩=some a1/\w.cell? ⟨N,2,none⟩=some a2/\w.cell? ⟨N,3,none⟩=some a3/\w.cell? ⟨N,4,none⟩=some a4/\w.cell? ⟨N,5,none⟩=some a5/\w.cell? ⟨N,6,none⟩=some a6:=
  ⟨cell_of h 0,cell_of h 1,cell_of h 2,cell_of h 3,cell_of h 4,cell_of h 5,cell_of h 6⟩
theorem frozen7 {w:World} {N:Nat} {cs:Array Value} {t:TypeId} (h:w.heap[N]?=some (.cells cs t (0,0))):w.frozen? ⟨N,0,none⟩=false/\w.frozen? ⟨N,1,none⟩=false/\w.frozen? ⟨N,2,none⟩=false/\w.frozen? ⟨N,3,none⟩=false/\w.frozen? ⟨N,4,none⟩=false/\w.frozen? ⟨N,5,none⟩=false/\w.frozen? ⟨N,6,none⟩=false:=by
  refine ⟨?_,?_,?_,?_,?_,?_,?_⟩ <;> simp [World.frozen?,h]
theorem cells13 {w:World} {N:Nat} {a0 a1 a2 a3 a4 a5 a6 a7 a8 a9 a10 a11 a12:Value} {t:TypeId} (h:w.heap[N]?=some (.cells #[a0,a1,a2,a3,a4,a5,a6,a7,a8,a9,a10,a11,a12] t (0,0))):w.cell? ⟨N,0,none⟩=some a0/\w.cell? ⟨N,1,none⟩=some a1/\w.cell? ⟨N,2,none⟩=some a2/\w.cell? ⟨N,3,none⟩=some a3/\w.cell? ⟨N,4,none⟩=some a4/\w.cell? ⟨N,5,none⟩=some a5/\w.cell? ⟨N,6,none⟩=some a6/\w.cell? ⟨N,7,none⟩=some a7/\w.cell? ⟨N,8,none⟩=some a8/\w.cell? ⟨N,9,none⟩=some a9/\w.cell? ⟨N,10,none⟩=some a10/\w.cell? ⟨N,11,none⟩=some a11/\w.cell? ⟨N,12,none⟩=some a12:=
  ⟨cell_of h 0,cell_of h 1,cell_of h 2,cell_of h 3,cell_of h 4,cell_of h 5,cell_of h 6,cell_of h 7,cell_of h 8,cell_of h 9,cell_of h 10,cell_of h 11,cell_of h 12⟩
theorem StAt.old {B:Nat} {w:World} {p:Nat} {nv mv:Value} {s:St} (h:StAt B w p nv mv s) {k:Nat} (hk:Own p nv mv k):k<w.heap.size/\B<=k:=by
  rcases hk with rfl | hk | hk
  · exact ⟨h.lt,h.p1⟩
  · exact ⟨(h.n.lt k hk).2,(h.n.lt k hk).1⟩
  · exact ⟨(h.m.lt k hk).2,(h.m.lt k hk).1⟩
theorem eg_end {B p:Nat} {nv mv:Value} {w V w1 wr:World} {N1:Nat} (hbV:Below w.heap.size w V) (hb1:Below V.heap.size V w1) (hst:Stp B p nv mv w1 wr) (hN:w.heap.size<=N1) (hB:B<=w.heap.size) (b0 b1 b2 b3 b4 b5 b6:Value):Stp B p nv mv w (((((((wr.setCell ⟨N1,0,none⟩ b0).setCell ⟨N1,1,none⟩ b1).setCell ⟨N1,2,none⟩ b2).setCell ⟨N1,3,none⟩ b3).setCell ⟨N1,4,none⟩ b4).setCell ⟨N1,5,none⟩ b5).setCell ⟨N1,6,none⟩ b6):=by
  have h1:Below w.heap.size w w1:=hbV.trans (hb1.mono hbV.size);refine ⟨below_set7 ((h1.mono hB).trans hst.below) (Nat.le_trans hB hN) _ _ _ _ _ _ _,?_⟩;have ho:Off (fun b=>b=N1) wr (((((((wr.setCell ⟨N1,0,none⟩ b0).setCell ⟨N1,1,none⟩ b1).setCell ⟨N1,2,none⟩ b2).setCell ⟨N1,3,none⟩ b3).setCell ⟨N1,4,none⟩ b4).setCell ⟨N1,5,none⟩ b5).setCell ⟨N1,6,none⟩ b6):=off_set7 (S:=fun b=>b=N1) rfl _ _ _ _ _ _ _;have h2:Off (Own p nv mv) w wr:=(Off.of_below h1).trans hst.off;exact ⟨Nat.le_trans h2.size ho.size,fun i hi hn=>(ho.block i (Nat.lt_of_lt_of_le hi h2.size) (by omega)).trans (h2.block i hi hn)⟩
theorem eg_keep {B p:Nat} {nv mv:Value} {s:St} {wr:World} {N1:Nat} (h:StAt B wr p nv mv s) (hN:∀ k,Own p nv mv k->k<N1) (b0 b1 b2 b3 b4 b5 b6:Value):StAt B (((((((wr.setCell ⟨N1,0,none⟩ b0).setCell ⟨N1,1,none⟩ b1).setCell ⟨N1,2,none⟩ b2).setCell ⟨N1,3,none⟩ b3).setCell ⟨N1,4,none⟩ b4).setCell ⟨N1,5,none⟩ b5).setCell ⟨N1,6,none⟩ b6) p nv mv s:=by
  have ho:Off (fun b=>b=N1) wr (((((((wr.setCell ⟨N1,0,none⟩ b0).setCell ⟨N1,1,none⟩ b1).setCell ⟨N1,2,none⟩ b2).setCell ⟨N1,3,none⟩ b3).setCell ⟨N1,4,none⟩ b4).setCell ⟨N1,5,none⟩ b5).setCell ⟨N1,6,none⟩ b6):=off_set7 (S:=fun b=>b=N1) rfl _ _ _ _ _ _ _;exact h.keep fun i hi hw=>ho.block i hi (by have:=hN i hw;omega)
theorem eg_row {B B':Nat} {e:TypeId} {sz:Nat} {v:Value} {n:Nat} {xs:List Value} {wr:World} {N1:Nat} (h:wr.ownsRow B' e sz v n xs) (hN:N1<B') (hB:B<=B') (b0 b1 b2 b3 b4 b5 b6:Value):World.ownsRow (((((((wr.setCell ⟨N1,0,none⟩ b0).setCell ⟨N1,1,none⟩ b1).setCell ⟨N1,2,none⟩ b2).setCell ⟨N1,3,none⟩ b3).setCell ⟨N1,4,none⟩ b4).setCell ⟨N1,5,none⟩ b5).setCell ⟨N1,6,none⟩ b6) B e sz v n xs:=by
  have ho:Off (fun b=>b=N1) wr (((((((wr.setCell ⟨N1,0,none⟩ b0).setCell ⟨N1,1,none⟩ b1).setCell ⟨N1,2,none⟩ b2).setCell ⟨N1,3,none⟩ b3).setCell ⟨N1,4,none⟩ b4).setCell ⟨N1,5,none⟩ b5).setCell ⟨N1,6,none⟩ b6):=off_set7 (S:=fun b=>b=N1) rfl _ _ _ _ _ _ _;exact own_less (own_off h (fun g hg e=>by have:=(h.lt g hg).1;omega) ho) hB
end Go.Proofs.YtjnckfchgcmmpaaGreatDoor
namespace Go.Proofs.YtjnckfchgcmmpaaGreatDoor
open Go.RowKit
set_option maxRecDepth 10000
set_option maxHeartbeats 8000000
theorem egCall_any (f fb:Nat) (hef:Enters Tryz.prog f) (heb:Enters Tryz.prog fb) (ck co cK cv cx cy pl:Int) (ta xa ba ra:Option Addr) (tn tc xn xc bn bc rn rc:Nat) (TR:List Tl->Bool->Prop) (B p:Nat) (nv mv:Value) (s:St) (w:World) (hS:StAt B w p nv mv s)
    (hTd:∀ w',Below w.heap.size w w'->Calls Tryz.prog f #[.agg #[.int .i64 ck,.int .i64 co,.slice ta tn tc,.int .i64 cK,.int .i64 cv,.int .i64 cx,.int .i64 cy,.slice xa xn xc,.slice ba bn bc,.slice ra rn rc],.pointer (some ⟨p,0,none⟩)] w' fun e w2=>∃ T ok,TR T ok/\T.length<=1000000/\TdOut T ok w' e w2)
    (hBl:∀ w',Below w.heap.size w w'->Calls Tryz.prog fb #[.agg #[.int .i64 ck,.int .i64 co,.slice ta tn tc,.int .i64 cK,.int .i64 cv,.int .i64 cx,.int .i64 cy,.slice xa xn xc,.slice ba bn bc,.slice ra rn rc],.pointer (some ⟨p,0,none⟩)] w' fun e w2=>∃ lo hi a n cp,e=.returned (.agg #[.int .i64 lo,.int .i64 hi,.slice a n cp])/\Below w'.heap.size w' w2) :
    Calls Tryz.prog 32 #[.agg #[.func (.func f) #[] #[],.func (.func fb) #[] #[],.int .i64 ck,.int .i64 co,.slice ta tn tc,.int .i64 cK,.int .i64 cv,.int .i64 cx,.int .i64 cy,.slice xa xn xc,.slice ba bn bc,.slice ra rn rc,.int .i64 pl],.pointer (some ⟨p,0,none⟩)] w (EcOut B p nv mv s pl TR w):=by
  obtain ⟨W,hW⟩:∃ W,w.alloc (.cells #[.func (.func f) #[] #[],.func (.func fb) #[] #[],.int .i64 ck,.int .i64 co,.slice ta tn tc,.int .i64 cK,.int .i64 cv,.int .i64 cx,.int .i64 cy,.slice xa xn xc,.slice ba bn bc,.slice ra rn rc,.int .i64 pl] 89)=W:=⟨_,rfl⟩;obtain ⟨V,hV⟩:∃ V,W.alloc (.cells #[.int .i64 0,.int .i64 0,.int .i64 0,.int .i64 0,.int .i64 0,.int .i64 0,.slice none 0 0] 60)=V:=⟨_,rfl⟩;have hb0:Below w.heap.size w W:=bAe hW;have hb1:Below W.heap.size W V:=bAe hV;have g0:W.heap[w.heap.size]?=some (.cells #[.func (.func f) #[] #[],.func (.func fb) #[] #[],.int .i64 ck,.int .i64 co,.slice ta tn tc,.int .i64 cK,.int .i64 cv,.int .i64 cx,.int .i64 cy,.slice xa xn xc,.slice ba bn bc,.slice ra rn rc,.int .i64 pl] 89 (0,0)):=hAe hW
  have g1:V.heap[W.heap.size]?=some (.cells #[.int .i64 0,.int .i64 0,.int .i64 0,.int .i64 0,.int .i64 0,.int .i64 0,.slice none 0 0] 60 (0,0)):=hAe hV;have g0V:=(hb1.block _ (hLt g0)).trans g0;have hbV:Below w.heap.size w V:=bl_next hb0 hb1;have HBV:Hid (Below w.heap.size w V):=hbV;obtain ⟨N0,hN0⟩:∃ N,w.heap.size=N:=⟨_,rfl⟩;obtain ⟨N1,hN1⟩:∃ N,W.heap.size=N:=⟨_,rfl⟩;rw [hN0] at g0V;rw [hN1] at g1;have HNs:Hid (w.heap.size=N0/\N0<N1/\N1<V.heap.size):=by
    have h1:=(hLt g0);have h2:=(hLt g1);exact ⟨hN0,by omega,h2⟩
  -- what is kept while the store alone changes
  have HK0:Hid (∀ w',Off (Own p nv mv) V w'->w'.heap[N0]?=some (.cells #[.func (.func f) #[] #[],.func (.func fb) #[] #[],.int .i64 ck,.int .i64 co,.slice ta tn tc,.int .i64 cK,.int .i64 cv,.int .i64 cx,.int .i64 cy,.slice xa xn xc,.slice ba bn bc,.slice ra rn rc,.int .i64 pl] 89 (0,0))):=fun w' ho=>(ho.block _ (by have:=HNs.out;omega) (fun e=>by have:=(hS.old e).1;have:=HNs.out;omega)).trans g0V
  have HK1:Hid (∀ w',Off (Own p nv mv) V w'->w'.heap[N1]?=some (.cells #[.int .i64 0,.int .i64 0,.int .i64 0,.int .i64 0,.int .i64 0,.int .i64 0,.slice none 0 0] 60 (0,0))):=fun w' ho=>(ho.block _ (by have:=HNs.out;omega) (fun e=>by have:=(hS.old e).1;have:=HNs.out;omega)).trans g1
  have HSV:Hid (StAt B V p nv mv s):=hS.below hbV;have HOl:Hid (∀ k,Own p nv mv k->k<N0):=fun k hk=>by have:=(hS.old hk).1;have:=HNs.out;omega
  have HBN:Hid (B<=N0/\1<=B):=⟨by have:=hS.size;have:=HNs.out;omega,hS.b1⟩;have HTd:Hid (Calls Tryz.prog f #[.agg #[.int .i64 ck,.int .i64 co,.slice ta tn tc,.int .i64 cK,.int .i64 cv,.int .i64 cx,.int .i64 cy,.slice xa xn xc,.slice ba bn bc,.slice ra rn rc],.pointer (some ⟨p,0,none⟩)] V fun e w2=>∃ T ok,TR T ok/\T.length<=1000000/\TdOut T ok V e w2):=hTd V hbV;have HBl:Hid (∀ w',Below w.heap.size w w'->Calls Tryz.prog fb #[.agg #[.int .i64 ck,.int .i64 co,.slice ta tn tc,.int .i64 cK,.int .i64 cv,.int .i64 cx,.int .i64 cy,.slice xa xn xc,.slice ba bn bc,.slice ra rn rc],.pointer (some ⟨p,0,none⟩)] w' fun e w2=>∃ lo hi a n cp,e=.returned (.agg #[.int .i64 lo,.int .i64 hi,.slice a n cp])/\Below w'.heap.size w' w2):=hBl;obtain ⟨c0,c1,c2,c3,c4,c5,c6,c7,c8,c9,c10,c11,c12⟩:=cells13 g0V;unfold Enters at hef heb
  clear hb0 hb1 g0 g1 g0V hbV hS hTd hBl;go_enter Tryz.func32,Tryz.ntmps32;go_upto_region 1 with fail
  try rw [hW]
  try rw [hV]
  try rw [hN0]
  try rw [hN1]
  clear hW hV hN0 hN1;go_upto_region 2 with (go_at_fn f;refine cA HTd.out ?_;intro e w1 hh;(obtain ⟨T,ok,hTR,hTl,v1,rfl,ho1,hb1⟩:=hh));obtain ⟨a1,cp1,rfl⟩:=own_slice ho1;have HTR:Hid (TR T ok):=hTR;have HO1:Hid (w1.ownsRow V.heap.size 60 7 (.slice a1 T.length cp1) T.length (tls T)):=ho1;have HB1:Hid (Below V.heap.size V w1):=hb1;have HS1:Hid (StAt B w1 p nv mv s):=HSV.out.below hb1;clear hTR ho1 hb1 HTd HSV c0 c1 c2 c3 c4 c5 c6 c7 c8 c9 c10 c11 c12
  cases ok with
  | false =>
    have hb1w:Below w.heap.size w w1:=HBV.out.trans (HB1.out.mono HBV.out.size);have HB1w:Hid (Below w.heap.size w w1):=hb1w
    have HC0:Hid (∀ w',Below w1.heap.size w1 w'->w'.cell? ⟨N0,0,none⟩=some (.func (.func f) #[] #[])/\w'.cell? ⟨N0,1,none⟩=some (.func (.func fb) #[] #[])/\w'.cell? ⟨N0,2,none⟩=some (.int .i64 ck)/\w'.cell? ⟨N0,3,none⟩=some (.int .i64 co)/\w'.cell? ⟨N0,4,none⟩=some (.slice ta tn tc)/\w'.cell? ⟨N0,5,none⟩=some (.int .i64 cK)/\w'.cell? ⟨N0,6,none⟩=some (.int .i64 cv)/\w'.cell? ⟨N0,7,none⟩=some (.int .i64 cx)/\w'.cell? ⟨N0,8,none⟩=some (.int .i64 cy)/\w'.cell? ⟨N0,9,none⟩=some (.slice xa xn xc)/\w'.cell? ⟨N0,10,none⟩=some (.slice ba bn bc)/\w'.cell? ⟨N0,11,none⟩=some (.slice ra rn rc)/\w'.cell? ⟨N0,12,none⟩=some (.int .i64 pl)):=fun w' hb=>cells13 (HK0.out w' ((Off.of_below HB1.out).trans (Off.of_below hb)))
    go_upto_region 3 with fail
    refine wp_region_T (fun _=>True) (fun w'=>w'.cell? ⟨N0,0,none⟩=some (.func (.func f) #[] #[])/\w'.cell? ⟨N0,1,none⟩=some (.func (.func fb) #[] #[])/\w'.cell? ⟨N0,2,none⟩=some (.int .i64 ck)/\w'.cell? ⟨N0,3,none⟩=some (.int .i64 co)/\w'.cell? ⟨N0,4,none⟩=some (.slice ta tn tc)/\w'.cell? ⟨N0,5,none⟩=some (.int .i64 cK)/\w'.cell? ⟨N0,6,none⟩=some (.int .i64 cv)/\w'.cell? ⟨N0,7,none⟩=some (.int .i64 cx)/\w'.cell? ⟨N0,8,none⟩=some (.int .i64 cy)/\w'.cell? ⟨N0,9,none⟩=some (.slice xa xn xc)/\w'.cell? ⟨N0,10,none⟩=some (.slice ba bn bc)/\w'.cell? ⟨N0,11,none⟩=some (.slice ra rn rc)/\w'.cell? ⟨N0,12,none⟩=some (.int .i64 pl)) [11,12] (by kernel_rfl) ⟨trivial,HC0.out _ (Below.refl _ _).drew⟩ (fun hHeld=>?_)
    refine tB (i:=0) (oi:=⟨some 26,.fieldAddr 89 (.tmp 2) 2,_,_,_,_⟩) (v:=?v_ad) ?hy_ad (by assumption) ?rest_ad
    case hy_ad=>(intro w hSw;(try dsimp only at hSw);go_simp;try (with_reducible rfl))
    try simp only [Act.put,q1,q2,q3]
    refine tA (i:=1) (oi:=⟨some 27,.load 3 (.tmp 26),_,_,_,_⟩) (v:=?v_ae) ?hy_ae (by assumption) ?rest_ae
    case hy_ae=>(intro w hSw;(try dsimp only at hSw);go_simp;try (with_reducible rfl))
    try simp only [Act.put,q1,q2,q3]
    refine tB (i:=2) (oi:=⟨some 28,.fieldAddr 89 (.tmp 2) 0,_,_,_,_⟩) (v:=?v_ag) ?hy_ag (by assumption) ?rest_ag
    case hy_ag=>(intro w hSw;(try dsimp only at hSw);go_simp;try (with_reducible rfl))
    try simp only [Act.put,q1,q2,q3]
    refine tB (i:=3) (oi:=⟨some 29,.fieldAddr 87 (.tmp 28) 1,_,_,_,_⟩) (v:=?v_af) ?hy_af (by assumption) ?rest_af
    case hy_af=>(intro w hSw;(try dsimp only at hSw);go_simp;try (with_reducible rfl))
    try simp only [Act.put,q1,q2,q3]
    refine tA (i:=4) (oi:=⟨some 30,.load 85 (.tmp 29),_,_,_,_⟩) (v:=?v_ah) ?hy_ah (by assumption) ?rest_ah
    case hy_ah=>(intro w hSw;(try dsimp only at hSw);go_simp;try (with_reducible rfl))
    try simp only [Act.put,q1,q2,q3]
    refine tB (i:=5) (oi:=⟨some 31,.fieldAddr 89 (.tmp 2) 1,_,_,_,_⟩) (v:=?v_ai) ?hy_ai (by assumption) ?rest_ai
    case hy_ai=>(intro w hSw;(try dsimp only at hSw);go_simp;try (with_reducible rfl))
    try simp only [Act.put,q1,q2,q3]
    refine tA (i:=6) (oi:=⟨some 32,.load 56 (.tmp 31),_,_,_,_⟩) (v:=?v_ab) ?hy_ab (by assumption) ?rest_ab
    case hy_ab=>(intro w hSw;(try dsimp only at hSw);go_simp;try (with_reducible rfl))
    try simp only [Act.put,q1,q2,q3]
    refine tB (i:=7) (oi:=⟨some 33,.move (.tmp 1),_,_,_,_⟩) (v:=?v_aa) ?hy_aa (by assumption) ?rest_aa
    case hy_aa=>(intro w hSw;(try dsimp only at hSw);go_simp;try (with_reducible rfl))
    try simp only [Act.put,q1,q2,q3]
    refine wpAnyT_one (i:=8) (o:=⟨some 34,.call { callee:=.value (.tmp 30),args:=#[(.tmp 32),(.tmp 33)],argTypes:=#[56,32] },_,_,_,_⟩) (by kernel_rfl) rfl (fun K hK=>?_);go_simp;go_at_fn fb;refine cA (HBl.out _ (HB1w.out.trans ((Below.refl _ _).drew.mono HB1w.out.size))) ?_;rintro e w2 ⟨lo,hi,ba2,bn2,bcp2,rfl,hb2⟩;go_wp2_with fail
    have hb2':Below w1.heap.size w1 w2:=(Below.refl _ _).drew.trans hb2;have HB2:Hid (Below w1.heap.size w1 w2):=hb2';clear hHeld;have hHeld:True/\_:=⟨trivial,HC0.out _ hb2'⟩;refine hK.out _ _ ⟨trivial,fun _=>hHeld.2⟩ ?_;clear hK K hb2 hb2';have h1:=HK1.out w2 ((Off.of_below HB1.out).trans (Off.of_below HB2.out));obtain ⟨r0,r1,r2,r3,r4,r5,r6⟩:=cells7 h1;obtain ⟨f0,f1,f2,f3,f4,f5,f6⟩:=frozen7 h1;refine tB (i:=9) (oi:=⟨some 35,.build 60 #[(0,(.tmp 27)),(2,(.tmp 34))],_,_,_,_⟩) (v:=?v_ac) ?hy_ac (by assumption) ?rest_ac
    case hy_ac=>(intro w hSw;(try dsimp only at hSw);go_simp;try (with_reducible rfl))
    try simp only [Act.put,q1,q2,q3]
    refine tB (i:=10) (oi:=⟨some 4,.assign ((.const (.slice none 0 0))),_,_,_,_⟩) (v:=?v_aj) ?hy_aj (by assumption) ?rest_aj
    case hy_aj=>(intro w hSw;(try dsimp only at hSw);go_simp;try (with_reducible rfl))
    try simp only [Act.put,q1,q2,q3]
    refine wpAnyT_late (i:=11) (o:=⟨none,.store 60 (.tmp 5) (.tmp 35),_,_,_,_⟩) (by kernel_rfl) rfl (by kernel_rfl) (fun K hK=>?_);go_simp;refine hK.out _ _ ?sh_al ?rest_al
    case sh_al=>((try dsimp only);all_goals trivial)
    clear hK K;try simp only [Act.put,q1,q2,q3]
    refine wpAnyT_late (i:=12) (o:=⟨some 6,.assign ((.const (.bool false))),_,_,_,_⟩) (by kernel_rfl) rfl (by kernel_rfl) (fun K hK=>?_);go_simp;refine hK.out _ _ ?sh_ak ?rest_ak
    case sh_ak=>((try dsimp only);all_goals trivial)
    clear hK K;try simp only [Act.put,q1,q2,q3]
    refine wpAnyT_done (by kernel_rfl) ?_ _;obtain ⟨Z,hZ⟩:∃ Z,(((((((w2.setCell ⟨N1,0,none⟩ (.int .i64 pl)).setCell ⟨N1,1,none⟩ (.int .i64 0)).setCell ⟨N1,2,none⟩ (.int .i64 0)).setCell ⟨N1,3,none⟩ (.int .i64 0)).setCell ⟨N1,4,none⟩ (.int .i64 lo)).setCell ⟨N1,5,none⟩ (.int .i64 hi)).setCell ⟨N1,6,none⟩ (.slice ba2 bn2 bcp2))=Z:=⟨_,rfl⟩;have gZ:Z.heap[N1]?=some (.cells #[.int .i64 pl,.int .i64 0,.int .i64 0,.int .i64 0,.int .i64 lo,.int .i64 hi,.slice ba2 bn2 bcp2] 60 (0,0)):=by rw [<-hZ];exact set7 h1 _ _ _ _ _ _ _
    have HR:Hid (StAt B Z p nv mv s/\Stp B p nv mv w Z):=by
      have hx:=HNs.out;have hy:=HB1.out.size;have hz:=HBN.out;have hb2w:Stp B p nv mv w1 w2:=Stp.of_below HB2.out (by omega);rw [<-hZ];exact ⟨eg_keep (HS1.out.below HB2.out) (fun k hk=>by have:=HOl.out k hk;omega) _ _ _ _ _ _ _,eg_end HBV.out HB1.out hb2w (by omega) (by omega) _ _ _ _ _ _ _⟩
    obtain ⟨k0,k1,k2,k3,k4,k5,k6⟩:=cells7 gZ;rw [hZ];clear h1 gZ hZ hHeld r0 r1 r2 r3 r4 r5 r6 f0 f1 f2 f3 f4 f5 f6;go_wp2_with fail
    refine bodyPost_ret (v:=.tuple #[.slice none 0 0,.agg #[.int .i64 pl,.int .i64 0,.int .i64 0,.int .i64 0,.int .i64 lo,.int .i64 hi,.slice ba2 bn2 bcp2],.bool false]) (by simp [results,Tryz.results32,go_sem,k0,k1,k2,k3,k4,k5,k6];try rfl) rfl ?_
    exact ⟨T,false,s,[],false,HTR.out,.inl ⟨rfl,rfl,rfl,rfl⟩,⟨_,⟨pl,0,0,0,lo,hi,ba2,bn2,bcp2⟩,rfl,(fun h=>by cases h),World.ownsRow_nil _ _ _ _⟩,HR.out.1,HR.out.2⟩
  | true=>
  go_upto_region 6 with fail
  go_loopw [9,38] (fun dv iv wr=>∃ k:Nat,iv=.int .i64 (k:Int)/\k<=T.length/\Hid (∀ j (h:j<T.length),j<k->(stT s T j).may T[j].k T[j].x T[j].v=true)/\Hid (wr.ownsRow w1.heap.size 60 7 dv (dnL pl s T k).length (tls (dnL pl s T k)))/\Hid (StAt B wr p nv mv (stT s T k))/\Hid (Stp B p nv mv w1 wr)) (fun _ iv _=>T.length-(intOf iv).toNat)
  case atStart=>exact ⟨0,rfl,Nat.zero_le _,(fun j _ h=>absurd h (Nat.not_lt_zero _)),World.ownsRow_nil _ _ _ _,HS1,Stp.refl _ _ _ _ _⟩
  case round=>
  obtain ⟨k,rfl,hk,HMy,HDn,HSk,HSt⟩:=hrel;rename World=>wr;obtain ⟨da,dc,rfl⟩:=own_slice HDn.out;have HOV:Hid (Off (Own p nv mv) V wr):=(Off.of_below HB1.out).trans HSt.out.off;have HSz:Hid (w1.heap.size<=wr.heap.size/\V.heap.size<=w1.heap.size):=⟨HSt.out.off.size,HB1.out.size⟩
  by_cases hkn:k<T.length
  case pos=>
    have hkI:(k:Int)<(T.length:Int):=by omega
    have hT1:wr.ownsRow V.heap.size 60 7 (.slice a1 T.length cp1) T.length (tls T):=own_off HO1.out (fun g hg e=>by have:=(HO1.out.lt g hg).1;have:=HOl.out g e;have:=HNs.out;omega) HSt.out.off;obtain ⟨g,rfl,hgB,hg,q0,q1,q2,q3,q4,q5,q6⟩:=tls_cell hT1 k hkn;have HNx:Hid (∀ h:k<T.length,stT s T (k+1)=(stT s T k).cut T[k].k T[k].x T[k].v):=fun h=>stT_next h
    have HDx:Hid (∀ h:k<T.length,dnL pl s T (k+1)=dnL pl s T k++(if (stT s T k).went T[k].k T[k].x T[k].v then [{ T[k] with con:=pl }] else [])):=fun h=>dnL_next h
    have HMk:Hid (∀ b,(stT s T k).may T[k].k T[k].x T[k].v=b->b=true->∀ j (h:j<T.length),j<k+1->(stT s T j).may T[j].k T[j].x T[j].v=true):=fun b hb hbt j h hj=>by
      by_cases e:j=k
      · subst e
        rw [hb,hbt]
      · exact HMy.out j h (by omega)
    obtain ⟨⟨t0,t1,t2,t3,t4,t5,t6,t7,t8⟩,ht⟩:∃ t,T[k]=t:=⟨_,rfl⟩;rw [ht] at q0 q1 q2 q3 q4 q5 q6;have HTk:Hid (T[k]=⟨t0,t1,t2,t3,t4,t5,t6,t7,t8⟩):=ht;clear ht hT1;dsimp only at q0 q1 q2 q3 q4 q5 q6;obtain ⟨X,hX⟩:∃ X,wr.alloc (.cells #[.int .i64 t0,.int .i64 t1,.int .i64 t2,.int .i64 t3,.int .i64 t4,.int .i64 t5,.slice t6 t7 t8] 60)=X:=⟨_,rfl⟩;have hbX:Below wr.heap.size wr X:=bAe hX;have gX:X.heap[wr.heap.size]?=some (.cells #[.int .i64 t0,.int .i64 t1,.int .i64 t2,.int .i64 t3,.int .i64 t4,.int .i64 t5,.slice t6 t7 t8] 60 (0,0)):=hAe hX;obtain ⟨M,hM⟩:∃ M,wr.heap.size=M:=⟨_,rfl⟩;rw [hM] at gX;have HMs:Hid (wr.heap.size=M/\M<X.heap.size):=⟨hM,(hLt gX)⟩;have e12:X.cell? ⟨N0,12,none⟩=some (.int .i64 pl):=cell_of (HK0.out X (HOV.out.trans (Off.of_below hbX))) 12
    obtain ⟨y0,_,_,_,_,_,_⟩:=cells7 gX;have z0:X.frozen? ⟨M,0,none⟩=false:=(frozen7 gX).1;obtain ⟨Y,hY⟩:∃ Y,X.setCell ⟨M,0,none⟩ (.int .i64 pl)=Y:=⟨_,rfl⟩;have gY:Y.heap[M]?=some (.cells #[.int .i64 pl,.int .i64 t1,.int .i64 t2,.int .i64 t3,.int .i64 t4,.int .i64 t5,.slice t6 t7 t8] 60 (0,0)):=by
      rw [<-hY];exact heap_setCell_same X M 0 _ 60 _ gX
    have hbY:Below wr.heap.size wr Y:=by rw [<-hY];exact hbX.setCell (show wr.heap.size<=M from Nat.le_of_eq HMs.out.1) _
    have hSY:StAt B Y p nv mv (stT s T k):=HSk.out.below hbY;have HCt:Hid (Calls Tryz.prog 10 #[.pointer (some ⟨p,0,none⟩),.agg #[.int .i64 t1,.int .i64 t2,.int .i64 t3]] Y (CutOut B p nv mv (stT s T k) t1 t2 t3 Y)):=cut_any B p nv mv (stT s T k) t1 t2 t3 Y hSY;have HbY:Hid (Below wr.heap.size wr Y):=hbY;have HgY:Hid (Y.heap[M]?=some (.cells #[.int .i64 pl,.int .i64 t1,.int .i64 t2,.int .i64 t3,.int .i64 t4,.int .i64 t5,.slice t6 t7 t8] 60 (0,0))):=gY;obtain ⟨_,y1,y2,y3,_,_,_⟩:=cells7 gY;clear gX gY hbX hbY hSY hgB hg;go_upto_region 8 with fail
    try rw [hX,hM]
    clear hX hM q0 q1 q2 q3 q4 q5 q6;go_upto_region 9 with fail
    try rw [hY]
    clear hY e12 y0 z0;go_upto_region 10 with (go_at_call 10;refine cA HCt.out ?_;rintro e w3 ⟨rfl,hS3,hT3⟩);have HS3:Hid (StAt B w3 p nv mv ((stT s T k).cut t1 t2 t3)):=hS3;have hBY:B<=Y.heap.size:=by have:=HbY.out.size;have:=HBN.out.1;have:=HNs.out;have:=HSz.out;omega
    have HT3:Hid (Stp B p nv mv w1 w3):=⟨(HSt.out.next HbY.out (by have:=HBN.out.1;have:=HNs.out;have:=HSz.out;omega)).below.trans hT3.below,(HSt.out.next HbY.out (by have:=HBN.out.1;have:=HNs.out;have:=HSz.out;omega)).off.trans hT3.off⟩;have HG3:Hid (w3.heap[M]?=some (.cells #[.int .i64 pl,.int .i64 t1,.int .i64 t2,.int .i64 t3,.int .i64 t4,.int .i64 t5,.slice t6 t7 t8] 60 (0,0))):=(hT3.off.block M (hLt HgY.out) (fun e=>by have:=HOl.out M e;have:=HMs.out.1;have:=HSz.out;have:=HNs.out;omega)).trans HgY.out;have HD3:Hid (w3.ownsRow w1.heap.size 60 7 (.slice da (dnL pl s T k).length dc) (dnL pl s T k).length (tls (dnL pl s T k))):=own_off (own_below HDn.out HbY.out) (fun g hg e=>by have:=(HDn.out.lt g hg).1;have:=HOl.out g e;have:=HSz.out;have:=HNs.out;omega) hT3.off;clear hS3 hT3 y1 y2 y3 HCt hBY HbY HgY HSk HDn
    obtain ⟨m1,m2,m3,m4,m5,m6,m7⟩:=cells7 HG3.out;obtain ⟨wt,hwt⟩:∃ b,(stT s T k).went t1 t2 t3=b:=⟨_,rfl⟩;obtain ⟨my,hmy⟩:∃ b,(stT s T k).may t1 t2 t3=b:=⟨_,rfl⟩;rw [hwt,hmy]
    cases my with
    | false =>
      have HSn:Hid (StAt B w3 p nv mv (stT s T (k+1))):=by
        show StAt _ _ _ _ _ _;rw [HNx.out hkn,HTk.out];exact HS3.out
      have HMf:Hid ((stT s T k).may T[k].k T[k].x T[k].v=false):=by
        show _=_;rw [HTk.out];exact hmy
      have h1:=HK1.out w3 ((Off.of_below HB1.out).trans HT3.out.off);obtain ⟨r0,r1,r2,r3,r4,r5,r6⟩:=cells7 h1;obtain ⟨f0,f1,f2,f3,f4,f5,f6⟩:=frozen7 h1;obtain ⟨Z,hZ⟩:∃ Z,(((((((w3.setCell ⟨N1,0,none⟩ (.int .i64 pl)).setCell ⟨N1,1,none⟩ (.int .i64 t1)).setCell ⟨N1,2,none⟩ (.int .i64 t2)).setCell ⟨N1,3,none⟩ (.int .i64 t3)).setCell ⟨N1,4,none⟩ (.int .i64 t4)).setCell ⟨N1,5,none⟩ (.int .i64 t5)).setCell ⟨N1,6,none⟩ (.slice t6 t7 t8))=Z:=⟨_,rfl⟩;have gZ:Z.heap[N1]?=some (.cells #[.int .i64 pl,.int .i64 t1,.int .i64 t2,.int .i64 t3,.int .i64 t4,.int .i64 t5,.slice t6 t7 t8] 60 (0,0)):=by rw [<-hZ];exact set7 h1 _ _ _ _ _ _ _
      have HR:Hid (StAt B Z p nv mv (stT s T (k+1))/\Stp B p nv mv w Z/\Z.ownsRow w.heap.size 60 7 (.slice da (dnL pl s T k).length dc) (dnL pl s T k).length (tls (dnL pl s T k))):=by
        have hx:=HNs.out;have hy:=HSz.out;have hz:=HBN.out;rw [<-hZ];exact ⟨eg_keep HSn.out (fun k hk=>by have:=HOl.out k hk;omega) _ _ _ _ _ _ _,eg_end HBV.out HB1.out HT3.out (by omega) (by omega) _ _ _ _ _ _ _,eg_row HD3.out (by omega) (by omega) _ _ _ _ _ _ _⟩
      obtain ⟨k0,k1,k2,k3,k4,k5,k6⟩:=cells7 gZ;clear h1 gZ hwt hmy;go_upto_region 11 with fail
      go_region;all_goals (try rw [hZ])
      all_goals go_wp2_with fail
      have HRd:Hid (StAt B Z.drew p nv mv (stT s T (k+1))/\Stp B p nv mv w Z.drew/\Z.drew.ownsRow w.heap.size 60 7 (.slice da (dnL pl s T k).length dc) (dnL pl s T k).length (tls (dnL pl s T k))):=⟨HR.out.1.below (Below.refl _ _).drew,HR.out.2.1.next (Below.refl _ _).drew (by have:=HNs.out.1;have:=HBN.out.1;omega),own_below HR.out.2.2 (Below.refl _ _).drew⟩
      all_goals (refine bodyPost_ret (v:=.tuple #[.slice da (dnL pl s T k).length dc,.agg #[.int .i64 pl,.int .i64 t1,.int .i64 t2,.int .i64 t3,.int .i64 t4,.int .i64 t5,.slice t6 t7 t8],.bool false]) (by simp [results,Tryz.results32,go_sem,k0,k1,k2,k3,k4,k5,k6];try rfl) rfl ?_;exact ⟨T,true,_,_,false,HTR.out,.inr ⟨rfl,k,Nat.le_of_lt hkn,(fun j h hj=>HMy.out j h hj),rfl,.inr ⟨hkn,HMf.out,rfl,rfl⟩⟩,⟨_,⟨pl,t1,t2,t3,t4,t5,t6,t7,t8⟩,rfl,(fun h=>by cases h),HRd.out.2.2⟩,HRd.out.1,HRd.out.2.1⟩)
    | true =>
      have HMn:Hid (∀ j (h:j<T.length),j<k+1->(stT s T j).may T[j].k T[j].x T[j].v=true):=HMk.out true (by rw [HTk.out];exact hmy) rfl;have HSn:Hid (StAt B w3 p nv mv (stT s T (k+1))):=by
        show StAt _ _ _ _ _ _;rw [HNx.out hkn,HTk.out];exact HS3.out
      cases wt with
      | false =>
        have HDn:Hid (w3.ownsRow w1.heap.size 60 7 (.slice da (dnL pl s T k).length dc) (dnL pl s T (k+1)).length (tls (dnL pl s T (k+1)))):=by
          show World.ownsRow _ _ _ _ _ _ _;have e1:dnL pl s T (k+1)=dnL pl s T k:=by
            rw [HDx.out hkn,HTk.out];dsimp only;rw [hwt];simp
          rw [e1];exact HD3.out
        clear hwt hmy m1 m2 m3 m4 m5 m6 m7;go_wp2_with fail
        go_roundw
        case rel=>exact ⟨k+1,by go_num,hkn,HMn,HDn,HSn,HT3⟩
        case measure=>simp [intOf];omega
      | true =>
        have hdl:=dnL_len pl s T k;have HE1:Hid (dnL pl s T (k+1)=dnL pl s T k++[⟨pl,t1,t2,t3,t4,t5,t6,t7,t8⟩]):=by
          show _=_;rw [HDx.out hkn,HTk.out];dsimp only;rw [hwt];simp
        clear hwt hmy;go_wp2_with (at_builtin;refine append_els w3 [.int .i64 pl,.int .i64 t1,.int .i64 t2,.int .i64 t3,.int .i64 t4,.int .i64 t5,.slice t6 t7 t8] 7 rfl (by decide) rfl (.tmp 57) (.tmp 59) 43 60 (.agg #[.int .i64 0,.int .i64 0,.int .i64 0,.int .i64 0,.int .i64 0,.int .i64 0,.slice none 0 0]) 72 rfl und43 infoCause rfl w1.heap.size _ _ _ (by rfl) HD3.out (tl_one ⟨pl,t1,t2,t3,t4,t5,t6,t7,t8⟩) _ rfl (by rfl) (by unfold maxLen;omega) (by omega) HT3.out.off.size ?_;intro v4 w4 ho4 hg4 hn4);have HDn:Hid (w4.ownsRow w1.heap.size 60 7 v4 (dnL pl s T (k+1)).length (tls (dnL pl s T (k+1)))):=by
          show World.ownsRow _ _ _ _ _ _ _;rw [HE1.out,List.length_append,tls_append,tls_one];exact ho4
        have hb4:Below w1.heap.size w3 w4:=(((Below.refl _ _).alloc (Nat.le_refl _) _).mono HT3.out.off.size).grown hg4 (by have:=HT3.out.off.size;simp;omega) (fun g hg=>(HD3.out.lt g hg).1);have hoff4:Off (Own p nv mv) w1 w4:=⟨Nat.le_trans HT3.out.off.size hb4.size,fun i hi hn=>(hb4.block i hi).trans (HT3.out.off.block i hi hn)⟩;have HT4:Hid (Stp B p nv mv w1 w4):=⟨HT3.out.below.trans (hb4.mono (by have:=HBN.out.1;have:=HNs.out;have:=HSz.out;omega)),hoff4⟩;have HS4:Hid (StAt B w4 p nv mv (stT s T (k+1))):=HSn.out.keep (fun i hi ho=>hb4.block i (by have:=HOl.out i ho;have:=HNs.out;have:=HSz.out;omega));clear ho4 hg4 hn4 hb4 hoff4 m1 m2 m3 m4 m5 m6 m7;go_wp2_with fail
        go_roundw
        case rel=>exact ⟨k+1,by go_num,hkn,HMn,HDn,HS4,HT4⟩
        case measure=>simp [intOf];omega
  case neg=>
  have hke:k=T.length:=by omega
  subst hke;have hkI:¬ (T.length:Int)<(T.length:Int):=by omega
  have h1:=HK1.out wr HOV.out;obtain ⟨r0,r1,r2,r3,r4,r5,r6⟩:=cells7 h1;obtain ⟨f0,f1,f2,f3,f4,f5,f6⟩:=frozen7 h1;obtain ⟨Z,hZ⟩:∃ Z,(((((((wr.setCell ⟨N1,0,none⟩ (.int .i64 0)).setCell ⟨N1,1,none⟩ (.int .i64 0)).setCell ⟨N1,2,none⟩ (.int .i64 0)).setCell ⟨N1,3,none⟩ (.int .i64 0)).setCell ⟨N1,4,none⟩ (.int .i64 0)).setCell ⟨N1,5,none⟩ (.int .i64 0)).setCell ⟨N1,6,none⟩ (.slice none 0 0))=Z:=⟨_,rfl⟩;have gZ:Z.heap[N1]?=some (.cells #[.int .i64 0,.int .i64 0,.int .i64 0,.int .i64 0,.int .i64 0,.int .i64 0,.slice none 0 0] 60 (0,0)):=by rw [<-hZ];exact set7 h1 _ _ _ _ _ _ _
  have HR:Hid (StAt B Z p nv mv (stT s T T.length)/\Stp B p nv mv w Z/\Z.ownsRow w.heap.size 60 7 (.slice da (dnL pl s T T.length).length dc) (dnL pl s T T.length).length (tls (dnL pl s T T.length))):=by
    have hx:=HNs.out;have hy:=HSz.out;have hz:=HBN.out;rw [<-hZ];exact ⟨eg_keep HSk.out (fun k hk=>by have:=HOl.out k hk;omega) _ _ _ _ _ _ _,eg_end HBV.out HB1.out HSt.out (by omega) (by omega) _ _ _ _ _ _ _,eg_row HDn.out (by omega) (by omega) _ _ _ _ _ _ _⟩
  obtain ⟨k0,k1,k2,k3,k4,k5,k6⟩:=cells7 gZ;clear h1 gZ;go_wp2_with fail
  try rw [hZ]
  refine bodyPost_ret (v:=.tuple #[.slice da (dnL pl s T T.length).length dc,.agg #[.int .i64 0,.int .i64 0,.int .i64 0,.int .i64 0,.int .i64 0,.int .i64 0,.slice none 0 0],.bool true]) (by simp [results,Tryz.results32,go_sem,k0,k1,k2,k3,k4,k5,k6];try rfl) rfl ?_
  exact ⟨T,true,_,_,true,HTR.out,.inr ⟨rfl,T.length,Nat.le_refl _,(fun j h hj=>HMy.out j h hj),rfl,.inl ⟨rfl,rfl,rfl⟩⟩,⟨_,⟨0,0,0,0,0,0,none,0,0⟩,rfl,(fun _=>rfl),HR.out.2.2⟩,HR.out.1,HR.out.2.1⟩
theorem plT_next {L:List Ct} {k:Nat} (hk:k<L.length):(L.take (k+1)).map plT=(L.take k).map plT++[plT L[k]]:=by
  rw [List.take_succ_eq_append_getElem hk,List.map_append];rfl
theorem cts_cell {w:World} {B:Nat} {a:Option Addr} {cap:Nat} {L:List Ct} (h:w.ownsRow B 41 3 (.slice a L.length cap) L.length (cts L)) (j:Nat) (hj:j<L.length):∃ g,a=some ⟨g,0,none⟩/\g<w.heap.size/\w.cell? ⟨g,j*3,none⟩=some (.int .i64 L[j].k)/\w.cell? ⟨g,j*3+1,none⟩=some (.int .i64 L[j].x)/\w.cell? ⟨g,j*3+2,none⟩=some (.int .i64 L[j].v):=by
  rcases own_cells h with ⟨_,h0⟩ | ⟨g,cp,e,_,hg,_,hc⟩
  · omega
  · injection e with e1 _ _
    obtain ⟨c1,c2,c3⟩:=cts_get L j hj;exact ⟨g,e1,hg,hc _ _ c1,hc _ _ c2,hc _ _ c3⟩
theorem egPlain_any (p:Nat) (nv mv:Value) (s:St) (w:World) (hst:∃ Bs,StAt Bs w p nv mv s) (hown:∀ k,Own p nv mv k->k<w.heap.size) (htz:Tz w) (c:Md.Cn) (vt vx vb vr:Value) (hC:CnAt w c vt vx vb vr) (hl:(cutR s.now c).1.length<=1000000):Calls Tryz.prog 78 #[cnVal c vt vx vb vr,.pointer (some ⟨p,0,none⟩)] w (TdOut ((cutR s.now c).1.map plT) (cutR s.now c).2 w):=by
  obtain ⟨W,hW⟩:∃ W,w.alloc (.cells #[.int .i64 c.kind,.int .i64 c.op,vt,.int .i64 c.k,.int .i64 c.v,.int .i64 c.x,.int .i64 c.y,vx,vb,vr] 56)=W:=⟨_,rfl⟩;have hb0:Below w.heap.size w W:=bAe hW;have g0:W.heap[w.heap.size]?=some (.cells #[.int .i64 c.kind,.int .i64 c.op,vt,.int .i64 c.k,.int .i64 c.v,.int .i64 c.x,.int .i64 c.y,vx,vb,vr] 56 (0,0)):=hAe hW;have hw0:0<w.heap.size:=Nat.lt_of_le_of_lt (Nat.zero_le p) (hown p (.inl rfl));obtain ⟨Bs,hS⟩:=hst;have HCu:=cuts_any p nv mv s W ⟨Bs,hS.below hb0⟩ (fun k hk=>Nat.lt_of_lt_of_le (hown k hk) hb0.size) (htz.below hb0 hw0) c vt vx vb vr (hC.below hb0);obtain ⟨L,hL⟩:∃ L,(cutR s.now c).1=L:=⟨_,rfl⟩;obtain ⟨ok,hok⟩:∃ ok,(cutR s.now c).2=ok:=⟨_,rfl⟩;unfold CuOut at HCu;rw [hL,hok] at HCu;rw [hL] at hl ⊢;rw [hok]
  have HCu1:Hid (Calls Tryz.prog 102 #[.agg #[.int .i64 c.kind,.int .i64 c.op,vt,.int .i64 c.k,.int .i64 c.v,.int .i64 c.x,.int .i64 c.y,vx,vb,vr],.pointer (some ⟨p,0,none⟩)] W fun e w'=>∃ v,e=.returned (.tuple #[v,.bool ok])/\w'.ownsRow W.heap.size 41 3 v L.length (cts L)/\Below W.heap.size W w'):=HCu;obtain ⟨p0,p1,p2,p3,p4,p5,p6,p7,p8,p9⟩:=cells10 g0;obtain ⟨ta,tc,rfl,_⟩:=id hC.t;obtain ⟨xa,xc,rfl,_⟩:=id hC.x;obtain ⟨ba,bc,rfl,_⟩:=id hC.b;obtain ⟨ra,rc,rfl,_⟩:=id hC.r;have HB0:Hid (Below w.heap.size w W):=hb0;clear HCu hS hown htz hC g0 hb0 hL hok hw0;unfold cnVal;go_enter Tryz.func78,Tryz.ntmps78;go_upto_region 1 with fail
  try rw [hW]
  clear hW;go_upto_region 3 with (go_at_call 102;refine cA HCu1.out ?_;rintro e w1 ⟨v1,rfl,ho1,hb1⟩);obtain ⟨a1,c1,rfl,_⟩:=egOwn_slice ho1;have HO1:Hid (w1.ownsRow W.heap.size 41 3 (.slice a1 L.length c1) L.length (cts L)):=ho1;have HB1:Hid (Below W.heap.size W w1):=hb1;clear HCu1 p0 p1 p2 p3 p4 p5 p6 p7 p8 p9 ho1 hb1;go_wp2_with fail
  go_loopw [8,19] (fun ov iv wr=>∃ k:Nat,iv=.int .i64 (k:Int)/\k<=L.length/\Hid (wr.ownsRow w1.heap.size 60 7 ov ((L.take k).map plT).length (tls ((L.take k).map plT)))/\Hid (Below w1.heap.size w1 wr)) (fun _ iv _=>L.length-(intOf iv).toNat)
  case atStart=>exact ⟨0,rfl,Nat.zero_le _,World.ownsRow_nil _ _ _ _,Below.refl _ _⟩
  case round=>
  obtain ⟨k,rfl,hk,HOr,HBr⟩:=hrel;rename World=>wr;obtain ⟨oa,oc,rfl⟩:=own_slice HOr.out
  by_cases hkn:k<L.length
  case pos=>
    have hkI:(k:Int)<(L.length:Int):=by omega
    have hkl:((L.take k).map plT).length=k:=by rw [List.length_map,List.length_take];omega
    obtain ⟨g,rfl,hg,c0,c1',c2⟩:=cts_cell HO1.out k hkn;obtain ⟨q0,q1,q2⟩:wr.cell? ⟨g,k*3,none⟩=some (.int .i64 L[k].k)/\wr.cell? ⟨g,k*3+1,none⟩=some (.int .i64 L[k].x)/\wr.cell? ⟨g,k*3+2,none⟩=some (.int .i64 L[k].v):=⟨(HBr.out.cell (p:=⟨g,_,none⟩) hg).trans c0,(HBr.out.cell (p:=⟨g,_,none⟩) hg).trans c1',(HBr.out.cell (p:=⟨g,_,none⟩) hg).trans c2⟩;have HNx:Hid (plT L[k]=⟨0,L[k].k,L[k].x,L[k].v,0,0,none,0,0⟩):=rfl;have HTk:=plT_next hkn;generalize L[k].k=y0 at *
    generalize L[k].x=y1 at *
    generalize L[k].v=y2 at *
    obtain ⟨X,hX⟩:∃ X,wr.alloc (.cells #[.int .i64 y0,.int .i64 y1,.int .i64 y2] 41)=X:=⟨_,rfl⟩;have hbX:Below wr.heap.size wr X:=bAe hX;have gX:X.heap[wr.heap.size]?=some (.cells #[.int .i64 y0,.int .i64 y1,.int .i64 y2] 41 (0,0)):=hAe hX;obtain ⟨x0,x1,x2⟩:_/\_/\_:=⟨cell_of gX 0,cell_of gX 1,cell_of gX 2⟩;have HOX:Hid (X.ownsRow w1.heap.size 60 7 (.slice oa ((L.take k).map plT).length oc) ((L.take k).map plT).length (tls ((L.take k).map plT))):=own_below HOr.out hbX;have HBX:Hid (Below w1.heap.size w1 X):=bl_next HBr.out hbX;clear c0 c1' c2 hbX gX;go_upto_region 6 with fail
    try rw [hX]
    clear hX;go_wp2_with (at_builtin;refine append_els X [.int .i64 0,.int .i64 y0,.int .i64 y1,.int .i64 y2,.int .i64 0,.int .i64 0,.slice none 0 0] 7 rfl (by decide) rfl (.tmp 23) (.tmp 26) 43 60 (.agg #[.int .i64 0,.int .i64 0,.int .i64 0,.int .i64 0,.int .i64 0,.int .i64 0,.slice none 0 0]) 72 rfl und43 infoCause rfl w1.heap.size _ _ _ (by rfl) HOX.out (tl_one ⟨0,y0,y1,y2,0,0,none,0,0⟩) _ rfl (by rfl) (by unfold maxLen;omega) (by omega) HBX.out.size ?_;intro v2 w2 ho2 hg2 hn2);have HO2:Hid (w2.ownsRow w1.heap.size 60 7 v2 ((L.take (k+1)).map plT).length (tls ((L.take (k+1)).map plT))):=by
      show World.ownsRow _ _ _ _ _ _ _;rw [HTk,List.length_append,tls_append,HNx.out];exact ho2
    have HB2:Hid (Below w1.heap.size w1 w2):=(HBX.out.alloc HBX.out.size _).grown hg2 (by have:=HBX.out.size;simp;omega) (fun g hg=>(HOX.out.lt g hg).1);clear ho2 hg2 hn2 x0 x1 x2;go_wp2_with fail
    go_roundw
    case rel=>exact ⟨k+1,by go_num,hkn,HO2,HB2⟩
    case measure=>simp [intOf];omega
  case neg=>
  have hke:k=L.length:=by omega
  subst hke;have hkI:¬ (L.length:Int)<(L.length:Int):=by omega
  rw [List.take_length] at HOr;have HOe:Hid (wr.ownsRow w1.heap.size 60 7 (.slice oa L.length oc) (L.map plT).length (tls (L.map plT))):=by
    have h:=HOr.out;show World.ownsRow _ _ _ _ _ _ _;rw [List.length_map] at h ⊢;exact h
  go_wp2_with fail
  go_ret2;exact ⟨_,rfl,own_base HOe.out (Nat.le_trans HB0.out.size HB1.out.size),HB0.out.trans ((bl_next HB1.out HBr.out).mono HB0.out.size)⟩
end Go.Proofs.YtjnckfchgcmmpaaGreatDoor
namespace Go.Proofs.YtjnckfchgcmmpaaGreatDoor
theorem hold_k {c:Md.Cn} {vs:List Int} (k:Int) (h:c.kind=k):Md.hold c vs=if k=1 then Md.linB c vs else if k=2 then Md.neB c vs else if k=3 then Md.adB c vs else if k=4 then Md.elB c vs else if k=5 then Md.mxB c vs else if k=6 then Md.mnB c vs else if k=7 then Md.rfB c vs else if k=8 then Md.tbB c vs else Md.ctB c vs:=by
  unfold Md.hold;rw [h]
theorem rule_k {D:List Dm} {c:Md.Cn} {Q:List Sq} (k:Int) (h:c.kind=k):ruleQ D c Q=if k=1 then linQ D c Q else if k=2 then neQ D c Q else if k=3 then some Q else if k=4 then some (elemQ D c Q) else if k=5 then maxQ false D c Q else if k=6 then maxQ true D c Q else if k=7 then reifQ D c Q else if k=8 then tableQ D c Q else countQ D c Q:=by
  unfold ruleQ;rw [h]
theorem rule_safe (c:Md.Cn) (n:Nat) (hc:Md.Fit c n):Safe (fun D Q=>ruleQ D c Q) n (fun vs=>Md.hold c vs=true):=by
  intro D vs Q hn hf hl hh;have hk:c.kind=1∨c.kind=2∨c.kind=3∨c.kind=4∨c.kind=5∨c.kind=6∨c.kind=7∨c.kind=8∨c.kind=9:=by have:=hc.kind;omega
  have hh:Md.hold c vs=true:=hh;show ∃ Q',ruleQ D c Q=some Q'/\_
  rcases hk with e | e | e | e | e | e | e | e | e <;> (rw [rule_k _ e];rw [hold_k _ e] at hh)
  · exact lin_safe c n hc.k (hc.op (by rw [e];rfl)) hc.tx D vs Q hn hf hl hh
  · exact ne_safe c n hc.x hc.y D vs Q hn hf hl hh
  · exact ⟨Q,rfl,fun _ _ _ h=>h⟩
  · exact elem_safe c n hc.x hc.y D vs Q hn hf hl hh
  · exact max_safe false c n (hc.xp (by rw [e];rfl)) hc.y hc.xs D vs Q hn hf hl ((mx_v c vs).1 hh)
  · exact max_safe true c n (hc.xp (by rw [e];rfl)) hc.y hc.xs D vs Q hn hf hl ((mn_v c vs).1 hh)
  · exact reif_safe c n hc.k hc.x hc.tx D vs Q hn hf hl hh
  · exact table_safe c n hc.xs D vs Q hn hf hl hh
  · exact count_safe c n (hc.op (by rw [e];rfl)) hc.xs D vs Q hn hf hl hh
theorem rule_tells (c:Md.Cn) (n:Nat) (hc:Md.Fit c n) (h3:c.kind≠3):Tells (fun D Q=>ruleQ D c Q) n (fun vs=>Md.hold c vs=true):=by
  intro D vs Q Q' hn hf hl h1 h hq;have hk:c.kind=1∨c.kind=2∨c.kind=4∨c.kind=5∨c.kind=6∨c.kind=7∨c.kind=8∨c.kind=9:=by have:=hc.kind;omega
  have h:ruleQ D c Q=some Q':=h;show Md.hold c vs=true
  rcases hk with e | e | e | e | e | e | e | e <;> (rw [rule_k _ e] at h;rw [hold_k _ e])
  · exact lin_tells c n hc.k (hc.op (by rw [e];rfl)) hc.tx D vs Q Q' hn hf hl h1 h hq
  · exact ne_tells c n hc.x hc.y D vs Q Q' hn hf hl h1 h hq
  · exact elem_tells c n hc.x hc.y D vs Q Q' hn hf hl h1 h hq
  · exact (mx_v c vs).2 (max_tells false c n (hc.xp (by rw [e];rfl)) hc.y hc.xs D vs Q Q' hn hf hl h1 h hq)
  · exact (mn_v c vs).2 (max_tells true c n (hc.xp (by rw [e];rfl)) hc.y hc.xs D vs Q Q' hn hf hl h1 h hq)
  · exact reif_tells c n hc.k hc.x hc.tx D vs Q Q' hn hf hl h1 h hq
  · exact table_tells c n hc.xs hc.rr D vs Q Q' hn hf hl h1 h hq
  · exact count_tells c n hc.xs D vs Q Q' hn hf hl h1 h hq
theorem first_le {l:List Int} (h:l.Pairwise (·<·)) {v:Int} (hv:v∈l):l.getD 0 0<=v/\l.getD 0 0∈l:=by
  cases l with
  | nil=>cases hv
  | cons a l =>
    show a<=v/\a∈a :: l;refine ⟨?_,by simp⟩;rcases List.mem_cons.1 hv with rfl | hv
    · exact Int.le_refl _
    · exact Int.le_of_lt (List.rel_of_pairwise_cons h hv)
theorem le_last {l:List Int} (h:l.Pairwise (·<·)) {v:Int} (hv:v∈l):v<=l.getD (l.length-1) 0/\l.getD (l.length-1) 0∈l:=by
  have hpos:=List.length_pos_of_mem hv;have hi:l.length-1<l.length:=by omega
  have e:l.getD (l.length-1) 0=l[l.length-1]:=by rw [List.getD_eq_getElem?_getD,List.getElem?_eq_getElem hi];rfl
  rw [e];refine ⟨?_,List.getElem_mem hi⟩;obtain ⟨i,hil,rfl⟩:=List.getElem_of_mem hv
  by_cases h2:i=l.length-1
  · subst h2
    exact Int.le_refl _
  · exact Int.le_of_lt (List.pairwise_iff_getElem.1 h i (l.length-1) hil hi (by omega))
def cutsK (q:Sq) (d:Dm) (k:Nat):List Ct:=if passB q d=true then [] else q.cutsL (k:Int) d.all
theorem stB_other {q:Ct} {x v:Int} (h:q.x≠x):stB q x v=true:=by
  unfold stB;simp [h]
theorem stB_1 (x v a:Int):stB ⟨1,x,a⟩ x v=true↔a<=v:=by unfold stB;simp
theorem stB_2 (x v a:Int):stB ⟨2,x,a⟩ x v=true↔v<=a:=by unfold stB;simp
theorem stB_3 (x v a:Int):stB ⟨3,x,a⟩ x v=true↔v≠a:=by unfold stB;simp
theorem cutsK_x {q:Sq} {d:Dm} {k:Nat} {c:Ct} (h:c∈cutsK q d k):c.x=(k:Int):=by
  unfold cutsK at h
  split at h
  · cases h
  · unfold Sq.cutsL at h
    split at h
    · unfold endsL at h
      rw [List.mem_append] at h;rcases h with h | h
      · split at h
        · rw [List.mem_singleton.1 h]
        · cases h
      · split at h
        · rw [List.mem_singleton.1 h]
        · cases h
    · unfold Sq.gone at h
      obtain ⟨v,_,rfl⟩:=List.mem_map.1 h;rfl
theorem cutsK_is {q:Sq} {d:Dm} (hf:d.Fine) (k:Nat) {v:Int} (hv:d.has v=true):(∀ c∈cutsK q d k,stB c (k:Int) v=true)↔q.has v=true:=by
  have hva:=(hf.all v).2 hv;unfold cutsK
  split
  · rename_i hp
    have hp:q.ts.length=0/\(q.lo<=d.lo/\d.lo<=q.hi)/\(q.lo<=d.hi/\d.hi<=q.hi):=by simpa [passB,inB] using hp
    have ht:q.ts=[]:=List.length_eq_zero_iff.1 hp.1;have a:=hf.least v hv;have b:=hf.most v hv;refine ⟨fun _=>?_,fun _ c hc=>by cases hc⟩;unfold Sq.has inB;rw [ht];simp;omega
  · unfold Sq.cutsL
    split
    · rename_i hp
      have hp:q.ts.length=0/\0<(q.kept d.all).length:=by simpa using hp
      have ht:q.ts=[]:=List.length_eq_zero_iff.1 hp.1;have hhas:∀ u,q.has u=true↔q.lo<=u/\u<=q.hi:=fun u=>by unfold Sq.has inB;rw [ht];simp
      have hkp:(q.kept d.all).Pairwise (·<·):=hf.up.sublist List.filter_sublist;obtain ⟨u0,hu0⟩:=List.exists_mem_of_length_pos hp.2;have hf0:=first_le hkp hu0;have hl0:=le_last hkp hu0;have hmem:∀ u,u∈q.kept d.all↔u∈d.all/\q.has u=true:=fun u=>by unfold Sq.kept;rw [List.mem_filter]
      have hF:=first_le hf.up hva;have hL:=le_last hf.up hva;generalize hfe:(q.kept d.all).getD 0 0=f at *
      generalize hle:(q.kept d.all).getD ((q.kept d.all).length-1) 0=l at *
      have hff:=(hhas f).1 ((hmem f).1 hf0.2).2;have hll:=(hhas l).1 ((hmem l).1 hl0.2).2;have key:(∀ c∈endsL (k:Int) d.all (q.kept d.all),stB c (k:Int) v=true)↔f<=v/\v<=l:=by
        unfold endsL;rw [hfe,hle]
        constructor
        · intro h
          constructor
          · by_cases e:f=d.all.getD 0 0
            · omega
            · exact (stB_1 _ _ _).1 (h ⟨1,(k:Int),f⟩ (by rw [if_pos e];simp))
          · by_cases e:l=d.all.getD (d.all.length-1) 0
            · omega
            · exact (stB_2 _ _ _).1 (h ⟨2,(k:Int),l⟩ (by rw [if_pos e];simp))
        · rintro ⟨h1,h2⟩ c hc
          rw [List.mem_append] at hc;rcases hc with hc | hc
          · split at hc
            · rw [List.mem_singleton.1 hc]
              exact (stB_1 _ _ _).2 h1
            · cases hc
          · split at hc
            · rw [List.mem_singleton.1 hc]
              exact (stB_2 _ _ _).2 h2
            · cases hc
      rw [key,hhas]
      constructor
      · rintro ⟨h1,h2⟩
        omega
      · intro h
        have hm:=(hmem v).2 ⟨hva,(hhas v).2 h⟩;have a:=(first_le hkp hm).1;have b:=(le_last hkp hm).1;rw [hfe] at a;rw [hle] at b;exact ⟨a,b⟩
    · unfold Sq.gone
      constructor
      · intro h
        apply Classical.byContradiction
        intro hn;have:=h ⟨3,(k:Int),v⟩ (List.mem_map.2 ⟨v,List.mem_filter.2 ⟨hva,by simpa using hn⟩,rfl⟩);exact (stB_3 _ _ _).1 this rfl
      · intro h c hc
        obtain ⟨u,hu,rfl⟩:=List.mem_map.1 hc;refine (stB_3 _ _ _).2 fun e=>?_
        subst e;have:=(List.mem_filter.1 hu).2;rw [h] at this
        cases this
theorem upto_mem {Q:List Sq} {D:List Dm} {n:Nat} {c:Ct}:c∈cutsUpto Q D n↔∃ k,k<n/\∃ q d,Q[k]?=some q/\D[k]?=some d/\c∈cutsK q d k:=by
  induction n with
  | zero=>simp [cutsUpto]
  | succ n ih =>
    unfold cutsUpto;rw [List.mem_append,ih]
    constructor
    · rintro (⟨k,hk,h⟩ | h)
      · exact ⟨k,by omega,h⟩
      · refine ⟨n,by omega,?_⟩
        unfold cutOf at h
        split at h
        · rename_i q d h1 h2
          exact ⟨q,d,h1,h2,h⟩
        · cases h
    · rintro ⟨k,hk,q,d,h1,h2,h3⟩
      by_cases e:k=n
      · subst e
        right
        unfold cutOf;rw [h1,h2];exact h3
      · exact .inl ⟨k,by omega,q,d,h1,h2,h3⟩
theorem some_is {Q:List Sq} {D:List Dm} (hf:Fines D) (hq:Q.length=D.length) {x:Nat} {d:Dm} (hd:D[x]?=some d) {v:Int} (hv:d.has v=true):someB (cutsUpto Q D D.length) (x:Int) v=true↔qH Q x v:=by
  have hx:x<D.length:=(List.getElem?_eq_some_iff.1 hd).1;unfold someB qH;rw [List.all_eq_true];have hQ:Q[x]?=some Q[x]:=List.getElem?_eq_getElem (by omega)
  constructor
  · intro h
    refine ⟨_,hQ,(cutsK_is (hf.get x d hd) x hv).1 fun c hc=>h c (upto_mem.2 ⟨x,hx,_,_,hQ,hd,hc⟩)⟩
  · rintro ⟨q,h1,h2⟩ c hc
    obtain ⟨k,hk,q',d',h3,h4,h5⟩:=upto_mem.1 hc
    by_cases e:k=x
    · subst e
      rw [h1] at h3;rw [hd] at h4;injection h3 with h3;injection h4 with h4;subst h3 h4;exact (cutsK_is (hf.get k d hd) k hv).2 h2 c h5
    · exact stB_other (by rw [cutsK_x h5];omega)
def lf1 (ins:List Int) (q:Ct):Bool:=decide (0<=q.x)&&(decide (q.x<(ins.length:Int))&&stB q q.x (ins.getD q.x.toNat 0))
def leftB (L:List Ct) (ins:List Int):Bool:=L.all (lf1 ins)
theorem left_is {Q:List Sq} {D:List Dm} {vs:List Int} (hf:Fines D) (hq:Q.length=D.length) (hl:Lies D vs):leftB (cutsUpto Q D D.length) vs=true↔∀ x v,vs[x]?=some v->qH Q x v:=by
  unfold leftB;rw [List.all_eq_true]
  constructor
  · intro h x v hv
    have hx:x<D.length:=by rw [<-hl.len];exact (List.getElem?_eq_some_iff.1 hv).1
    have hd:D[x]?=some D[x]:=List.getElem?_eq_getElem hx;obtain ⟨v',hv',h1⟩:=hl.get x _ hd;rw [hv] at hv';injection hv' with hv';subst hv';refine (some_is hf hq hd h1).1 ?_;unfold someB;rw [List.all_eq_true];intro c hc
    by_cases e:c.x=(x:Int)
    · have:=h c hc
      unfold lf1 at this;rw [Bool.and_eq_true,Bool.and_eq_true] at this;have h3:=this.2.2;rw [e,Int.toNat_natCast,List.getD_eq_getElem?_getD,hv] at h3;exact h3
    · exact stB_other e
  · intro h c hc
    obtain ⟨k,hk,q,d,h3,h4,h5⟩:=upto_mem.1 hc;have ex:=cutsK_x h5;obtain ⟨v,hv,h1⟩:=hl.get k d h4;have h2:=(some_is hf hq h4 h1).2 (h k v hv);unfold someB at h2;rw [List.all_eq_true] at h2;have h6:=h2 c hc;have hln:=hl.len;unfold lf1;rw [ex,Int.toNat_natCast,List.getD_eq_getElem?_getD,hv,Bool.and_eq_true,Bool.and_eq_true];exact ⟨by simp,by simp;omega,h6⟩
theorem all_one {d:Dm} (hf:d.Fine) (h:d.one=true):d.all=[d.lo]:=by
  have hm:=(hf.all d.lo).2 hf.loIn;have hu:=hf.up;have he:∀ v∈d.all,v=d.lo:=fun v hv=>hf.only h ((hf.all v).1 hv)
  revert hm hu he
  cases d.all with
  | nil=>intro hm;cases hm
  | cons a l =>
    intro hm hu he;have e1:=he a (by simp)
    cases l with
    | nil=>rw [e1]
    | cons b l =>
      have e2:=he b (by simp);have:=List.rel_of_pairwise_cons hu (List.mem_cons_self (a:=b) (l:=l));omega
theorem nil_is {Q:List Sq} {D:List Dm} {vs:List Int} (hf:Fines D) (hq:Q.length=D.length) (hl:Lies D vs) (h1:Ones D):cutsUpto Q D D.length=[]↔∀ x v,vs[x]?=some v->qH Q x v:=by
  constructor
  · intro h
    refine (left_is hf hq hl).1 ?_;rw [h];rfl
  · intro h
    apply List.eq_nil_iff_forall_not_mem.2
    intro c hc;obtain ⟨k,hk,q,d,h3,h4,h5⟩:=upto_mem.1 hc;obtain ⟨v,hv,hd⟩:=hl.get k d h4;have hfd:=hf.get k d h4;have ho:=h1 k d h4;have e:=hfd.only ho hd;obtain ⟨q',hq1,hq2⟩:=h k v hv;rw [h3] at hq1;injection hq1 with hq1;subst hq1;rw [e] at hq2;unfold cutsK at h5
    split at h5
    · cases h5
    · rw [all_one hfd ho] at h5
      unfold Sq.cutsL Sq.kept Sq.gone at h5;have ek:[d.lo].filter q.has=[d.lo]:=by simp [hq2]
      have eg:[d.lo].filter (fun v=>!q.has v)=[]:=by simp [hq2]
      rw [ek,eg] at h5
      split at h5
      · unfold endsL at h5
        simp at h5
      · cases h5
theorem keepQ_l (Q:List Sq) (y:Nat) (a b:Int):(keepQ Q y a b).length=Q.length:=by
  unfold keepQ
  split
  · rw [List.length_set]
  · rfl
theorem someQ_l (Q:List Sq) (y:Nat) (t:Int->Bool):(someQ Q y t).length=Q.length:=by
  unfold someQ
  split
  · rw [List.length_set]
  · rfl
theorem sKeepQ_l (t:Bool) (Q:List Sq) (y:Nat) (a b:Int):(sKeepQ t Q y a b).length=Q.length:=by
  unfold sKeepQ
  split <;> exact keepQ_l _ _ _ _
theorem amQ_l (t:Bool) (sp:Int) (zs:List (Int × Dm)) (Q:List Sq) (n:Nat):(amQ t sp zs Q n).length=Q.length:=by
  induction n with
  | zero=>rfl
  | succ n ih =>
    unfold amQ
    split
    · unfold amStep
      split
      · rw [sKeepQ_l,ih]
      · split
        · rw [sKeepQ_l,ih]
        · exact ih
    · exact ih
theorem atMost_l {t:Bool} {D:List Dm} {cs:List Int} {k:Int} {Q Q':List Sq} (h:atMostQ t D cs k Q=some Q'):Q'.length=Q.length:=by
  unfold atMostQ at h
  split at h
  · cases h
  · injection h with h
    rw [<-h,amQ_l]
theorem rf3_l (D:List Dm) (cs:List Int) (k:Int) (x:Nat) (Q:List Sq):(rf3Q D cs k x Q).length=Q.length:=by
  unfold rf3Q
  split <;> split <;> simp only [keepQ_l]
theorem grs_l (t:Bool) (D:List Dm) (xs:List Int) (a b:Int) (ys:List Int) (Q:List Sq):(ys.foldl (grStep t D xs a b) Q).length=Q.length:=by
  induction ys generalizing Q with
  | nil=>rfl
  | cons y ys ih =>
    rw [List.foldl_cons,ih];unfold grStep
    split <;> simp only [sKeepQ_l]
theorem ctQ_l (am al:Bool) (v k sure may:Int) (zs:List (Int × Dm)) (Q:List Sq) (n:Nat):(ctQ am al v k sure may zs Q n).length=Q.length:=by
  induction n with
  | zero=>rfl
  | succ n ih =>
    unfold ctQ
    split
    · unfold ctStep
      split
      · exact ih
      · split
        · rw [keepQ_l]
          split
          · rw [someQ_l,ih]
          · exact ih
        · split
          · rw [someQ_l,ih]
          · exact ih
    · exact ih
theorem tab_l (D:List Dm) (c:Md.Cn) (Q:List Sq) (n:Nat):(tabF D c Q n).length=Q.length:=by
  unfold tabF
  induction n with
  | zero=>rfl
  | succ n ih =>
    rw [List.range_succ,List.foldl_append];show (someQ _ _ _).length=_;rw [someQ_l,ih]
theorem rule_l {D:List Dm} {c:Md.Cn} {Q Q':List Sq} (h:ruleQ D c Q=some Q'):Q'.length=Q.length:=by
  unfold ruleQ at h
  split at h
  · unfold linQ at h
    generalize hg:(if c.op=3 then some Q else atMostQ false D (coefL c.terms D.length) c.k Q)=g at h
    cases g with
    | none=>cases h
    | some P =>
      have e1:P.length=Q.length:=by
        split at hg
        · injection hg with hg;rw [hg]
        · exact atMost_l hg
      have h:(if c.op=1 then some P else atMostQ true D (coefL c.terms D.length) c.k P)=some Q':=h
      split at h
      · have h:=Option.some.inj h;rw [<-h,e1]
      · rw [atMost_l h,e1]
  split at h
  · unfold neQ at h
    split at h
    · split at h
      · cases h
      · have h:=Option.some.inj h;rw [h]
    · have h:=Option.some.inj h
      rw [<-h]
      split <;> split <;> simp only [someQ_l]
  split at h
  · have h:=Option.some.inj h;rw [h]
  split at h
  · have h:=Option.some.inj h
    rw [<-h];unfold elemQ;rw [someQ_l,someQ_l]
  split at h
  · unfold maxQ greatQ at h
    split at h
    · cases h
    · have h:=Option.some.inj h
      rw [<-h,grs_l,sKeepQ_l]
  split at h
  · unfold maxQ greatQ at h
    split at h
    · cases h
    · have h:=Option.some.inj h
      rw [<-h,grs_l,sKeepQ_l]
  split at h
  · unfold reifQ at h
    split at h
    · cases h
    · split at h
      · have h:=Option.some.inj h
        rw [<-h,rf3_l]
      · split at h
        · rw [atMost_l h,rf3_l]
        · rw [atMost_l h,rf3_l]
  split at h
  · unfold tableQ at h
    split at h
    · have h:=Option.some.inj h
      rw [<-h,tab_l]
    · cases h
  · unfold countQ at h
    split at h
    · cases h
    · have h:=Option.some.inj h
      rw [<-h,ctQ_l]
theorem all_qH {n x:Nat} {v:Int} (hx:x<n) (hv:Sml v):qH (List.replicate n sqA) x v:=by
  refine ⟨sqA,?_,?_⟩
  · rw [List.getElem?_replicate,if_pos hx]
  · unfold Sml at hv
    unfold Sq.has sqA inB;simp;exact hv
theorem Lies.sml {D:List Dm} {vs:List Int} (hf:Fines D) (hl:Lies D vs) {x:Nat} {v:Int} (hv:vs[x]?=some v):x<D.length/\Sml v:=by
  have hx:x<D.length:=by rw [<-hl.len];exact (List.getElem?_eq_some_iff.1 hv).1
  have hd:D[x]?=some D[x]:=List.getElem?_eq_getElem hx;obtain ⟨v',hv',h1⟩:=hl.get x _ hd;rw [hv] at hv';injection hv' with hv';subst hv';exact ⟨hx,(hf.get x _ hd).sml h1⟩
theorem cutR_tells {D:List Dm} {vs:List Int} {c:Md.Cn} (hf:Fines D) (hl:Lies D vs) (h1:Ones D) (h3:c.kind≠3) (hck:(Md.check (stM c D.length)).2=0) (hc:Md.fault c (D.length:Int)=0):((cutR D c).2&&decide ((cutR D c).1=[]))=Md.hold c vs:=by
  have hfit:=Md.fit_of hc;unfold cutR;rw [if_pos hck]
  cases e:ruleQ D c (List.replicate D.length sqA) with
  | none =>
    cases hh:Md.hold c vs
    · rfl
    · obtain ⟨Q,e2,_⟩:=rule_safe c D.length hfit D vs (List.replicate D.length sqA) rfl hf hl hh
      have e2:ruleQ D c (List.replicate D.length sqA)=some Q:=e2;rw [e] at e2
      cases e2
  | some Q =>
    have hql:Q.length=D.length:=by rw [rule_l e,List.length_replicate]
    show (true&&decide (cutsUpto Q D D.length=[]))=_;rw [Bool.true_and,Bool.eq_iff_iff,decide_eq_true_eq,nil_is hf hql hl h1]
    constructor
    · exact fun h=>rule_tells c D.length hfit h3 D vs _ Q rfl hf hl h1 e h
    · intro hh
      obtain ⟨Q2,e2,hq⟩:=rule_safe c D.length hfit D vs (List.replicate D.length sqA) rfl hf hl hh;have e2:ruleQ D c (List.replicate D.length sqA)=some Q2:=e2;rw [e] at e2;injection e2 with e2;subst e2;exact fun x v hv=>hq x v hv (all_qH (hl.sml hf hv).1 (hl.sml hf hv).2)
end Go.Proofs.YtjnckfchgcmmpaaGreatDoor
namespace Go.Proofs.YtjnckfchgcmmpaaGreatDoor
open Go.RowKit
theorem lies_of:∀ {D:List Dm} {vs:List Int},vs.length=D.length->(∀ (x:Nat) (d:Dm),D[x]?=some d->∃ v,vs[x]?=some v/\d.has v=true)->Lies D vs
  | [],[],_,_=>trivial
  | [],_ :: _,h,_=>by simp at h
  | _ :: _,[],h,_=>by simp at h
  | d :: D, v :: vs, h, hg => by
    obtain ⟨v',e,h1⟩:=hg 0 d rfl;have e:v=v':=by simpa using e
    subst e;exact ⟨h1,lies_of (by simpa using h) fun x d' hd=>by simpa using hg (x+1) d' (by simpa using hd)⟩
theorem fewer_of:∀ {D' D:List Dm},D'.length=D.length->(∀ (x:Nat) (d' d:Dm),D'[x]?=some d'->D[x]?=some d->∀ v,d'.has v=true->d.has v=true)->Fewer D' D
  | [],[],_,_=>trivial
  | [],_ :: _,h,_=>by simp at h
  | _ :: _,[],h,_=>by simp at h
  | d' :: D',d :: D,h,hg=>⟨hg 0 d' d rfl rfl,fewer_of (by simpa using h) fun x e' e h1 h2=>hg (x+1) e' e (by simpa using h1) (by simpa using h2)⟩
theorem fines_alls {s:St} (h:Alls s):Fines s.now:=fines_of fun d hd=>fine_of (h d hd).1 (h d hd).2
theorem Fewer.trans {D1 D2 D3:List Dm} (h1:Fewer D1 D2) (h2:Fewer D2 D3):Fewer D1 D3:=fewer_of (h1.len.trans h2.len) fun x d1 d3 e1 e3 v hv=>by
  have hx:x<D2.length:=by rw [<-h1.len];exact (List.getElem?_eq_some_iff.1 e1).1
  exact h2.get x D2[x] d3 (List.getElem?_eq_getElem hx) e3 v (h1.get x d1 D2[x] e1 (List.getElem?_eq_getElem hx) v hv)
theorem cut_less {s:St} (h:Alls s) (k x v:Int):Fewer (s.cut k x v).now s.now:=fewer_of (stcut_len s k x v) fun y d' d h1 h2 u hu=>by
  obtain ⟨hy,e2⟩:=List.getElem?_eq_some_iff.1 h2;obtain ⟨hy',e1⟩:=List.getElem?_eq_some_iff.1 h1;obtain ⟨_,h3 | ⟨h3,_⟩⟩:=cut_get (s:=s) k x v y hy
  · rw [e1,e2] at h3
    rw [<-h3];exact hu
  · rw [e1,e2] at h3
    rw [h3] at hu;have ho:=(h d (by rw [<-e2];exact List.getElem_mem hy)).1;exact (cut_fewer ho k v u hu).1
theorem fewer_refl (D:List Dm):Fewer D D:=fewer_of rfl fun x d' d h1 h2 v hv=>by
  rw [h1] at h2;injection h2 with h2;rw [<-h2];exact hv
theorem fold_less (L:List Ct):∀ {s:St},Alls s->Alls (foldC s L)/\Fewer (foldC s L).now s.now:=by
  induction L with
  | nil=>exact fun {s} h=>⟨h,fewer_refl _⟩
  | cons c L ih =>
    intro s h;have h1:=alls_cut h c.k c.x c.v;obtain ⟨a,b⟩:=ih h1;exact ⟨a,b.trans (cut_less h c.k c.x c.v)⟩
theorem has_nonzero {d:Dm} (h:d.Ok) {v:Int} (hv:d.has v=true):d.eqB ⟨0,0,0⟩=false:=by
  obtain ⟨k,hk,_,hb⟩:=(d.has_is h v).1 hv
  cases e:d.eqB ⟨0,0,0⟩
  · rfl
  · unfold Dm.eqB at e
    have e:d.a=0/\d.b=0:=by simpa using e
    rw [e.1,e.2] at hb;unfold bt wb at hb
    split at hb
    · rw [show (0:Int).toNat=0 from rfl,Nat.zero_testBit] at hb;cases hb
    · rw [show (0:Int).toNat=0 from rfl,Nat.zero_testBit] at hb;cases hb
theorem cut_at {s:St} (h:Alls s) {k:Int} {x:Nat} {v:Int} {d:Dm} (hd:s.now[x]?=some d) (hv:d.has v=true) (ht:takesB k v v=false):∃ d',(s.cut k (x:Int) v).now[x]?=some d'/\(∀ u,d'.has u=true↔d.has u=true/\takesB k v u=false)/\∀ y,y≠x->(s.cut k (x:Int) v).now[y]?=s.now[y]?:=by
  obtain ⟨hx,ed⟩:=List.getElem?_eq_some_iff.1 hd;have ho:=(h d (by rw [<-ed];exact List.getElem_mem hx)).1;have hcv:=cut_has ho k v v hv ht;have hnz:=has_nonzero (ho.cut k v) hcv;have hmay:s.may k (x:Int) v=true:=by
    unfold St.may;rw [Int.toNat_natCast,hd];show (!isB s.now.length (x:Int)||d.may k v)=true;unfold Dm.may;rw [hnz];simp
  refine ⟨d.cut k v,?_,fun u=>⟨fun hu=>cut_fewer ho k v u hu,fun hu=>cut_has ho k v u hu.1 hu.2⟩,fun y hy=>?_⟩
  · obtain ⟨h2,e⟩:=may_cut (s:=s) ⟨k,(x:Int),v⟩ hmay x hx
    rw [List.getElem?_eq_getElem h2,e];simp [ed]
  · by_cases hyl:y<s.now.length
    · obtain ⟨h2,e⟩:=may_cut (s:=s) ⟨k,(x:Int),v⟩ hmay y hyl
      rw [List.getElem?_eq_getElem h2,e,List.getElem?_eq_getElem hyl];have:¬ (x:Int)=(y:Int):=by omega
      simp [this]
    · rw [List.getElem?_eq_none (by rw [stcut_len];omega),List.getElem?_eq_none (by omega)]
def oneS (s:St) (vs:List Int):Nat->St
  | 0=>s
  | k+1=>((oneS s vs k).cut 1 (k:Int) (vs.getD k 0)).cut 2 (k:Int) (vs.getD k 0)
theorem takes_self (k v:Int) (h:k=1∨k=2):takesB k v v=false:=by
  rcases h with rfl | rfl <;> simp [takesB]
theorem one_all {s:St} {vs:List Int} (h:Alls s) (hl:Lies s.now vs):∀ k,k<=s.now.length->Alls (oneS s vs k)/\(oneS s vs k).now.length=s.now.length/\(∀ x,k<=x->(oneS s vs k).now[x]?=s.now[x]?)/\∀ x,x<k->∃ d,(oneS s vs k).now[x]?=some d/\∀ u,d.has u=true↔u=vs.getD x 0:=by
  intro k
  induction k with
  | zero=>exact fun _=>⟨h,rfl,fun _ _=>rfl,fun x hx=>absurd hx (by omega)⟩
  | succ k ih =>
    intro hk;obtain ⟨a1,a2,a3,a4⟩:=ih (by omega);have hd:s.now[k]?=some s.now[k]:=List.getElem?_eq_getElem (by omega);obtain ⟨v,hv,hhas⟩:=hl.get k _ hd;have ev:vs.getD k 0=v:=by rw [List.getD_eq_getElem?_getD,hv];rfl
    have hd0:(oneS s vs k).now[k]?=some s.now[k]:=(a3 k (Nat.le_refl _)).trans hd;show Alls (((oneS s vs k).cut 1 (k:Int) (vs.getD k 0)).cut 2 (k:Int) (vs.getD k 0))/\(((oneS s vs k).cut 1 (k:Int) (vs.getD k 0)).cut 2 (k:Int) (vs.getD k 0)).now.length=_/\(∀ x,k+1<=x->(((oneS s vs k).cut 1 (k:Int) (vs.getD k 0)).cut 2 (k:Int) (vs.getD k 0)).now[x]?=_)/\∀ x,x<k+1->∃ d,(((oneS s vs k).cut 1 (k:Int) (vs.getD k 0)).cut 2 (k:Int) (vs.getD k 0)).now[x]?=some d/\_;rw [ev];obtain ⟨d1,e1,h1,o1⟩:=cut_at a1 hd0 hhas (takes_self 1 v (.inl rfl));have b1:=alls_cut a1 1 (k:Int) v;have hd1v:d1.has v=true:=(h1 v).2 ⟨hhas,takes_self 1 v (.inl rfl)⟩;obtain ⟨d2,e2,h2,o2⟩:=cut_at b1 e1 hd1v (takes_self 2 v (.inr rfl));refine ⟨alls_cut b1 2 (k:Int) v,by rw [stcut_len,stcut_len,a2],fun x hx=>?_,fun x hx=>?_⟩
    · rw [o2 x (by omega),o1 x (by omega)]
      exact a3 x (by omega)
    · by_cases hxk:x=k
      · subst hxk
        refine ⟨d2,e2,fun u=>?_⟩;rw [h2 u,h1 u,ev]
        constructor
        · rintro ⟨⟨_,t1⟩,t2⟩
          have t1:¬ u<v:=by simpa [takesB] using t1
          have t2:¬ v<u:=by simpa [takesB] using t2
          omega
        · rintro rfl
          exact ⟨⟨hhas,takes_self 1 u (.inl rfl)⟩,takes_self 2 u (.inr rfl)⟩
      · obtain ⟨d,e,hu⟩:=a4 x (by omega)
        exact ⟨d,by rw [o2 x hxk,o1 x hxk];exact e,hu⟩
theorem one_lies {s:St} {vs:List Int} (h:Alls s) (hl:Lies s.now vs):Lies (oneS s vs s.now.length).now vs/\Ones (oneS s vs s.now.length).now/\Alls (oneS s vs s.now.length)/\(oneS s vs s.now.length).now.length=s.now.length:=by
  obtain ⟨a1,a2,a3,a4⟩:=one_all h hl s.now.length (Nat.le_refl _);refine ⟨lies_of (by rw [a2];exact hl.len) fun x d hd=>?_,fun x d hd=>?_,a1,a2⟩
  · have hx:x<s.now.length:=by rw [<-a2];exact (List.getElem?_eq_some_iff.1 hd).1
    obtain ⟨d',e,hu⟩:=a4 x hx;rw [hd] at e;have e:=Option.some.inj e;subst e;obtain ⟨v,hv,_⟩:=hl.get x s.now[x] (List.getElem?_eq_getElem hx);exact ⟨v,hv,(hu v).2 (by rw [List.getD_eq_getElem?_getD,hv];rfl)⟩
  · have hx:x<s.now.length:=by rw [<-a2];exact (List.getElem?_eq_some_iff.1 hd).1
    obtain ⟨d',e,hu⟩:=a4 x hx;rw [hd] at e;have e:=Option.some.inj e;subst e;have hf:=(fines_alls a1).get x d hd;have e1:=(hu _).1 hf.loIn;have e2:=(hu _).1 hf.hiIn;exact hf.one.2 (by rw [e1,e2])
theorem new_nums {m:Md.Mo} {vs:List Int} (hl:Lies (newS m).now vs):vs.all Md.numB=true:=by
  rw [List.all_eq_true];intro v hv;obtain ⟨x,hx,rfl⟩:=List.getElem_of_mem hv;have hxl:x<(newS m).now.length:=by rw [<-hl.len];exact hx
  obtain ⟨v',e,h1⟩:=hl.get x _ (List.getElem?_eq_getElem hxl);rw [List.getElem?_eq_getElem hx] at e;have e:=Option.some.inj e;subst e;have hmem:=List.getElem_mem hxl;generalize (newS m).now[x]=d at h1 hmem
  unfold newS at hmem
  split at hmem
  · rename_i hck
    obtain ⟨v,hv2,rfl⟩:=List.mem_map.1 hmem;have hb:=((Md.right_of hck).var v hv2).2;have h2:=(new_has hb _).1 h1;have h3:=Md.bounds_of hb;unfold Md.numB;rw [decide_eq_true_eq];omega
  · cases hmem
end Go.Proofs.YtjnckfchgcmmpaaGreatDoor
