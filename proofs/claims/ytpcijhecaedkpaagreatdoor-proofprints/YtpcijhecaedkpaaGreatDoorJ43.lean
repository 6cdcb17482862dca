/-
  Put together: RpA, RpB, RpC, RpD, RpE, RmF, RmG, RwA.
-/
import Derived.Test.YtpcijhecaedkpaaGreatDoorJ40
import Derived.Test.YtpcijhecaedkpaaGreatDoorJ41
import Derived.Test.YtpcijhecaedkpaaGreatDoorJ38
namespace Go.Proofs.YtpcijhecaedkpaaGreatDoor
open Go.RowKit
set_option maxRecDepth 10000
set_option maxHeartbeats 8000000
theorem add_txt (a b:List UInt8) (h:a.length+b.length<=900000000) (w:World):(Op.stringOp .add (txtOf a) (txtOf b)).run Tryz.prog w=.ok (.string (txtOf (a++b))) w:=by
  have e:txtOf (a++b)=txtOf a++txtOf b:=by
    unfold txtOf
    apply ByteArray.ext
    simp
  rw [e];exact run_string_add_sum w _ _ (by rw [txt_size,txt_size];omega)
def litX (l:Int):List UInt8:=if l<0 then [32,126,120]++Lib.itoa (wrap64 (-l)) else [32,120]++Lib.itoa l
theorem itoa_short {n:Int} (h0:-9223372036854775808<=n) (h1:n<=9223372036854775807):(Lib.itoa n).length<=30:=by
  have key:(Lib.itoa n).length<=20:=by
    unfold Lib.itoa
    split
    · have := dec_len 18 n.natAbs (by have e : (10 : Nat) ^ (18 + 1) = 10000000000000000000 := by decide
                                      rw [e];omega)
      simp;omega
    · have := dec_len 18 n.toNat (by have e : (10 : Nat) ^ (18 + 1) = 10000000000000000000 := by decide
                                     rw [e];omega)
      omega
  omega
theorem litText_any (l:Int) (w:World) (h0:-9223372036854775808<=l) (h1:l<=9223372036854775807) (hg:Gl w):Calls Tryz.prog 125 #[.int .i64 l] w fun e w'=>e=.returned (.string (txtOf (litX l)))/\Below w.heap.size w w':=by
  unfold litX
  by_cases hl:l<0
  · rw [if_pos hl]
    obtain ⟨m,hm⟩:∃ m,wrap64 (-l)=m:=⟨_,rfl⟩;have hm0:-9223372036854775808<=m/\m<=9223372036854775807:=by rw [<-hm];unfold wrap64;omega
    have HI:Hid (Calls Tryz.prog 211 #[.int .i64 m] w fun e w'=>e=.returned (.string (txtOf (Lib.itoa m)))/\Below w.heap.size w w'):=itoa_any m w hm0.1 hm0.2 hg;have hA:=fun w=>add_txt [32,126,120] (Lib.itoa m) (by have:=itoa_short hm0.1 hm0.2;simp;omega) w
    have hA2:∀ w,(Op.stringOp .add ⟨#[32,126,120]⟩ (txtOf (Lib.itoa m))).run Tryz.prog w=.ok (.string (txtOf ([32,126,120]++Lib.itoa m))) w:=hA;rw [hm];clear hA hm0 hg;go_enter Tryz.func125,Tryz.ntmps125;go_wp2_with fail
    refine calls_at HI.out (by with_reducible rfl) (by with_reducible rfl) ?_;rintro e w1 ⟨rfl,hb⟩;have HB:Hid (Below w.heap.size w w1):=hb;clear hb;go_wp2_with fail
    go_ret;exact ⟨rfl,HB.out⟩
  · rw [if_neg hl]
    have HI:Hid (Calls Tryz.prog 211 #[.int .i64 l] w fun e w'=>e=.returned (.string (txtOf (Lib.itoa l)))/\Below w.heap.size w w'):=itoa_any l w h0 h1 hg;have hA2:∀ w,(Op.stringOp .add ⟨#[32,120]⟩ (txtOf (Lib.itoa l))).run Tryz.prog w=.ok (.string (txtOf ([32,120]++Lib.itoa l))) w:=fun w=>add_txt [32,120] (Lib.itoa l) (by have:=itoa_short h0 h1;simp;omega) w
    clear hg;go_enter Tryz.func125,Tryz.ntmps125;go_wp2_with fail
    refine calls_at HI.out (by with_reducible rfl) (by with_reducible rfl) ?_;rintro e w1 ⟨rfl,hb⟩;have HB:Hid (Below w.heap.size w w1):=hb;clear hb;go_wp2_with fail
    go_ret;exact ⟨rfl,HB.out⟩
theorem spW_take (L:List (List UInt8)) (i:Nat) (hi:i<L.length):spW (L.take (i+1))=spW (L.take i)++32 :: L[i]:=by
  unfold spW;rw [List.take_succ_eq_append_getElem hi,List.flatMap_append];simp
theorem spW_len (L:List (List UInt8)):(spW L).length=tot L:=by
  unfold spW tot;rw [List.length_flatMap];simp
theorem len_tot (L:List (List UInt8)):L.length<=tot L:=by
  induction L with
  | nil=>simp [tot]
  | cons x L ih=>simp [tot] at ih ⊢;omega
theorem tot_take_le (L:List (List UInt8)) (i:Nat):tot (L.take i)<=tot L:=by
  have h:tot L=tot (L.take i)+tot (L.drop i):=by
    unfold tot;rw [<-List.sum_append,<-List.map_append,List.take_append_drop]
  omega
theorem texts_any (L:List (List UInt8)) (v:Value) (w:World) (h:RdAt w v L.length (L.map fun x=>.string (txtOf x))) (hl:tot L<=800000000):Calls Tryz.prog 124 #[v] w fun e w'=>e=.returned (.string (txtOf (spW L)))/\Below w.heap.size w w':=by
  obtain ⟨a,cap,rfl,hn,hc⟩:=h;obtain ⟨n,hN⟩:∃ n,L.length=n:=⟨_,rfl⟩;have HC:Hid (∀ w',Below w.heap.size w w'->∀ j (hj:j<L.length),∃ g off,a=some ⟨g,off,none⟩/\w'.cell? ⟨g,off+j,none⟩=some (.string (txtOf L[j]))):=fun w' hb j hj=>by
    obtain ⟨g,off,e1,e2,e3⟩:=hc (by omega);exact ⟨g,off,e1,(hb.cell (p:=⟨g,off+j,none⟩) e2).trans (e3 j _ (by simp [hj]))⟩
  have HN:Hid (L.length=n):=hN;have hn8:n<=800000000:=by have:=len_tot L;omega
  rw [hN] at hn ⊢;have HT:Hid (tot L<=800000000):=hl;clear hc hN hl;go_enter Tryz.func124,Tryz.ntmps124;go_wp2_with fail
  go_loopw [3,4] (fun sv iv wr=>∃ i:Nat,sv=.string (txtOf (spW (L.take i)))/\iv=.int .i64 (i:Int)/\i<=n/\Hid (Below w.heap.size w wr)) (fun _ iv _=>n-(intOf iv).toNat)
  case atStart=>exact ⟨0,rfl,rfl,Nat.zero_le _,Below.refl _ _⟩
  case round=>
    obtain ⟨i,rfl,rfl,hin,hB⟩:=hrel;have hw1:wrap64 ((i:Int)+1)=((i+1:Nat):Int):=by unfold wrap64;omega
    by_cases hi:i<n
    · have hiI:(i:Int)<(n:Int):=by omega
      have hiL:i<L.length:=by have:=HN.out;omega
      obtain ⟨g,off,rfl,c0⟩:=HC.out wr hB.out i hiL;have ht:=tot_take L i hiL;have hl1:(spW (L.take i)).length=tot (L.take i):=spW_len _;obtain ⟨P,hP⟩:∃ P,spW (L.take i)=P:=⟨_,rfl⟩;rw [hP] at hl1;have hT:=HT.out;have hA1:∀ w,(Op.stringOp .add (txtOf P) ⟨#[32]⟩).run Tryz.prog w=.ok (.string (txtOf (P++[32]))) w:=fun w=>add_txt P [32] (by simp;omega) w
      have hA2:∀ w,(Op.stringOp .add (txtOf (P++[32])) (txtOf L[i])).run Tryz.prog w=.ok (.string (txtOf (P++[32]++L[i]))) w:=fun w=>add_txt (P++[32]) L[i] (by simp;omega) w
      have HE:Hid (P++32 :: L[i]=spW (L.take (i+1))):=by show _=_;rw [spW_take L i hiL,hP]
      rw [hP];clear hP ht hl1 hT;go_wp2_with fail
      go_roundw
      case rel=>exact ⟨i+1,by rw [HE.out],by go_num,by omega,hB⟩
      case measure=>simp [intOf];omega
    · obtain rfl:i=n:=by omega
      have hiI:¬ (i:Int)<(i:Int):=by omega
      have HE:Hid (spW (L.take i)=spW L):=by show _=_;rw [<-HN.out,List.take_length]
      go_wp2_with fail
      go_ret;exact ⟨congrArg (fun q=>Ending.returned (.string (txtOf q))) HE.out,hB.out⟩
end Go.Proofs.YtpcijhecaedkpaaGreatDoor

namespace Go.Proofs.YtpcijhecaedkpaaGreatDoor
open Go.RowKit
set_option maxRecDepth 10000
set_option maxHeartbeats 8000000
def opX (o:OpL):List UInt8:=
  if o.1=1 then 32 :: o.2.1 else if o.1=2 then litX o.2.2 else if o.1=3 then [32,43] else if o.1=4 then 32 :: (o.2.1++[32,42])
  else if o.1=5 then 32 :: (o.2.1++[32,100]) else if o.1=6 then [32,115] else if o.1=7 then litX o.2.2++[32,119] else [32,63]
theorem litX_len {l:Int} (h0:-9223372036854775808<=l) (h1:l<=9223372036854775807):(litX l).length<=40:=by
  unfold litX
  split
  · have:=itoa_short (n:=wrap64 (-l)) (by unfold wrap64;omega) (by unfold wrap64;omega)
    simp;omega
  · have:=itoa_short h0 h1
    simp;omega
theorem opText_any (o:OpL) (w:World) (h0:-9223372036854775808<=o.2.2) (h1:o.2.2<=9223372036854775807) (hn:o.2.1.length<=800000000) (hg:Gl w):Calls Tryz.prog 122 #[.agg #[.int .i64 o.1,.string (txtOf o.2.1),.int .i64 o.2.2]] w fun e w'=>e=.returned (.string (txtOf (opX o)))/\Below w.heap.size w w':=by
  obtain ⟨k,x,l⟩:=o;simp only at h0 h1 hn ⊢;obtain ⟨W,hW⟩:∃ W,w.alloc (.cells #[.int .i64 k,.string (txtOf x),.int .i64 l] 106)=W:=⟨_,rfl⟩;have hb:Below w.heap.size w W:=by rw [<-hW];exact (Below.refl _ _).alloc (Nat.le_refl _) _
  have gW:W.heap[w.heap.size]?=some (.cells #[.int .i64 k,.string (txtOf x),.int .i64 l] 106 (0,0)):=by rw [<-hW];exact heap_alloc_new w _
  have c0:W.cell? ⟨w.heap.size,0,none⟩=some (.int .i64 k):=cell_of gW 0;have c1:W.cell? ⟨w.heap.size,1,none⟩=some (.string (txtOf x)):=cell_of gW 1;have c2:W.cell? ⟨w.heap.size,2,none⟩=some (.int .i64 l):=cell_of gW 2;have HL:Hid (Calls Tryz.prog 125 #[.int .i64 l] W fun e w'=>e=.returned (.string (txtOf (litX l)))/\Below W.heap.size W w'):=litText_any l W h0 h1 (hg.next hb);have HB:Hid (Below w.heap.size w W):=hb;have hA1:∀ w,(Op.stringOp .add ⟨#[32]⟩ (txtOf x)).run Tryz.prog w=.ok (.string (txtOf (32 :: x))) w:=fun w=>add_txt [32] x (by simp;omega) w
  have hA4:∀ w,(Op.stringOp .add (txtOf (32 :: x)) ⟨#[32,42]⟩).run Tryz.prog w=.ok (.string (txtOf (32 :: (x++[32,42])))) w:=fun w=>add_txt (32 :: x) [32,42] (by simp;omega) w
  have hA5:∀ w,(Op.stringOp .add (txtOf (32 :: x)) ⟨#[32,100]⟩).run Tryz.prog w=.ok (.string (txtOf (32 :: (x++[32,100])))) w:=fun w=>add_txt (32 :: x) [32,100] (by simp;omega) w
  have hA7:∀ w,(Op.stringOp .add (txtOf (litX l)) ⟨#[32,119]⟩).run Tryz.prog w=.ok (.string (txtOf (litX l++[32,119]))) w:=fun w=>add_txt (litX l) [32,119] (by have:=litX_len h0 h1;simp;omega) w
  obtain ⟨R,hR⟩:∃ R,opX (k,x,l)=R:=⟨_,rfl⟩;rw [hR];unfold opX at hR;simp only at hR;clear hb gW hg
  by_cases k1:k=1
  · subst k1
    rw [if_pos rfl] at hR;have HR:Hid (32 :: x=R):=hR;clear hR;go_enter Tryz.func122,Tryz.ntmps122;go_wp2_with fail
    go_ret;exact ⟨congrArg (fun q=>Ending.returned (.string (txtOf q))) HR.out,HB.out⟩
  rw [if_neg k1] at hR;have f1:(k==1)=false:=by simpa using k1
  clear k1
  by_cases k2:k=2
  · subst k2
    rw [if_pos rfl] at hR;have HR:Hid (litX l=R):=hR;clear hR;go_enter Tryz.func122,Tryz.ntmps122;go_wp2_with fail
    refine calls_at HL.out (by with_reducible rfl) (by with_reducible rfl) ?_;rintro e w1 ⟨rfl,hb1⟩;have HB1:Hid (Below w.heap.size w w1):=bl_next HB.out hb1;clear hb1;go_wp2_with fail
    go_ret;exact ⟨congrArg (fun q=>Ending.returned (.string (txtOf q))) HR.out,HB1.out⟩
  rw [if_neg k2] at hR;have f2:(k==2)=false:=by simpa using k2
  clear k2
  by_cases k3:k=3
  · subst k3
    rw [if_pos rfl] at hR;have HR:Hid ([32,43]=R):=hR;clear hR;go_enter Tryz.func122,Tryz.ntmps122;go_wp2_with fail
    go_ret;exact ⟨congrArg (fun q=>Ending.returned (.string (txtOf q))) HR.out,HB.out⟩
  rw [if_neg k3] at hR;have f3:(k==3)=false:=by simpa using k3
  clear k3
  by_cases k4:k=4
  · subst k4
    rw [if_pos rfl] at hR;have HR:Hid (32 :: (x++[32,42])=R):=hR;clear hR;go_enter Tryz.func122,Tryz.ntmps122;go_wp2_with fail
    go_ret;exact ⟨congrArg (fun q=>Ending.returned (.string (txtOf q))) HR.out,HB.out⟩
  rw [if_neg k4] at hR;have f4:(k==4)=false:=by simpa using k4
  clear k4
  by_cases k5:k=5
  · subst k5
    rw [if_pos rfl] at hR;have HR:Hid (32 :: (x++[32,100])=R):=hR;clear hR;go_enter Tryz.func122,Tryz.ntmps122;go_wp2_with fail
    go_ret;exact ⟨congrArg (fun q=>Ending.returned (.string (txtOf q))) HR.out,HB.out⟩
  rw [if_neg k5] at hR;have f5:(k==5)=false:=by simpa using k5
  clear k5
  by_cases k6:k=6
  · subst k6
    rw [if_pos rfl] at hR;have HR:Hid ([32,115]=R):=hR;clear hR;go_enter Tryz.func122,Tryz.ntmps122;go_wp2_with fail
    go_ret;exact ⟨congrArg (fun q=>Ending.returned (.string (txtOf q))) HR.out,HB.out⟩
  rw [if_neg k6] at hR;have f6:(k==6)=false:=by simpa using k6
  clear k6
  by_cases k7:k=7
  · subst k7
    rw [if_pos rfl] at hR;have HR:Hid (litX l++[32,119]=R):=hR;clear hR;go_enter Tryz.func122,Tryz.ntmps122;go_wp2_with fail
    refine calls_at HL.out (by with_reducible rfl) (by with_reducible rfl) ?_;rintro e w1 ⟨rfl,hb1⟩;have HB1:Hid (Below w.heap.size w w1):=bl_next HB.out hb1;clear hb1;go_wp2_with fail
    go_ret;exact ⟨congrArg (fun q=>Ending.returned (.string (txtOf q))) HR.out,HB1.out⟩
  rw [if_neg k7] at hR;have f7:(k==7)=false:=by simpa using k7
  clear k7;have HR:Hid ([32,63]=R):=hR;clear hR;go_enter Tryz.func122,Tryz.ntmps122;go_wp2_with fail
  go_ret;exact ⟨congrArg (fun q=>Ending.returned (.string (txtOf q))) HR.out,HB.out⟩
end Go.Proofs.YtpcijhecaedkpaaGreatDoor

namespace Go.Proofs.YtpcijhecaedkpaaGreatDoor
open Go.RowKit
set_option maxRecDepth 10000
set_option maxHeartbeats 8000000
def pcX (o:PcL):List UInt8:=32 :: o.1++litX o.2
def pcsX (P:List PcL):List UInt8:=P.flatMap pcX
def rowX (P:List PcL) (deg:List UInt8):List UInt8:=pcsX P++[32,62,61,32]++deg++[32,59]
theorem pcsX_take (P:List PcL) (i:Nat) (hi:i<P.length):pcsX (P.take (i+1))=pcsX (P.take i)++(32 :: P[i].1++litX P[i].2):=by
  unfold pcsX;rw [List.take_succ_eq_append_getElem hi,List.flatMap_append];simp [pcX]
theorem pcsX_len (P:List PcL) (h:∀ o∈P,-9223372036854775808<=o.2/\o.2<=9223372036854775807):(pcsX P).length<=42*tot (P.map fun o=>o.1):=by
  induction P with
  | nil=>simp [pcsX,tot]
  | cons o P ih =>
    have h1:=ih (fun q hq=>h q (List.mem_cons_of_mem _ hq));have h2:=h o (by simp);have h3:=litX_len h2.1 h2.2;have e1:pcsX (o :: P)=pcX o++pcsX P:=by simp [pcsX]
    have e2:tot ((o :: P).map fun o=>o.1)=o.1.length+1+tot (P.map fun o=>o.1):=by simp [tot]
    have e3:(pcX o).length=1+o.1.length+(litX o.2).length:=by simp [pcX];omega
    rw [e1,e2,List.length_append,e3];omega
theorem tot_map_take (P:List PcL) (i:Nat) (hi:i<P.length):tot ((P.take i).map fun o=>o.1)+(P[i].1.length+1)<=tot (P.map fun o=>o.1):=by
  have:=tot_take (P.map fun o=>o.1) i (by simpa using hi);rw [List.map_take];simpa using this
def RtS (W:World) (bx g off i:Nat) (va:Value) (x:List UInt8) (l:Int) (w':World):Prop:=
  w'.cell? ⟨bx,0,none⟩=some va/\w'.cell? ⟨g,off+i*2,none⟩=some (.string (txtOf x))/\w'.cell? ⟨g,off+i*2+1,none⟩=some (.int .i64 l)/\(bx<W.heap.size/\g<W.heap.size)/\Below W.heap.size W w'
theorem RtS.next {W:World} {bx g off i:Nat} {va:Value} {x:List UInt8} {l:Int} {w1 w2:World} (h:RtS W bx g off i va x l w1) (hb:Below w1.heap.size w1 w2):RtS W bx g off i va x l w2:=by
  obtain ⟨c0,c1,c2,⟨l1,l2⟩,bl⟩:=h;have hz:=bl.size;exact ⟨(hb.cell (p:=⟨bx,0,none⟩) (by show bx<_;omega)).trans c0,(hb.cell (p:=⟨g,off+i*2,none⟩) (by show g<_;omega)).trans c1,(hb.cell (p:=⟨g,off+i*2+1,none⟩) (by show g<_;omega)).trans c2,⟨l1,l2⟩,bl_next bl hb⟩
theorem RtS.bl {W:World} {bx g off i:Nat} {va:Value} {x:List UInt8} {l:Int} {w1:World} (h:RtS W bx g off i va x l w1):Below W.heap.size W w1:=h.2.2.2.2
theorem rowText_any (P:List PcL) (deg:List UInt8) (v:Value) (w:World) (h:RdAt w v P.length (pcsC P)) (hP:∀ o∈P,-9223372036854775808<=o.2/\o.2<=9223372036854775807) (hl:tot (P.map fun o=>o.1)+deg.length<=10000000) (hg:Gl w):Calls Tryz.prog 123 #[.agg #[v,.string (txtOf deg)]] w fun e w'=>e=.returned (.string (txtOf (rowX P deg)))/\Below w.heap.size w w':=by
  obtain ⟨a,cap,rfl,hn,hc⟩:=h;obtain ⟨n,hN⟩:∃ n,P.length=n:=⟨_,rfl⟩;obtain ⟨W,hW⟩:∃ W,w.alloc (.cells #[.slice a n cap,.string (txtOf deg)] 49)=W:=⟨_,rfl⟩;have hbW:Below w.heap.size w W:=by rw [<-hW];exact (Below.refl _ _).alloc (Nat.le_refl _) _
  have gW:W.heap[w.heap.size]?=some (.cells #[.slice a n cap,.string (txtOf deg)] 49 (0,0)):=by rw [<-hW];exact heap_alloc_new w _
  have lW:w.heap.size<W.heap.size:=(Array.getElem?_eq_some_iff.1 gW).1;have HC:Hid (∀ w',Below W.heap.size W w'->∀ j (hj:j<P.length),∃ g off,a=some ⟨g,off,none⟩/\RtS W w.heap.size g off j (.slice a n cap) P[j].1 P[j].2 w'):=fun w' hb j hj=>by
    obtain ⟨g,off,e1,e2,e3⟩:=hc (by omega);obtain ⟨p1,p2⟩:=pcs_get P j hj;have hb2:=bl_next hbW hb;have hg2:g<W.heap.size:=by omega
    refine ⟨g,off,e1,?_,?_,?_,⟨lW,hg2⟩,hb⟩
    · exact (hb.cell (p:=⟨w.heap.size,0,none⟩) lW).trans (cell_of gW 0)
    · exact (hb2.cell (p:=⟨g,off+j*2,none⟩) e2).trans (e3 _ _ p1)
    · have e4:=e3 _ _ p2
      rw [show off+(j*2+1)=off+j*2+1 by omega] at e4;exact (hb2.cell (p:=⟨g,off+j*2+1,none⟩) e2).trans e4
  have HD:Hid (∀ w',Below W.heap.size W w'->w'.cell? ⟨w.heap.size,0,none⟩=some (.slice a n cap)/\w'.cell? ⟨w.heap.size,1,none⟩=some (.string (txtOf deg))):=fun w' hb=>⟨(hb.cell (p:=⟨w.heap.size,0,none⟩) lW).trans (cell_of gW 0),(hb.cell (p:=⟨w.heap.size,1,none⟩) lW).trans (cell_of gW 1)⟩
  have HLt:Hid (∀ j (hj:j<P.length) w',Below W.heap.size W w'->Calls Tryz.prog 125 #[.int .i64 P[j].2] w' fun e w2=>e=.returned (.string (txtOf (litX P[j].2)))/\Below w'.heap.size w' w2):=fun j hj w' hb=>litText_any _ w' (hP _ (List.getElem_mem hj)).1 (hP _ (List.getElem_mem hj)).2 ((hg.next hbW).next hb)
  have HP:Hid (∀ o∈P,-9223372036854775808<=o.2/\o.2<=9223372036854775807):=hP;have HN:Hid (P.length=n):=hN;have HBW:Hid (Below w.heap.size w W):=hbW;have hn8:n<=10000000:=by have:=len_tot (P.map fun o=>o.1);simp at this;omega
  have HT:Hid (tot (P.map fun o=>o.1)+deg.length<=10000000):=hl;rw [hN] at hn ⊢;clear hc hN hl hP hg hbW gW lW;go_enter Tryz.func123,Tryz.ntmps123;go_wp2_with fail
  try rw [hW]
  clear hW;go_loopw [3,4] (fun sv iv wr=>∃ i:Nat,sv=.string (txtOf (pcsX (P.take i)))/\iv=.int .i64 (i:Int)/\i<=n/\Hid (Below W.heap.size W wr)) (fun _ iv _=>n-(intOf iv).toNat)
  case atStart=>exact ⟨0,rfl,rfl,Nat.zero_le _,Below.refl _ _⟩
  case round=>
    obtain ⟨i,rfl,rfl,hin,hB⟩:=hrel;have hw1:wrap64 ((i:Int)+1)=((i+1:Nat):Int):=by unfold wrap64;omega
    obtain ⟨d0,d1⟩:=HD.out wr hB.out
    by_cases hi:i<n
    · have hiI:(i:Int)<(n:Int):=by omega
      have hiL:i<P.length:=by have:=HN.out;omega
      obtain ⟨g,off,hag,_⟩:=HC.out wr hB.out i hiL;have hS:RtS W w.heap.size g off i (.slice a n cap) P[i].1 P[i].2 wr.drew:=by
        obtain ⟨g2,off2,h1,h2⟩:=HC.out wr.drew hB.out.drew i hiL;rw [hag] at h1;injection h1 with h1;injection h1 with h3 h4;subst h3 h4;exact h2
      have hLt:=HLt.out i hiL;subst hag;have hl1:=pcsX_len (P.take i) (fun o ho=>HP.out o (List.mem_of_mem_take ho));have hl2:=tot_map_take P i hiL;have hl3:=HT.out;have hl4:=litX_len (HP.out _ (List.getElem_mem hiL)).1 (HP.out _ (List.getElem_mem hiL)).2;obtain ⟨Q,hQ⟩:∃ Q,pcsX (P.take i)=Q:=⟨_,rfl⟩;have HE:Hid (Q++(32 :: (P[i].1++litX P[i].2))=pcsX (P.take (i+1))):=by show _=_;rw [pcsX_take P i hiL,hQ];simp
      rw [hQ] at hl1 ⊢;obtain ⟨x,hx⟩:∃ x,P[i].1=x:=⟨_,rfl⟩;obtain ⟨l,hl⟩:∃ l,P[i].2=l:=⟨_,rfl⟩;rw [hx,hl] at hS HE;rw [hl] at hLt hl4;rw [hx] at hl2;have HL2:Hid (∀ w',Below W.heap.size W w'->Calls Tryz.prog 125 #[.int .i64 l] w' fun e w2=>e=.returned (.string (txtOf (litX l)))/\Below w'.heap.size w' w2):=hLt;have hA1:∀ w,(Op.stringOp .add (txtOf Q) ⟨#[32]⟩).run Tryz.prog w=.ok (.string (txtOf (Q++[32]))) w:=fun w=>add_txt Q [32] (by simp;omega) w
      have hA2:∀ w,(Op.stringOp .add (txtOf (Q++[32])) (txtOf x)).run Tryz.prog w=.ok (.string (txtOf (Q++32 :: x))) w:=fun w=>by have:=add_txt (Q++[32]) x (by simp;omega) w;simpa using this
      have hA3:∀ w,(Op.stringOp .add (txtOf (Q++32 :: x)) (txtOf (litX l))).run Tryz.prog w=.ok (.string (txtOf (Q++32 :: (x++litX l)))) w:=fun w=>by have:=add_txt (Q++32 :: x) (litX l) (by simp;omega) w;simpa using this
      clear hl1 hl2 hl3 hl4 hQ hx hl hLt;go_wp2_with fail
      go_region_held3 (fun w'=>w'.cell? ⟨w.heap.size,0,none⟩=some (.slice (some ⟨g,off,none⟩) n cap)/\w'.cell? ⟨g,off+i*2,none⟩=some (.string (txtOf x))/\w'.cell? ⟨g,off+i*2+1,none⟩=some (.int .i64 l)/\(w.heap.size<W.heap.size/\g<W.heap.size)/\Below W.heap.size W w')
        (first | exact hS | (refine RtS.next (by assumption) (by assumption)))
        (first | (go_at_call 125;refine (HL2.out _ (RtS.bl (by assumption))).mono ?_;rintro e w' ⟨rfl,hb⟩))
      rename_i hHeld
      have HB2:Hid (Below W.heap.size W w'):=hHeld.2.2.2.2;clear hHeld hS hb;go_wp2_with fail
      go_roundw
      case rel=>exact ⟨i+1,by rw [HE.out],by go_num,by omega,HB2⟩
      case measure=>simp [intOf];omega
    · obtain rfl:i=n:=by omega
      have hiI:¬ (i:Int)<(i:Int):=by omega
      have hl1:=pcsX_len P HP.out;have hl3:=HT.out;have HE:Hid (pcsX (P.take i)=pcsX P):=by show _=_;rw [<-HN.out,List.take_length]
      rw [HE.out];obtain ⟨Q,hQ⟩:∃ Q,pcsX P=Q:=⟨_,rfl⟩;have HR:Hid (Q++32 :: 62 :: 61 :: 32 :: (deg++[32,59])=rowX P deg):=by show _=_;unfold rowX;rw [hQ];simp
      rw [hQ] at hl1 ⊢;have hA1:∀ w,(Op.stringOp .add (txtOf Q) ⟨#[32,62,61,32]⟩).run Tryz.prog w=.ok (.string (txtOf (Q++[32,62,61,32]))) w:=fun w=>add_txt Q [32,62,61,32] (by simp;omega) w
      have hA2:∀ w,(Op.stringOp .add (txtOf (Q++[32,62,61,32])) (txtOf deg)).run Tryz.prog w=.ok (.string (txtOf (Q++32 :: 62 :: 61 :: 32 :: deg))) w:=fun w=>by have:=add_txt (Q++[32,62,61,32]) deg (by simp;omega) w;simpa using this
      have hA3:∀ w,(Op.stringOp .add (txtOf (Q++32 :: 62 :: 61 :: 32 :: deg)) ⟨#[32,59]⟩).run Tryz.prog w=.ok (.string (txtOf (Q++32 :: 62 :: 61 :: 32 :: (deg++[32,59])))) w:=fun w=>by have:=add_txt (Q++32 :: 62 :: 61 :: 32 :: deg) [32,59] (by simp;omega) w;rw [show (Q++32 :: 62 :: 61 :: 32 :: deg)++[32,59]=Q++32 :: 62 :: 61 :: 32 :: (deg++[32,59]) by simp] at this;exact this
      clear hl1 hl3 hQ;go_wp2_with fail
      go_ret;exact ⟨congrArg (fun q=>Ending.returned (.string (txtOf q))) HR.out,bl_next HBW.out hB.out⟩
end Go.Proofs.YtpcijhecaedkpaaGreatDoor

namespace Go.Proofs.YtpcijhecaedkpaaGreatDoor
open Go.RowKit
set_option maxRecDepth 10000
set_option maxHeartbeats 8000000
def idX (d:SL):List UInt8:=if d.ids=[] then [] else [32,58]++spW d.ids
def endX (d:SL):List UInt8:=
  if d.ends=1 then [32,78,79,78,69] else if d.ends=2 then [32,85,78,83,65,84]++idX d else if d.ends=3 then [32,83,65,84]
  else if d.ends=5 then [32,66,79,85,78,68,83,32]++d.low++idX d++[32]++d.high else if d.ends=6 then [32,65,76,76,32]++d.high++idX d else [32,63]
theorem idX_len (d:SL):(idX d).length<=tot d.ids+2:=by
  unfold idX
  split
  · simp
  · have:=spW_len d.ids
    simp;omega
theorem endText_any (d:SL) (vo vp vl vi:Value) (w:World) (hs:SlR w d vo vp vl vi) (hl:tot d.ids+d.low.length+d.high.length<=10000000):Calls Tryz.prog 126 #[.agg (slC d vo vp vl vi)] w fun e w'=>e=.returned (.string (txtOf (endX d)))/\Below w.heap.size w w':=by
  obtain ⟨W,hW⟩:∃ W,w.alloc (.cells (slC d vo vp vl vi) 51)=W:=⟨_,rfl⟩;have hb:Below w.heap.size w W:=by rw [<-hW];exact (Below.refl _ _).alloc (Nat.le_refl _) _
  have gW:W.heap[w.heap.size]?=some (.cells (slC d vo vp vl vi) 51 (0,0)):=by rw [<-hW];exact heap_alloc_new w _
  have lW:w.heap.size<W.heap.size:=(Array.getElem?_eq_some_iff.1 gW).1;have HT:Hid (Calls Tryz.prog 124 #[vi] W fun e w'=>e=.returned (.string (txtOf (spW d.ids)))/\Below W.heap.size W w'):=texts_any d.ids vi W (hs.i.below hb) (by omega);have HD:Hid (∀ w',Below W.heap.size W w'->w'.cell? ⟨w.heap.size,7,none⟩=some (.int .i64 d.ends)/\w'.cell? ⟨w.heap.size,8,none⟩=some (.string (txtOf d.low))/\w'.cell? ⟨w.heap.size,9,none⟩=some (.string (txtOf d.high))):=fun w' hb'=>⟨(hb'.cell (p:=⟨w.heap.size,7,none⟩) lW).trans (cell_of gW 7),(hb'.cell (p:=⟨w.heap.size,8,none⟩) lW).trans (cell_of gW 8),(hb'.cell (p:=⟨w.heap.size,9,none⟩) lW).trans (cell_of gW 9)⟩
  obtain ⟨ia,ic,rfl,_⟩:=hs.i;obtain ⟨oa,oc,rfl,_⟩:=hs.o;obtain ⟨pa,pc,rfl,_⟩:=hs.p;obtain ⟨la,lc,rfl,_⟩:=hs.l;have c6:W.cell? ⟨w.heap.size,6,none⟩=some (.slice ia d.ids.length ic):=cell_of gW 6;have HB:Hid (Below w.heap.size w W):=hb;have hil:=idX_len d;have hsl:=spW_len d.ids;obtain ⟨I,hI⟩:∃ I,idX d=I:=⟨_,rfl⟩;obtain ⟨R,hR⟩:∃ R,endX d=R:=⟨_,rfl⟩;rw [hR];unfold endX at hR;rw [hI] at hR hil;unfold idX at hI;have hA0:∀ w,(Op.stringOp .add ⟨#[32,58]⟩ (txtOf (spW d.ids))).run Tryz.prog w=.ok (.string (txtOf ([32,58]++spW d.ids))) w:=fun w=>add_txt [32,58] (spW d.ids) (by simp;omega) w
  have hA2:∀ w,(Op.stringOp .add ⟨#[32,85,78,83,65,84]⟩ (txtOf I)).run Tryz.prog w=.ok (.string (txtOf ([32,85,78,83,65,84]++I))) w:=fun w=>add_txt [32,85,78,83,65,84] I (by simp;omega) w
  have HA3:Hid (∀ a b:List UInt8,a.length+b.length<=900000000->∀ w,(Op.stringOp .add (txtOf a) (txtOf b)).run Tryz.prog w=.ok (.string (txtOf (a++b))) w):=fun a b h w=>add_txt a b h w
  simp only [slC] at hW;clear hb gW lW hs;have HR:Hid ((if d.ends=1 then [32,78,79,78,69] else if d.ends=2 then [32,85,78,83,65,84]++I else if d.ends=3 then [32,83,65,84] else if d.ends=5 then [32,66,79,85,78,68,83,32]++d.low++I++[32]++d.high else if d.ends=6 then [32,65,76,76,32]++d.high++I else [32,63])=R):=hR;have HI:Hid ((if d.ids=[] then [] else [32,58]++spW d.ids)=I):=hI;clear hR hI;simp only [slC];obtain ⟨bb,hbb⟩:∃ q,decide (0<d.ids.length)=q:=⟨_,rfl⟩;have HBB:Hid (decide (0<d.ids.length)=bb):=hbb;go_enter Tryz.func126,Tryz.ntmps126;go_upto_if 7 with fail
  try rw [hW]
  go_cut [3] from 8 to 11 (fun s3 wx=>s3=.string (txtOf I)/\Hid (Below W.heap.size W wx))
  case first=>
    cases bb with
    | false =>
      have HIq:Hid (I=[]):=by
        show _=_;have h0:=HBB.out;rw [<-HI.out,if_pos (List.length_eq_zero_iff.1 (by simp at h0;exact List.length_eq_zero_iff.2 h0))]
      go_wp2_with fail
      go_meet;exact ⟨by rw [HIq.out];rfl,Below.refl _ _⟩
    | true =>
      have HIq:Hid (I=[32,58]++spW d.ids):=by
        show _=_;have h0:=HBB.out;rw [<-HI.out,if_neg (fun e=>by rw [e] at h0;simp at h0)]
      go_wp2_with fail
      refine calls_at HT.out (by with_reducible rfl) (by with_reducible rfl) ?_;rintro e w1 ⟨rfl,hb1⟩;have HB1:Hid (Below W.heap.size W w1):=hb1;clear hb1;go_wp2_with fail
      go_meet;exact ⟨by rw [HIq.out];rfl,HB1.out⟩
  case rest=>
  obtain ⟨rfl,hcb⟩:=hcut;have HBc:Hid (Below w.heap.size w wc):=bl_next HB.out hcb.out;obtain ⟨d7,d8,d9'⟩:=HD.out wc hcb.out;clear hcb hA0 HT HD c6 hW HI;have hR:=HR.out;clear HR;obtain ⟨en,hen⟩:∃ q,d.ends=q:=⟨_,rfl⟩;obtain ⟨lo,hlo⟩:∃ q,d.low=q:=⟨_,rfl⟩;obtain ⟨hi,hhi⟩:∃ q,d.high=q:=⟨_,rfl⟩;rw [hen,hlo,hhi] at hR;rw [hen] at d7;rw [hlo] at d8;rw [hhi] at d9';rw [hlo,hhi] at hl;have b1:∀ w,(Op.stringOp .add ⟨#[32,66,79,85,78,68,83,32]⟩ (txtOf lo)).run Tryz.prog w=.ok (.string (txtOf ([32,66,79,85,78,68,83,32]++lo))) w:=fun w=>add_txt [32,66,79,85,78,68,83,32] lo (by simp;omega) w
  have b2:∀ w,(Op.stringOp .add (txtOf ([32,66,79,85,78,68,83,32]++lo)) (txtOf I)).run Tryz.prog w=.ok (.string (txtOf ([32,66,79,85,78,68,83,32]++lo++I))) w:=fun w=>add_txt ([32,66,79,85,78,68,83,32]++lo) I (by simp;omega) w
  have b3:∀ w,(Op.stringOp .add (txtOf ([32,66,79,85,78,68,83,32]++lo++I)) ⟨#[32]⟩).run Tryz.prog w=.ok (.string (txtOf ([32,66,79,85,78,68,83,32]++lo++I++[32]))) w:=fun w=>add_txt ([32,66,79,85,78,68,83,32]++lo++I) [32] (by simp;omega) w
  have b4:∀ w,(Op.stringOp .add (txtOf ([32,66,79,85,78,68,83,32]++lo++I++[32])) (txtOf hi)).run Tryz.prog w=.ok (.string (txtOf ([32,66,79,85,78,68,83,32]++lo++I++[32]++hi))) w:=fun w=>add_txt ([32,66,79,85,78,68,83,32]++lo++I++[32]) hi (by simp;omega) w
  have g1:∀ w,(Op.stringOp .add ⟨#[32,65,76,76,32]⟩ (txtOf hi)).run Tryz.prog w=.ok (.string (txtOf ([32,65,76,76,32]++hi))) w:=fun w=>add_txt [32,65,76,76,32] hi (by simp;omega) w
  have g2:∀ w,(Op.stringOp .add (txtOf ([32,65,76,76,32]++hi)) (txtOf I)).run Tryz.prog w=.ok (.string (txtOf ([32,65,76,76,32]++hi++I))) w:=fun w=>add_txt ([32,65,76,76,32]++hi) I (by simp;omega) w
  obtain ⟨T1,hT1⟩:∃ q,[32,66,79,85,78,68,83,32]++lo=q:=⟨_,rfl⟩;rw [hT1] at b1 b2 b3 b4 hR;obtain ⟨T2,hT2⟩:∃ q,T1++I=q:=⟨_,rfl⟩;rw [hT2] at b2 b3 b4 hR;obtain ⟨T3,hT3⟩:∃ q,T2++[32]=q:=⟨_,rfl⟩;rw [hT3] at b3 b4 hR;obtain ⟨T4,hT4⟩:∃ q,T3++hi=q:=⟨_,rfl⟩;rw [hT4] at b4 hR;obtain ⟨U1,hU1⟩:∃ q,[32,65,76,76,32]++hi=q:=⟨_,rfl⟩;rw [hU1] at g1 g2 hR;obtain ⟨U2,hU2⟩:∃ q,U1++I=q:=⟨_,rfl⟩;rw [hU2] at g2 hR;obtain ⟨S2,hS2⟩:∃ q,[32,85,78,83,65,84]++I=q:=⟨_,rfl⟩;rw [hS2] at hA2 hR;clear hT1 hT2 hT3 hT4 hU1 hU2 hS2 hen hlo hhi hil hl hsl
  by_cases k1:en=1
  · subst k1
    rw [if_pos rfl] at hR;have HR:Hid ([32,78,79,78,69]=R):=hR;clear hR;go_wp2_with fail
    go_ret;exact ⟨congrArg (fun q=>Ending.returned (.string (txtOf q))) HR.out,HBc.out⟩
  rw [if_neg k1] at hR;have f1:(en==1)=false:=by simpa using k1
  clear k1
  by_cases k2:en=2
  · subst k2
    rw [if_pos rfl] at hR;have HR:Hid (S2=R):=hR;clear hR;go_wp2_with fail
    go_ret;exact ⟨congrArg (fun q=>Ending.returned (.string (txtOf q))) HR.out,HBc.out⟩
  rw [if_neg k2] at hR;have f2:(en==2)=false:=by simpa using k2
  clear k2
  by_cases k3:en=3
  · subst k3
    rw [if_pos rfl] at hR;have HR:Hid ([32,83,65,84]=R):=hR;clear hR;go_wp2_with fail
    go_ret;exact ⟨congrArg (fun q=>Ending.returned (.string (txtOf q))) HR.out,HBc.out⟩
  rw [if_neg k3] at hR;have f3:(en==3)=false:=by simpa using k3
  clear k3
  by_cases k5:en=5
  · subst k5
    rw [if_pos rfl] at hR;have HR:Hid (T4=R):=hR;clear hR;go_wp2_with fail
    go_ret;exact ⟨congrArg (fun q=>Ending.returned (.string (txtOf q))) HR.out,HBc.out⟩
  rw [if_neg k5] at hR;have f5:(en==5)=false:=by simpa using k5
  clear k5
  by_cases k6:en=6
  · subst k6
    rw [if_pos rfl] at hR;have HR:Hid (U2=R):=hR;clear hR;go_wp2_with fail
    go_ret;exact ⟨congrArg (fun q=>Ending.returned (.string (txtOf q))) HR.out,HBc.out⟩
  rw [if_neg k6] at hR;have f6:(en==6)=false:=by simpa using k6
  clear k6;have HR:Hid ([32,63]=R):=hR;clear hR;go_wp2_with fail
  go_ret;exact ⟨congrArg (fun q=>Ending.returned (.string (txtOf q))) HR.out,HBc.out⟩
end Go.Proofs.YtpcijhecaedkpaaGreatDoor

namespace Go.Proofs.YtpcijhecaedkpaaGreatDoor
open Go.RowKit
set_option maxRecDepth 10000
set_option maxHeartbeats 8000000
def opsX (L:List OpL):List UInt8:=L.flatMap opX
def litsX (L:List Int):List UInt8:=L.flatMap litX
def lnX (d:SL):List UInt8:=
  if d.k=1 then [112,115,101,117,100,111,45,66,111,111,108,101,97,110,32,112,114,111,111,102,32,118,101,114,115,105,111,110,32,50,46,48] else if d.k=2 then [102,32]++d.n else if d.k=3 then [112,111,108]++opsX d.ops
  else if d.k=4 then [114,117,112]++rowX d.pcs d.deg++spW d.ids else if d.k=12 then [101]++spW d.ids++rowX d.pcs d.deg
  else if d.k=5 then [115,111,108,105]++litsX d.lits else if d.k=11 then [115,111,108,120]++litsX d.lits else if d.k=6 then [100,101,108,32,105,100]++spW d.ids
  else if d.k=7 then [42] else if d.k=8 then [111,117,116,112,117,116,32,78,79,78,69] else if d.k=9 then [99,111,110,99,108,117,115,105,111,110]++endX d
  else if d.k=10 then [101,110,100,32,112,115,101,117,100,111,45,66,111,111,108,101,97,110,32,112,114,111,111,102] else [63]
theorem opX_len (o:OpL) (h:-9223372036854775808<=o.2.2/\o.2.2<=9223372036854775807):(opX o).length<=o.2.1.length+44:=by
  have h2:=litX_len h.1 h.2;unfold opX
  repeat' split
  all_goals (simp;try omega)
theorem opsX_len (L:List OpL) (h:∀ o∈L,-9223372036854775808<=o.2.2/\o.2.2<=9223372036854775807):(opsX L).length<=44*tot (L.map fun o=>o.2.1):=by
  induction L with
  | nil=>simp [opsX,tot]
  | cons o L ih =>
    have h1:=ih (fun q hq=>h q (List.mem_cons_of_mem _ hq));have h3:=opX_len o (h o (by simp));have e1:opsX (o :: L)=opX o++opsX L:=by simp [opsX]
    have e2:tot ((o :: L).map fun o=>o.2.1)=o.2.1.length+1+tot (L.map fun o=>o.2.1):=by simp [tot]
    rw [e1,e2,List.length_append];omega
theorem litsX_len (L:List Int) (h:∀ o∈L,-9223372036854775808<=o/\o<=9223372036854775807):(litsX L).length<=40*L.length:=by
  induction L with
  | nil=>simp [litsX]
  | cons o L ih =>
    have h1:=ih (fun q hq=>h q (List.mem_cons_of_mem _ hq));have h2:=h o (by simp);have h3:=litX_len h2.1 h2.2;have e1:litsX (o :: L)=litX o++litsX L:=by simp [litsX]
    rw [e1,List.length_append,List.length_cons];omega
theorem endX_len (d:SL):(endX d).length<=tot d.ids+d.low.length+d.high.length+20:=by
  have:=idX_len d;unfold endX
  repeat' split
  all_goals (simp;try omega)
theorem rowX_len (P:List PcL) (deg:List UInt8) (h:∀ o∈P,-9223372036854775808<=o.2/\o.2<=9223372036854775807):(rowX P deg).length<=42*tot (P.map fun o=>o.1)+deg.length+6:=by
  have:=pcsX_len P h;unfold rowX;simp;omega
theorem opsX_take (L:List OpL) (i:Nat) (hi:i<L.length):opsX (L.take (i+1))=opsX (L.take i)++opX L[i]:=by
  unfold opsX;rw [List.take_succ_eq_append_getElem hi,List.flatMap_append];simp
theorem litsX_take (L:List Int) (i:Nat) (hi:i<L.length):litsX (L.take (i+1))=litsX (L.take i)++litX L[i]:=by
  unfold litsX;rw [List.take_succ_eq_append_getElem hi,List.flatMap_append];simp
def szX (d:SL):Nat:=d.n.length+tot (d.ops.map fun o=>o.2.1)+tot (d.pcs.map fun o=>o.1)+d.deg.length+d.lits.length+tot d.ids+d.low.length+d.high.length
def RlS (W:World) (bx:Nat) (vp vi:Value) (deg:List UInt8) (w':World):Prop:=
  w'.cell? ⟨bx,3,none⟩=some vp/\w'.cell? ⟨bx,4,none⟩=some (.string (txtOf deg))/\w'.cell? ⟨bx,6,none⟩=some vi/\bx<W.heap.size/\Below W.heap.size W w'
theorem RlS.next {W:World} {bx:Nat} {vp vi:Value} {deg:List UInt8} {w1 w2:World} (h:RlS W bx vp vi deg w1) (hb:Below w1.heap.size w1 w2):RlS W bx vp vi deg w2:=by
  obtain ⟨c0,c1,c2,l1,bl⟩:=h;have hz:=bl.size;exact ⟨(hb.cell (p:=⟨bx,3,none⟩) (by show bx<_;omega)).trans c0,(hb.cell (p:=⟨bx,4,none⟩) (by show bx<_;omega)).trans c1,(hb.cell (p:=⟨bx,6,none⟩) (by show bx<_;omega)).trans c2,l1,bl_next bl hb⟩
theorem RlS.bl {W:World} {bx:Nat} {vp vi:Value} {deg:List UInt8} {w1:World} (h:RlS W bx vp vi deg w1):Below W.heap.size W w1:=h.2.2.2.2
theorem line_any (d:SL) (vo vp vl vi:Value) (w:World) (hs:SlR w d vo vp vl vi) (hi:SlI d) (hl:szX d<=10000000) (hg:Gl w):Calls Tryz.prog 59 #[.agg (slC d vo vp vl vi)] w fun e w'=>e=.returned (.string (txtOf (lnX d)))/\Below w.heap.size w w':=by
  obtain ⟨W,hW⟩:∃ W,w.alloc (.cells (slC d vo vp vl vi) 51)=W:=⟨_,rfl⟩;have hb:Below w.heap.size w W:=by rw [<-hW];exact (Below.refl _ _).alloc (Nat.le_refl _) _
  have gW:W.heap[w.heap.size]?=some (.cells (slC d vo vp vl vi) 51 (0,0)):=by rw [<-hW];exact heap_alloc_new w _
  have lW:w.heap.size<W.heap.size:=(Array.getElem?_eq_some_iff.1 gW).1;unfold szX at hl;have HTx:Hid (∀ w',Below W.heap.size W w'->Calls Tryz.prog 124 #[vi] w' fun e w2=>e=.returned (.string (txtOf (spW d.ids)))/\Below w'.heap.size w' w2):=fun w' hb'=>texts_any d.ids vi w' (hs.i.below (bl_next hb hb')) (by omega)
  have HRo:Hid (∀ w',Below W.heap.size W w'->Calls Tryz.prog 123 #[.agg #[vp,.string (txtOf d.deg)]] w' fun e w2=>e=.returned (.string (txtOf (rowX d.pcs d.deg)))/\Below w'.heap.size w' w2):=fun w' hb'=>rowText_any d.pcs d.deg vp w' (hs.p.below (bl_next hb hb')) hi.p (by omega) (hg.next (bl_next hb hb'))
  have HEn:Hid (Calls Tryz.prog 126 #[.agg (slC d vo vp vl vi)] W fun e w2=>e=.returned (.string (txtOf (endX d)))/\Below W.heap.size W w2):=endText_any d vo vp vl vi W (hs.below hb) (by omega);have HSr:Hid (SlR W d vo vp vl vi):=hs.below hb;have HGl:Hid (Gl W):=hg.next hb;have HSi:Hid (SlI d):=hi;obtain ⟨ia,ic,rfl,_⟩:=hs.i;obtain ⟨oa,oc,rfl,_⟩:=hs.o;obtain ⟨pa,pc,rfl,_⟩:=hs.p;obtain ⟨la,lc,rfl,_⟩:=hs.l;have HD:Hid (∀ w' i,Below W.heap.size W w'->w'.cell? ⟨w.heap.size,i,none⟩=(slC d (.slice oa d.ops.length oc) (.slice pa d.pcs.length pc) (.slice la d.lits.length lc) (.slice ia d.ids.length ic))[i]?):=fun w' i hb'=>(hb'.cell (p:=⟨w.heap.size,i,none⟩) lW).trans (cell_of gW i)
  have c0:W.cell? ⟨w.heap.size,0,none⟩=some (.int .i64 d.k):=cell_of gW 0;have HB:Hid (Below w.heap.size w W):=hb;have HLW:Hid (w.heap.size<W.heap.size):=lW;have hsp:=spW_len d.ids;have hro:=rowX_len d.pcs d.deg hi.p;have hen:=endX_len d;have hop:=opsX_len d.ops hi.o;have hli:=litsX_len d.lits hi.l;have HZ:Hid ((spW d.ids).length<=10000000/\(rowX d.pcs d.deg).length<=500000000/\(endX d).length<=10000020/\d.n.length<=10000000/\tot (d.ops.map fun o=>o.2.1)<=10000000/\d.lits.length<=10000000):=⟨by omega,by omega,by omega,by omega,by omega,by omega⟩;obtain ⟨R,hR⟩:∃ R,lnX d=R:=⟨_,rfl⟩;rw [hR];unfold lnX at hR;obtain ⟨k,hk⟩:∃ k,d.k=k:=⟨_,rfl⟩;rw [hk] at hR c0;have HK:Hid (d.k=k):=hk;simp only [slC] at hW;clear hb gW lW hs hi hl hg hsp hro hen hop hli
  rw [show (slC d (.slice oa d.ops.length oc) (.slice pa d.pcs.length pc) (.slice la d.lits.length lc) (.slice ia d.ids.length ic))=#[.int .i64 k,.string (txtOf d.n),.slice oa d.ops.length oc,.slice pa d.pcs.length pc,.string (txtOf d.deg),.slice la d.lits.length lc,.slice ia d.ids.length ic,.int .i64 d.ends,.string (txtOf d.low),.string (txtOf d.high)] by unfold slC;rw [hk]];rw [hk] at hW;clear hk
  by_cases k1:k=1
  · subst k1
    rw [if_pos rfl] at hR;have HR:Hid ([112,115,101,117,100,111,45,66,111,111,108,101,97,110,32,112,114,111,111,102,32,118,101,114,115,105,111,110,32,50,46,48]=R):=hR;clear hR;go_enter Tryz.func59,Tryz.ntmps59;go_wp2_with fail
    go_ret;exact ⟨congrArg (fun q=>Ending.returned (.string (txtOf q))) HR.out,HB.out⟩
  rw [if_neg k1] at hR;have f1:(k==1)=false:=by simpa using k1
  clear k1
  by_cases k2:k=2
  · subst k2
    rw [if_pos rfl] at hR;have HR:Hid ([102,32]++d.n=R):=hR;have c1:W.cell? ⟨w.heap.size,1,none⟩=some (.string (txtOf d.n)):=HD.out W 1 (Below.refl _ _);have hA:∀ w,(Op.stringOp .add ⟨#[102,32]⟩ (txtOf d.n)).run Tryz.prog w=.ok (.string (txtOf ([102,32]++d.n))) w:=fun w=>add_txt [102,32] d.n (by have:=HZ.out.2.2.2.1;simp;omega) w
    clear hR;go_enter Tryz.func59,Tryz.ntmps59;go_wp2_with fail
    go_ret;exact ⟨congrArg (fun q=>Ending.returned (.string (txtOf q))) HR.out,HB.out⟩
  rw [if_neg k2] at hR;have f2:(k==2)=false:=by simpa using k2
  clear k2
  by_cases k3:k=3
  · subst k3
    rw [if_pos rfl] at hR;have HR:Hid ([112,111,108]++opsX d.ops=R):=hR;clear hR;have HC:Hid (∀ w',Below W.heap.size W w'->∀ j (hj:j<d.ops.length),∃ g off,oa=some ⟨g,off,none⟩/\w'.cell? ⟨g,off+j*3,none⟩=some (.int .i64 d.ops[j].1)/\w'.cell? ⟨g,off+j*3+1,none⟩=some (.string (txtOf d.ops[j].2.1))/\w'.cell? ⟨g,off+j*3+2,none⟩=some (.int .i64 d.ops[j].2.2)):=fun w' hb' j hj=>by
      obtain ⟨a',cap',e0,_,hc⟩:=HSr.out.o;injection e0 with e0;obtain ⟨g,off,e1,e2,e3⟩:=hc (by omega);obtain ⟨p1,p2,p3⟩:=ops_get d.ops j hj;refine ⟨g,off,e0.trans e1,(hb'.cell (p:=⟨g,off+j*3,none⟩) e2).trans (e3 _ _ p1),?_,?_⟩
      · have e4:=e3 _ _ p2
        rw [<-Nat.add_assoc] at e4;exact (hb'.cell (p:=⟨g,off+j*3+1,none⟩) e2).trans e4
      · have e4:=e3 _ _ p3
        rw [<-Nat.add_assoc] at e4;exact (hb'.cell (p:=⟨g,off+j*3+2,none⟩) e2).trans e4
    obtain ⟨n,hN⟩:∃ n,d.ops.length=n:=⟨_,rfl⟩;have HN:Hid (d.ops.length=n):=hN;have hn8:n<=10000000:=by have:=len_tot (d.ops.map fun o=>o.2.1);have:=HZ.out.2.2.2.2.1;simp at *;omega
    rw [hN] at hW ⊢;have HD2:Hid (∀ w',Below W.heap.size W w'->w'.cell? ⟨w.heap.size,2,none⟩=some (.slice oa n oc)):=fun w' hb'=>by rw [<-HN.out];exact HD.out w' 2 hb'
    clear hN HEn;go_enter Tryz.func59,Tryz.ntmps59;go_wp2_with fail
    try rw [hW]
    clear hW;go_loopw [3,4] (fun sv iv wr=>∃ i:Nat,sv=.string (txtOf ([112,111,108]++opsX (d.ops.take i)))/\iv=.int .i64 (i:Int)/\i<=n/\Hid (Below W.heap.size W wr)) (fun _ iv _=>n-(intOf iv).toNat)
    case atStart=>exact ⟨0,rfl,rfl,Nat.zero_le _,Below.refl _ _⟩
    case round=>
      obtain ⟨i,rfl,rfl,hin,hB⟩:=hrel;have hw1:wrap64 ((i:Int)+1)=((i+1:Nat):Int):=by unfold wrap64;omega
      have d2:=HD2.out wr hB.out
      by_cases hi:i<n
      · have hiI:(i:Int)<(n:Int):=by omega
        have hiL:i<d.ops.length:=by have:=HN.out;omega
        obtain ⟨g,off,hag,q0,q1,q2⟩:=HC.out wr hB.out i hiL;subst hag;have hzo:=HZ.out.2.2.2.2.1;have hsi:=HSi.out.o _ (List.getElem_mem hiL);have hx1:d.ops[i].2.1.length<=10000000:=by
          have:=tot_take (d.ops.map fun o=>o.2.1) i (by simpa using hiL);simp at this;omega
        have HO:Hid (Calls Tryz.prog 122 #[.agg #[.int .i64 d.ops[i].1,.string (txtOf d.ops[i].2.1),.int .i64 d.ops[i].2.2]] wr fun e w2=>e=.returned (.string (txtOf (opX d.ops[i])))/\Below wr.heap.size wr w2):=opText_any _ wr hsi.1 hsi.2 (by omega) (HGl.out.next hB.out);have hl1:=opsX_len (d.ops.take i) (fun o ho=>HSi.out.o o (List.mem_of_mem_take ho));have hl2:=tot_take_le (d.ops.map fun o=>o.2.1) i;rw [<-List.map_take] at hl2;have hl3:=opX_len _ hsi;obtain ⟨Q,hQ⟩:∃ Q,[112,111,108]++opsX (d.ops.take i)=Q:=⟨_,rfl⟩;have hQl:Q.length<=500000000:=by rw [<-hQ];simp;omega
        have HE:Hid (Q++opX d.ops[i]=[112,111,108]++opsX (d.ops.take (i+1))):=by show _=_;rw [opsX_take d.ops i hiL,<-hQ];simp
        rw [hQ];have hA:∀ w,(Op.stringOp .add (txtOf Q) (txtOf (opX d.ops[i]))).run Tryz.prog w=.ok (.string (txtOf (Q++opX d.ops[i]))) w:=fun w=>add_txt Q _ (by omega) w
        clear hl1 hl2 hl3 hQ hQl hx1 hsi hzo;go_wp2_with fail
        refine calls_at HO.out (by with_reducible rfl) (by with_reducible rfl) ?_;rintro e w2 ⟨rfl,hb2⟩;have HB2:Hid (Below W.heap.size W w2):=bl_next hB.out hb2;clear hb2 q0 q1 q2 d2 HO;go_wp2_with fail
        go_roundw
        case rel=>exact ⟨i+1,by rw [HE.out],by go_num,by omega,HB2⟩
        case measure=>simp [intOf];omega
      · obtain rfl:i=n:=by omega
        have hiI:¬ (i:Int)<(i:Int):=by omega
        have HE:Hid ([112,111,108]++opsX (d.ops.take i)=R):=by show _=_;rw [<-HR.out,<-HN.out,List.take_length]
        go_wp2_with fail
        go_ret;exact ⟨congrArg (fun q=>Ending.returned (.string (txtOf q))) HE.out,bl_next HB.out hB.out⟩
  rw [if_neg k3] at hR;have f3:(k==3)=false:=by simpa using k3
  clear k3
  by_cases k4:k=4
  · subst k4
    rw [if_pos rfl] at hR;have HR:Hid ([114,117,112]++rowX d.pcs d.deg++spW d.ids=R):=hR;clear hR;have hS:RlS W w.heap.size (.slice pa d.pcs.length pc) (.slice ia d.ids.length ic) d.deg W.drew:=⟨HD.out W.drew 3 (Below.refl _ _).drew,HD.out W.drew 4 (Below.refl _ _).drew,HD.out W.drew 6 (Below.refl _ _).drew,HLW.out,(Below.refl _ _).drew⟩;obtain ⟨T1,hT1⟩:∃ q,[114,117,112]++rowX d.pcs d.deg=q:=⟨_,rfl⟩;rw [hT1] at HR;have hz1:=HZ.out.1;have hz2:=HZ.out.2.1;have hA1:∀ w,(Op.stringOp .add ⟨#[114,117,112]⟩ (txtOf (rowX d.pcs d.deg))).run Tryz.prog w=.ok (.string (txtOf T1)) w:=fun w=>by rw [<-hT1];exact add_txt [114,117,112] (rowX d.pcs d.deg) (by simp;omega) w
    have hA2:∀ w,(Op.stringOp .add (txtOf T1) (txtOf (spW d.ids))).run Tryz.prog w=.ok (.string (txtOf (T1++spW d.ids))) w:=fun w=>add_txt T1 (spW d.ids) (by rw [<-hT1];simp;omega) w
    clear hT1 hz1 hz2 HEn;go_enter Tryz.func59,Tryz.ntmps59;go_wp2_with fail
    try rw [hW]
    go_region_held3 (fun w'=>w'.cell? ⟨w.heap.size,3,none⟩=some (.slice pa d.pcs.length pc)/\w'.cell? ⟨w.heap.size,4,none⟩=some (.string (txtOf d.deg))/\w'.cell? ⟨w.heap.size,6,none⟩=some (.slice ia d.ids.length ic)/\w.heap.size<W.heap.size/\Below W.heap.size W w')
      (first | exact hS | (refine RlS.next (by assumption) (by assumption)))
      (first | (go_at_call 123;refine (HRo.out _ (RlS.bl (by assumption))).mono ?_;rintro e w' ⟨rfl,hb⟩) | (go_at_call 124;refine (HTx.out _ (RlS.bl (by assumption))).mono ?_;rintro e w' ⟨rfl,hb⟩))
    all_goals
      rename_i hHeld
      have HB2:Hid (Below W.heap.size W w'):=hHeld.2.2.2.2;clear hHeld;go_wp2_with fail
      go_ret;exact ⟨congrArg (fun q=>Ending.returned (.string (txtOf q))) HR.out,bl_next HB.out HB2.out⟩
  rw [if_neg k4] at hR;have f4:(k==4)=false:=by simpa using k4
  clear k4
  by_cases k12:k=12
  · subst k12
    rw [if_pos rfl] at hR;have HR:Hid ([101]++spW d.ids++rowX d.pcs d.deg=R):=hR;clear hR;have hS:RlS W w.heap.size (.slice pa d.pcs.length pc) (.slice ia d.ids.length ic) d.deg W.drew:=⟨HD.out W.drew 3 (Below.refl _ _).drew,HD.out W.drew 4 (Below.refl _ _).drew,HD.out W.drew 6 (Below.refl _ _).drew,HLW.out,(Below.refl _ _).drew⟩;obtain ⟨T1,hT1⟩:∃ q,[101]++spW d.ids=q:=⟨_,rfl⟩;rw [hT1] at HR;have hz1:=HZ.out.1;have hz2:=HZ.out.2.1;have hA1:∀ w,(Op.stringOp .add ⟨#[101]⟩ (txtOf (spW d.ids))).run Tryz.prog w=.ok (.string (txtOf T1)) w:=fun w=>by rw [<-hT1];exact add_txt [101] (spW d.ids) (by simp;omega) w
    have hA2:∀ w,(Op.stringOp .add (txtOf T1) (txtOf (rowX d.pcs d.deg))).run Tryz.prog w=.ok (.string (txtOf (T1++rowX d.pcs d.deg))) w:=fun w=>add_txt T1 (rowX d.pcs d.deg) (by rw [<-hT1];simp;omega) w
    clear hT1 hz1 hz2 HEn;go_enter Tryz.func59,Tryz.ntmps59;go_wp2_with fail
    try rw [hW]
    go_region_held3 (fun w'=>w'.cell? ⟨w.heap.size,3,none⟩=some (.slice pa d.pcs.length pc)/\w'.cell? ⟨w.heap.size,4,none⟩=some (.string (txtOf d.deg))/\w'.cell? ⟨w.heap.size,6,none⟩=some (.slice ia d.ids.length ic)/\w.heap.size<W.heap.size/\Below W.heap.size W w')
      (first | exact hS | (refine RlS.next (by assumption) (by assumption)))
      (first | (go_at_call 123;refine (HRo.out _ (RlS.bl (by assumption))).mono ?_;rintro e w' ⟨rfl,hb⟩) | (go_at_call 124;refine (HTx.out _ (RlS.bl (by assumption))).mono ?_;rintro e w' ⟨rfl,hb⟩))
    all_goals
      rename_i hHeld
      have HB2:Hid (Below W.heap.size W w'):=hHeld.2.2.2.2;clear hHeld;go_wp2_with fail
      go_ret;exact ⟨congrArg (fun q=>Ending.returned (.string (txtOf q))) HR.out,bl_next HB.out HB2.out⟩
  rw [if_neg k12] at hR;have f12:(k==12)=false:=by simpa using k12
  clear k12
  by_cases k5:k=5
  · subst k5
    rw [if_pos rfl] at hR;have HR:Hid ([115,111,108,105]++litsX d.lits=R):=hR;clear hR;have HC:Hid (∀ w',Below W.heap.size W w'->∀ j (hj:j<d.lits.length),∃ g off,la=some ⟨g,off,none⟩/\w'.cell? ⟨g,off+j,none⟩=some (.int .i64 d.lits[j])):=fun w' hb' j hj=>by
      obtain ⟨a',cap',e0,_,hc⟩:=HSr.out.l;injection e0 with e0;obtain ⟨g,off,e1,e2,e3⟩:=hc (by omega);exact ⟨g,off,e0.trans e1,(hb'.cell (p:=⟨g,off+j,none⟩) e2).trans (e3 _ _ (by simp [hj]))⟩
    obtain ⟨n,hN⟩:∃ n,d.lits.length=n:=⟨_,rfl⟩;have HN:Hid (d.lits.length=n):=hN;have hn8:n<=10000000:=by have:=HZ.out.2.2.2.2.2;omega
    rw [hN] at hW ⊢;have HD2:Hid (∀ w',Below W.heap.size W w'->w'.cell? ⟨w.heap.size,5,none⟩=some (.slice la n lc)):=fun w' hb'=>by rw [<-HN.out];exact HD.out w' 5 hb'
    clear hN HEn;go_enter Tryz.func59,Tryz.ntmps59;go_wp2_with fail
    try rw [hW]
    clear hW;go_loopw [5,6] (fun sv iv wr=>∃ i:Nat,sv=.string (txtOf ([115,111,108,105]++litsX (d.lits.take i)))/\iv=.int .i64 (i:Int)/\i<=n/\Hid (Below W.heap.size W wr)) (fun _ iv _=>n-(intOf iv).toNat)
    case atStart=>exact ⟨0,rfl,rfl,Nat.zero_le _,Below.refl _ _⟩
    case round=>
      obtain ⟨i,rfl,rfl,hin,hB⟩:=hrel;have hw1:wrap64 ((i:Int)+1)=((i+1:Nat):Int):=by unfold wrap64;omega
      have d2:=HD2.out wr hB.out
      by_cases hi:i<n
      · have hiI:(i:Int)<(n:Int):=by omega
        have hiL:i<d.lits.length:=by have:=HN.out;omega
        obtain ⟨g,off,hag,q0⟩:=HC.out wr hB.out i hiL;subst hag;have hsi:=HSi.out.l _ (List.getElem_mem hiL);have HO:Hid (Calls Tryz.prog 125 #[.int .i64 d.lits[i]] wr fun e w2=>e=.returned (.string (txtOf (litX d.lits[i])))/\Below wr.heap.size wr w2):=litText_any _ wr hsi.1 hsi.2 (HGl.out.next hB.out);have hl1:=litsX_len (d.lits.take i) (fun o ho=>HSi.out.l o (List.mem_of_mem_take ho));have hl2:(d.lits.take i).length<=i:=by simp;omega
        have hl3:=litX_len hsi.1 hsi.2;obtain ⟨Q,hQ⟩:∃ Q,[115,111,108,105]++litsX (d.lits.take i)=Q:=⟨_,rfl⟩;have hQl:Q.length<=500000000:=by rw [<-hQ];simp;omega
        have HE:Hid (Q++litX d.lits[i]=[115,111,108,105]++litsX (d.lits.take (i+1))):=by show _=_;rw [litsX_take d.lits i hiL,<-hQ];simp
        rw [hQ];have hA:∀ w,(Op.stringOp .add (txtOf Q) (txtOf (litX d.lits[i]))).run Tryz.prog w=.ok (.string (txtOf (Q++litX d.lits[i]))) w:=fun w=>add_txt Q _ (by omega) w
        clear hl1 hl2 hl3 hQ hQl hsi;go_wp2_with fail
        refine calls_at HO.out (by with_reducible rfl) (by with_reducible rfl) ?_;rintro e w2 ⟨rfl,hb2⟩;have HB2:Hid (Below W.heap.size W w2):=bl_next hB.out hb2;clear hb2 q0 d2 HO;go_wp2_with fail
        go_roundw
        case rel=>exact ⟨i+1,by rw [HE.out],by go_num,by omega,HB2⟩
        case measure=>simp [intOf];omega
      · obtain rfl:i=n:=by omega
        have hiI:¬ (i:Int)<(i:Int):=by omega
        have HE:Hid ([115,111,108,105]++litsX (d.lits.take i)=R):=by show _=_;rw [<-HR.out,<-HN.out,List.take_length]
        go_wp2_with fail
        go_ret;exact ⟨congrArg (fun q=>Ending.returned (.string (txtOf q))) HE.out,bl_next HB.out hB.out⟩
  rw [if_neg k5] at hR;have f5:(k==5)=false:=by simpa using k5
  clear k5
  by_cases k11:k=11
  · subst k11
    rw [if_pos rfl] at hR;have HR:Hid ([115,111,108,120]++litsX d.lits=R):=hR;clear hR;have HC:Hid (∀ w',Below W.heap.size W w'->∀ j (hj:j<d.lits.length),∃ g off,la=some ⟨g,off,none⟩/\w'.cell? ⟨g,off+j,none⟩=some (.int .i64 d.lits[j])):=fun w' hb' j hj=>by
      obtain ⟨a',cap',e0,_,hc⟩:=HSr.out.l;injection e0 with e0;obtain ⟨g,off,e1,e2,e3⟩:=hc (by omega);exact ⟨g,off,e0.trans e1,(hb'.cell (p:=⟨g,off+j,none⟩) e2).trans (e3 _ _ (by simp [hj]))⟩
    obtain ⟨n,hN⟩:∃ n,d.lits.length=n:=⟨_,rfl⟩;have HN:Hid (d.lits.length=n):=hN;have hn8:n<=10000000:=by have:=HZ.out.2.2.2.2.2;omega
    rw [hN] at hW ⊢;have HD2:Hid (∀ w',Below W.heap.size W w'->w'.cell? ⟨w.heap.size,5,none⟩=some (.slice la n lc)):=fun w' hb'=>by rw [<-HN.out];exact HD.out w' 5 hb'
    clear hN HEn;go_enter Tryz.func59,Tryz.ntmps59;go_wp2_with fail
    try rw [hW]
    clear hW;go_loopw [5,6] (fun sv iv wr=>∃ i:Nat,sv=.string (txtOf ([115,111,108,120]++litsX (d.lits.take i)))/\iv=.int .i64 (i:Int)/\i<=n/\Hid (Below W.heap.size W wr)) (fun _ iv _=>n-(intOf iv).toNat)
    case atStart=>exact ⟨0,rfl,rfl,Nat.zero_le _,Below.refl _ _⟩
    case round=>
      obtain ⟨i,rfl,rfl,hin,hB⟩:=hrel;have hw1:wrap64 ((i:Int)+1)=((i+1:Nat):Int):=by unfold wrap64;omega
      have d2:=HD2.out wr hB.out
      by_cases hi:i<n
      · have hiI:(i:Int)<(n:Int):=by omega
        have hiL:i<d.lits.length:=by have:=HN.out;omega
        obtain ⟨g,off,hag,q0⟩:=HC.out wr hB.out i hiL;subst hag;have hsi:=HSi.out.l _ (List.getElem_mem hiL);have HO:Hid (Calls Tryz.prog 125 #[.int .i64 d.lits[i]] wr fun e w2=>e=.returned (.string (txtOf (litX d.lits[i])))/\Below wr.heap.size wr w2):=litText_any _ wr hsi.1 hsi.2 (HGl.out.next hB.out);have hl1:=litsX_len (d.lits.take i) (fun o ho=>HSi.out.l o (List.mem_of_mem_take ho));have hl2:(d.lits.take i).length<=i:=by simp;omega
        have hl3:=litX_len hsi.1 hsi.2;obtain ⟨Q,hQ⟩:∃ Q,[115,111,108,120]++litsX (d.lits.take i)=Q:=⟨_,rfl⟩;have hQl:Q.length<=500000000:=by rw [<-hQ];simp;omega
        have HE:Hid (Q++litX d.lits[i]=[115,111,108,120]++litsX (d.lits.take (i+1))):=by show _=_;rw [litsX_take d.lits i hiL,<-hQ];simp
        rw [hQ];have hA:∀ w,(Op.stringOp .add (txtOf Q) (txtOf (litX d.lits[i]))).run Tryz.prog w=.ok (.string (txtOf (Q++litX d.lits[i]))) w:=fun w=>add_txt Q _ (by omega) w
        clear hl1 hl2 hl3 hQ hQl hsi;go_wp2_with fail
        refine calls_at HO.out (by with_reducible rfl) (by with_reducible rfl) ?_;rintro e w2 ⟨rfl,hb2⟩;have HB2:Hid (Below W.heap.size W w2):=bl_next hB.out hb2;clear hb2 q0 d2 HO;go_wp2_with fail
        go_roundw
        case rel=>exact ⟨i+1,by rw [HE.out],by go_num,by omega,HB2⟩
        case measure=>simp [intOf];omega
      · obtain rfl:i=n:=by omega
        have hiI:¬ (i:Int)<(i:Int):=by omega
        have HE:Hid ([115,111,108,120]++litsX (d.lits.take i)=R):=by show _=_;rw [<-HR.out,<-HN.out,List.take_length]
        go_wp2_with fail
        go_ret;exact ⟨congrArg (fun q=>Ending.returned (.string (txtOf q))) HE.out,bl_next HB.out hB.out⟩
  rw [if_neg k11] at hR;have f11:(k==11)=false:=by simpa using k11
  clear k11
  by_cases k6:k=6
  · subst k6
    rw [if_pos rfl] at hR;have HR:Hid ([100,101,108,32,105,100]++spW d.ids=R):=hR;have c6:W.cell? ⟨w.heap.size,6,none⟩=some (.slice ia d.ids.length ic):=HD.out W 6 (Below.refl _ _);have hA:∀ w,(Op.stringOp .add ⟨#[100,101,108,32,105,100]⟩ (txtOf (spW d.ids))).run Tryz.prog w=.ok (.string (txtOf ([100,101,108,32,105,100]++spW d.ids))) w:=fun w=>add_txt [100,101,108,32,105,100] _ (by have:=HZ.out.1;simp;omega) w
    clear hR;go_enter Tryz.func59,Tryz.ntmps59;go_wp2_with fail
    refine calls_at (HTx.out W (Below.refl _ _)) (by with_reducible rfl) (by with_reducible rfl) ?_;rintro e w2 ⟨rfl,hb2⟩;have HB2:Hid (Below w.heap.size w w2):=bl_next HB.out hb2;clear hb2;go_wp2_with fail
    go_ret;exact ⟨congrArg (fun q=>Ending.returned (.string (txtOf q))) HR.out,HB2.out⟩
  rw [if_neg k6] at hR;have f6:(k==6)=false:=by simpa using k6
  clear k6
  by_cases k7:k=7
  · subst k7
    rw [if_pos rfl] at hR;have HR:Hid ([42]=R):=hR;clear hR;go_enter Tryz.func59,Tryz.ntmps59;go_wp2_with fail
    go_ret;exact ⟨congrArg (fun q=>Ending.returned (.string (txtOf q))) HR.out,HB.out⟩
  rw [if_neg k7] at hR;have f7:(k==7)=false:=by simpa using k7
  clear k7
  by_cases k8:k=8
  · subst k8
    rw [if_pos rfl] at hR;have HR:Hid ([111,117,116,112,117,116,32,78,79,78,69]=R):=hR;clear hR;go_enter Tryz.func59,Tryz.ntmps59;go_wp2_with fail
    go_ret;exact ⟨congrArg (fun q=>Ending.returned (.string (txtOf q))) HR.out,HB.out⟩
  rw [if_neg k8] at hR;have f8:(k==8)=false:=by simpa using k8
  clear k8
  by_cases k9:k=9
  · subst k9
    rw [if_pos rfl] at hR;have HR:Hid ([99,111,110,99,108,117,115,105,111,110]++endX d=R):=hR;have hA:∀ w,(Op.stringOp .add ⟨#[99,111,110,99,108,117,115,105,111,110]⟩ (txtOf (endX d))).run Tryz.prog w=.ok (.string (txtOf ([99,111,110,99,108,117,115,105,111,110]++endX d))) w:=fun w=>add_txt [99,111,110,99,108,117,115,105,111,110] _ (by have:=HZ.out.2.2.1;simp;omega) w
    clear hR;simp only [slC] at HEn;rw [HK.out] at HEn;have c1:W.cell? ⟨w.heap.size,1,none⟩=some (.string (txtOf d.n)):=HD.out W 1 (Below.refl _ _);have c2:W.cell? ⟨w.heap.size,2,none⟩=some (.slice oa d.ops.length oc):=HD.out W 2 (Below.refl _ _);have c3:W.cell? ⟨w.heap.size,3,none⟩=some (.slice pa d.pcs.length pc):=HD.out W 3 (Below.refl _ _);have c4:W.cell? ⟨w.heap.size,4,none⟩=some (.string (txtOf d.deg)):=HD.out W 4 (Below.refl _ _);have c5:W.cell? ⟨w.heap.size,5,none⟩=some (.slice la d.lits.length lc):=HD.out W 5 (Below.refl _ _);have c6:W.cell? ⟨w.heap.size,6,none⟩=some (.slice ia d.ids.length ic):=HD.out W 6 (Below.refl _ _);have c7:W.cell? ⟨w.heap.size,7,none⟩=some (.int .i64 d.ends):=HD.out W 7 (Below.refl _ _);have c8:W.cell? ⟨w.heap.size,8,none⟩=some (.string (txtOf d.low)):=HD.out W 8 (Below.refl _ _)
    have c9:W.cell? ⟨w.heap.size,9,none⟩=some (.string (txtOf d.high)):=HD.out W 9 (Below.refl _ _);go_enter Tryz.func59,Tryz.ntmps59;go_wp2_with fail
    refine calls_at HEn.out (by with_reducible rfl) (by with_reducible rfl) ?_;rintro e w2 ⟨rfl,hb2⟩;have HB2:Hid (Below w.heap.size w w2):=bl_next HB.out hb2;clear hb2;go_wp2_with fail
    go_ret;exact ⟨congrArg (fun q=>Ending.returned (.string (txtOf q))) HR.out,HB2.out⟩
  rw [if_neg k9] at hR;have f9:(k==9)=false:=by simpa using k9
  clear k9
  by_cases k10:k=10
  · subst k10
    rw [if_pos rfl] at hR;have HR:Hid ([101,110,100,32,112,115,101,117,100,111,45,66,111,111,108,101,97,110,32,112,114,111,111,102]=R):=hR;clear hR;go_enter Tryz.func59,Tryz.ntmps59;go_wp2_with fail
    go_ret;exact ⟨congrArg (fun q=>Ending.returned (.string (txtOf q))) HR.out,HB.out⟩
  rw [if_neg k10] at hR;have f10:(k==10)=false:=by simpa using k10
  clear k10;have HR:Hid ([63]=R):=hR;clear hR;go_enter Tryz.func59,Tryz.ntmps59;go_wp2_with fail
  go_ret;exact ⟨congrArg (fun q=>Ending.returned (.string (txtOf q))) HR.out,HB.out⟩
end Go.Proofs.YtpcijhecaedkpaaGreatDoor

namespace Go.Proofs.YtpcijhecaedkpaaGreatDoor
open Go.RowKit
theorem dig_no45 {m:Nat} (h:m<10):UInt8.ofNat (48+m)≠45:=by
  intro e;have:=congrArg UInt8.toNat e;simp at this;omega
theorem dec_no45:∀ (n u:Nat),u<=n->∀ c∈Lib.decDigits u,c≠45:=by
  intro n
  induction n with
  | zero =>
    intro u hu c hc;have:u=0:=by omega
    subst this;rw [Lib.decDigits,dif_pos (by omega)] at hc;simp only [List.mem_cons,List.not_mem_nil,or_false] at hc;rw [hc];exact dig_no45 (by omega)
  | succ n ih =>
    intro u hu c hc
    by_cases h:u<10
    · rw [Lib.decDigits,dif_pos h] at hc
      simp only [List.mem_cons,List.not_mem_nil,or_false] at hc;rw [hc];exact dig_no45 h
    · rw [Lib.decDigits,dif_neg h] at hc
      rcases List.mem_append.1 hc with hc | hc
      · exact ih (u / 10) (by omega) c hc
      · simp only [List.mem_cons,List.not_mem_nil,or_false] at hc
        rw [hc];exact dig_no45 (by omega)
theorem dec_head (u:Nat):Lib.hasPrefix (Lib.decDigits u) [45]=false:=by
  cases h:Lib.decDigits u with
  | nil=>rfl
  | cons c t =>
    rw [pre_one];exact decide_eq_false (dec_no45 u u (Nat.le_refl _) c (by rw [h];simp))
theorem litX_is {n:Int} (h0:-9223372036854775808<n) (h1:n<=9223372036854775807):litX n=32 :: litT n:=by
  unfold litX litT
  by_cases hn:n<0
  · rw [if_pos hn]
    obtain ⟨u,hu⟩:∃ u:Nat,n=-(u:Int):=⟨n.natAbs,by omega⟩;have hu1:1<=u:=by omega
    have e1:wrap64 (-n)=(u:Int):=by unfold wrap64;omega
    rw [e1,hu,Lib.itoa_nonneg,Lib.itoa_neg u hu1,pre_one,trim_one,decide_eq_true rfl,if_pos rfl,if_pos rfl];rfl
  · rw [if_neg hn]
    obtain ⟨u,hu⟩:∃ u:Nat,n=(u:Int):=⟨n.toNat,by omega⟩;have hp:=dec_head u;rw [hu,Lib.itoa_nonneg,hp,if_neg (by simp)];unfold Lib.trimPrefix;rw [hp];rfl
theorem okLi.x {n:Int} (h:okLi n):litX n=32 :: litT n:=by
  have:=h.good;exact litX_is (by omega) (by omega)
theorem spW_app (A B:List (List UInt8)):spW (A++B)=spW A++spW B:=by simp [spW]
theorem spW_cons (x:List UInt8) (B:List (List UInt8)):spW (x :: B)=32 :: x++spW B:=by simp [spW]
theorem spW_nil:spW []=[]:=rfl
theorem sp_row (P:List PcL) (deg:List UInt8) (h:∀ o∈P,okPc o):spW (rowT P deg)=rowX P deg:=by
  have key:∀ P:List PcL,(∀ o∈P,okPc o)->spW (pcsT P)=pcsX P:=by
    intro P
    induction P with
    | nil=>intro _;rfl
    | cons o P ih =>
      intro h;have e1:pcsT (o :: P)=[o.1,litT o.2]++pcsT P:=by simp [pcsT]
      have e2:pcsX (o :: P)=pcX o++pcsX P:=by simp [pcsX]
      rw [e1,e2,spW_app,ih (fun q hq=>h q (List.mem_cons_of_mem _ hq))]
      congr 1
      unfold pcX;rw [(h o (by simp)).2.x,spW_cons,spW_cons,spW_nil];simp
  unfold rowT rowX;rw [spW_app,key P h,spW_cons,spW_cons,spW_cons,spW_nil];simp
theorem sp_lits (l:List Int) (h:∀ n∈l,okLi n):spW (l.map litT)=litsX l:=by
  induction l with
  | nil=>rfl
  | cons n l ih =>
    have e2:litsX (n :: l)=litX n++litsX l:=by simp [litsX]
    rw [e2,List.map_cons,spW_cons,ih (fun q hq=>h q (List.mem_cons_of_mem _ hq)),(h n (by simp)).x]
def okK (o:OpL):Prop:=1<=o.1/\o.1<=7
theorem sp_op (o:OpL) (hk:okK o) (hl:okOp o):spW (opT o)=opX o:=by
  obtain ⟨k,x,l⟩:=o;have e:litX l=32 :: litT l:=litX_is (by have:=hl.1;simp at this;omega) (by have:=hl.2;simp at this;omega);unfold okK at hk;simp only at hk;have:k=1∨k=2∨k=3∨k=4∨k=5∨k=6∨k=7:=by omega
  unfold opT opX
  rcases this with rfl | rfl | rfl | rfl | rfl | rfl | rfl <;> simp [spW,e]
theorem sp_ops (L:List OpL) (hk:∀ o∈L,okK o) (hl:∀ o∈L,okOp o):spW (opsT L)=opsX L:=by
  induction L with
  | nil=>rfl
  | cons o L ih =>
    have e1:opsT (o :: L)=opT o++opsT L:=by simp [opsT]
    have e2:opsX (o :: L)=opX o++opsX L:=by simp [opsX]
    rw [e1,e2,spW_app,ih (fun q hq=>hk q (List.mem_cons_of_mem _ hq)) (fun q hq=>hl q (List.mem_cons_of_mem _ hq)),sp_op o (hk o (by simp)) (hl o (by simp))]
theorem opW_kind {x:List UInt8} {A F:List OpL} (h:opW x A=some F) (hA:∀ o∈A,okK o):∀ o∈F,okK o:=by
  unfold opW at h
  split at h
  · rename_i hn
    have hF:(opP x A ([],none)).1=F:=Option.some.inj h;rw [<-hF];unfold opP at hn ⊢;have app:∀ q:OpL,okK q->∀ o∈A++[q],okK o:=fun q hq o ho=>by
      rcases List.mem_append.1 ho with ho | ho
      · exact hA o ho
      · simp at ho;rw [ho];exact hq
    have trn:∀ fr tk:Int,1<=tk/\tk<=7->(turnP fr tk A ([],none)).2.2=none->∀ o∈(turnP fr tk A ([],none)).1,okK o:=fun fr tk htk hz o ho=>by
      obtain ⟨M,q,h1,h2,h3⟩:=turn_ok hz;rw [h3] at ho;rcases List.mem_append.1 ho with ho | ho
      · exact hA o (by rw [h1];exact List.mem_append_left _ ho)
      · simp at ho;rw [ho];exact htk
    split at hn
    · rename_i c;rw [if_pos c];exact app _ ⟨by decide,by decide⟩
    rename_i c1;rw [if_neg c1]
    split at hn
    · rename_i c;rw [if_pos c];exact app _ ⟨by decide,by decide⟩
    rename_i c2;rw [if_neg c2]
    split at hn
    · rename_i c;rw [if_pos c];exact trn 1 4 (by decide) hn
    rename_i c3;rw [if_neg c3]
    split at hn
    · rename_i c;rw [if_pos c];exact trn 1 5 (by decide) hn
    rename_i c4;rw [if_neg c4]
    split at hn
    · rename_i c;rw [if_pos c];exact trn 2 7 (by decide) hn
    rename_i c5;rw [if_neg c5]
    refine app _ ?_;unfold operP
    split
    · exact ⟨show (1:Int)<=2 by decide,show (2:Int)<=7 by decide⟩
    · exact ⟨show (1:Int)<=1 by decide,show (1:Int)<=7 by decide⟩
  · cases h
theorem runW_kind:∀ (L:List (List UInt8)) (A F:List OpL),runW L A=some F->(∀ o∈A,okK o)->∀ o∈F,okK o:=by
  intro L
  induction L with
  | nil=>intro A F h hA;have:A=F:=Option.some.inj h;rw [<-this];exact hA
  | cons x L ih =>
    intro A F h hA
    cases hw:opW x A with
    | none=>simp [runW,hw] at h
    | some B =>
      have h2:runW L B=some F:=by simpa [runW,hw] using h
      exact ih B F h2 (opW_kind hw hA)
end Go.Proofs.YtpcijhecaedkpaaGreatDoor

namespace Go.Proofs.YtpcijhecaedkpaaGreatDoor
open Go.RowKit
theorem lnT_is (f:FmL) (hf:f∈formsL) {M:List (List UInt8)} {e:SL} (hb:BdF f.2.2.1 M e):lnT { e with k:=f.1 }=f.2.1++spW M:=by
  have e1:lnW { e with k:=f.1 }=f.2.1 :: M:=by
    show kindT formsL wrF f.1 _=_;rw [forms_kind f hf,wrF_is f hf hb]
  unfold lnT;rw [e1,words_first _ _ (forms_word f hf).2]
theorem end_is (g:FmL) (hg:g∈claimsL) {M:List (List UInt8)} {e:SL} (hb:BdC g.2.2.1 M e):endX { e with ends:=g.1,k:=9 }=32 :: g.2.1++spW M:=by
  rw [claimsL] at hg;simp only [List.mem_cons,List.not_mem_nil,or_false] at hg;rcases hg with rfl | rfl | rfl | rfl | rfl
  · obtain ⟨rfl,rfl⟩:M=[]/\e=SL.zero:=hb
    rfl
  · rcases (show (M=[]/\e=SL.zero)∨∃ i,M=[[58],i]/\badN i 1=false/\e={ SL.zero with ids:=[i] } from hb) with ⟨rfl,rfl⟩ | ⟨i,rfl,_,rfl⟩
    · rfl
    · simp [endX,idX,spW]
  · obtain ⟨rfl,rfl⟩:M=[]/\e=SL.zero:=hb
    rfl
  · rcases (show (∃ a b,M=[a,b]/\badN a (-1)=false/\badN b (-1)=false/\e={ SL.zero with low:=a,high:=b })∨∃ a i b,M=[a,[58],i,b]/\badN a (-1)=false/\badN i 1=false/\badN b (-1)=false/\e={ SL.zero with low:=a,ids:=[i],high:=b } from hb) with ⟨a,b,rfl,_,_,rfl⟩ | ⟨a,i,b,rfl,_,_,_,rfl⟩
    · have e0:SL.zero.ids=[]:=rfl
      simp [endX,idX,spW,e0]
    · simp [endX,idX,spW]
  · obtain ⟨a,i,rfl,_,_,rfl⟩:∃ a i,M=[a,[58],i]/\badN a 0=false/\badN i 1=false/\e={ SL.zero with high:=a,ids:=[i] }:=hb
    simp [endX,idX,spW]
theorem ln_right {L:List (List UInt8)} {d:SL} (h:Rgt L d):lnX d=lnT d:=by
  obtain ⟨f,hf,M,e,rfl,hb,rfl⟩:=h;rw [lnT_is f hf hb];have hf2:=hf;rw [formsL] at hf;simp only [List.mem_cons,List.not_mem_nil,or_false] at hf;rcases hf with rfl | rfl | rfl | rfl | rfl | rfl | rfl | rfl | rfl | rfl | rfl | rfl
  · obtain ⟨rfl,rfl⟩:M=[]/\e=SL.zero:=hb
    rfl
  · obtain ⟨n,rfl,_,rfl⟩:∃ n,M=[n]/\badN n 0=false/\e={ SL.zero with n:=n }:=hb
    simp [lnX,spW]
  · obtain ⟨F,_,hr,rfl⟩:∃ F,M≠[]/\runW M []=some F/\e={ SL.zero with ops:=F }:=hb
    have h1:=runW_is M [] F hr;have h2:=runW_kind M [] F hr (fun o ho=>by cases ho);have h3:=h1.2.2 (fun o ho=>by cases ho);have e1:opsT F=M:=by rw [h1.1];rfl
    rw [<-e1,sp_ops F h2 h3];simp [lnX]
  · obtain ⟨P,deg,ids,rfl,hP,_,_,rfl⟩:∃ P deg ids,M=rowT P deg++ids/\(∀ o∈P,okPc o)/\badN deg (-1)=false/\(∀ x∈ids,badN x 1=false)/\e={ SL.zero with pcs:=P,deg:=deg,ids:=ids }:=hb
    rw [spW_app,sp_row P deg hP];simp [lnX]
  · obtain ⟨i,P,deg,rfl,_,hP,_,rfl⟩:∃ i P deg,M=i :: rowT P deg/\badN i 1=false/\(∀ o∈P,okPc o)/\badN deg (-1)=false/\e={ SL.zero with pcs:=P,deg:=deg,ids:=[i] }:=hb
    rw [spW_cons,sp_row P deg hP];simp [lnX,spW]
  · obtain ⟨l,rfl,hl,rfl⟩:∃ l:List Int,M=l.map litT/\(∀ n∈l,okLi n)/\e={ SL.zero with lits:=l }:=hb
    rw [sp_lits l hl];simp [lnX]
  · obtain ⟨l,rfl,hl,rfl⟩:∃ l:List Int,M=l.map litT/\(∀ n∈l,okLi n)/\e={ SL.zero with lits:=l }:=hb
    rw [sp_lits l hl];simp [lnX]
  · obtain ⟨i,ids,rfl,_,_,rfl⟩:∃ i ids,M=i :: ids/\badN i 1=false/\(∀ x∈ids,badN x 1=false)/\e={ SL.zero with ids:=i :: ids }:=hb
    simp [lnX]
  · obtain ⟨rfl,rfl⟩:M=[]/\e=SL.zero:=hb
    rfl
  · obtain ⟨rfl,rfl⟩:M=[]/\e=SL.zero:=hb
    rfl
  · obtain ⟨g,hg,K,e',rfl,hc,rfl⟩:∃ g∈claimsL,∃ N e',M=fmW g++N/\BdC g.2.2.1 N e'/\e={ e' with ends:=g.1 }:=hb
    have h1:=end_is g hg hc;rw [claims_word g hg];simp only [List.cons_append,List.nil_append];rw [spW_cons];show [99,111,110,99,108,117,115,105,111,110]++endX { e' with ends:=g.1,k:=9 }=_;rw [h1];simp
  · obtain ⟨rfl,rfl⟩:M=[]/\e=SL.zero:=hb
    rfl
theorem rgt_of {x:List UInt8} {d:SL} (h:parseP x=(d,0)):∃ L,Rgt L d:=by
  obtain ⟨L,h1,_⟩:=er_right (x:=x) (by unfold er;rw [h]);have:gd x=d:=by unfold gd;rw [h]
  rw [this] at h1;exact ⟨L,h1⟩
theorem pr_is (d:SL):(parseP (lnX d)=(d,0)->prT d=(lnX d,0))/\(parseP (lnX d)≠(d,0)->prT d=([],83)):=by
  by_cases h:∃ L,Rgt L d
  · obtain ⟨L,h⟩:=h
    have e:=ln_right h;rw [e];exact ⟨fun _=>prT_yes h.parse,fun n=>absurd h.parse n⟩
  · have hn:=prT_no (d:=d) (fun e=>h (rgt_of e))
    exact ⟨fun e=>absurd (rgt_of e) h,fun _=>hn⟩
end Go.Proofs.YtpcijhecaedkpaaGreatDoor

namespace Go.Proofs.YtpcijhecaedkpaaGreatDoor
open Go.RowKit
set_option maxRecDepth 10000
set_option maxHeartbeats 8000000
theorem lnX_len (d:SL) (hi:SlI d):(lnX d).length<=44*szX d+100:=by
  have h1:=opsX_len d.ops hi.o;have h2:=litsX_len d.lits hi.l;have h3:=endX_len d;have h4:=rowX_len d.pcs d.deg hi.p;have h5:=spW_len d.ids;unfold lnX szX
  by_cases c1:d.k=1
  · rw [if_pos c1];simp only [List.length_cons,List.length_nil];omega
  rw [if_neg c1]
  by_cases c2:d.k=2
  · rw [if_pos c2];simp only [List.length_append,List.length_cons,List.length_nil];omega
  rw [if_neg c2]
  by_cases c3:d.k=3
  · rw [if_pos c3];simp only [List.length_append,List.length_cons,List.length_nil];omega
  rw [if_neg c3]
  by_cases c4:d.k=4
  · rw [if_pos c4];simp only [List.length_append,List.length_cons,List.length_nil];omega
  rw [if_neg c4]
  by_cases c12:d.k=12
  · rw [if_pos c12];simp only [List.length_append,List.length_cons,List.length_nil];omega
  rw [if_neg c12]
  by_cases c5:d.k=5
  · rw [if_pos c5];simp only [List.length_append,List.length_cons,List.length_nil];omega
  rw [if_neg c5]
  by_cases c11:d.k=11
  · rw [if_pos c11];simp only [List.length_append,List.length_cons,List.length_nil];omega
  rw [if_neg c11]
  by_cases c6:d.k=6
  · rw [if_pos c6];simp only [List.length_append,List.length_cons,List.length_nil];omega
  rw [if_neg c6]
  by_cases c7:d.k=7
  · rw [if_pos c7];simp only [List.length_cons,List.length_nil];omega
  rw [if_neg c7]
  by_cases c8:d.k=8
  · rw [if_pos c8];simp only [List.length_cons,List.length_nil];omega
  rw [if_neg c8]
  by_cases c9:d.k=9
  · rw [if_pos c9];simp only [List.length_append,List.length_cons,List.length_nil];omega
  rw [if_neg c9]
  by_cases c10:d.k=10
  · rw [if_pos c10];simp only [List.length_cons,List.length_nil];omega
  rw [if_neg c10];simp only [List.length_cons,List.length_nil];omega
theorem sz_le (d:SL):szX d<=stW d:=by unfold szX stW;omega
theorem rparse_out (x:List UInt8) (hx:x.length<=9000000) (w:World):Calls Tryz.prog 10 #[.string (txtOf x)] w fun e w'=>∃ oa oc pa pc la lc ia ic,e=.returned (.tuple #[.agg #[.int .i64 (gd x).k,.string (txtOf (gd x).n),.slice oa (gd x).ops.length oc,.slice pa (gd x).pcs.length pc,.string (txtOf (gd x).deg),.slice la (gd x).lits.length lc,.slice ia (gd x).ids.length ic,.int .i64 (gd x).ends,.string (txtOf (gd x).low),.string (txtOf (gd x).high)],.int .i64 (er x)])/\SlR w' (gd x) (.slice oa (gd x).ops.length oc) (.slice pa (gd x).pcs.length pc) (.slice la (gd x).lits.length lc) (.slice ia (gd x).ids.length ic)/\Below w.heap.size w w':=by
  refine (rparse_any x w hx).mono fun e w' hq=>?_
  unfold RpOut at hq;rw [par_is] at hq;obtain ⟨vo,vp,vl,vi,q1,q2,q3⟩:=hq;have r:=slr_of_own q2;obtain ⟨oa,oc,rfl⟩:=own_slice q2.o;obtain ⟨pa,pc,rfl⟩:=own_slice q2.p;obtain ⟨la,lc,rfl⟩:=own_slice q2.l;obtain ⟨ia,ic,rfl⟩:=own_slice q2.i;exact ⟨oa,oc,pa,pc,la,lc,ia,ic,q1,r,q3⟩
theorem rprint_any (d:SL) (vo vp vl vi:Value) (w:World) (hs:SlR w d vo vp vl vi) (hi:SlI d) (hl0:(lnX d).length<=9000000) (hl:szX d<=10000000) (hg:Gl w):Calls Tryz.prog 18 #[.agg (slC d vo vp vl vi)] w (PrO d w):=by
  unfold PrO;obtain ⟨W,hW⟩:∃ W,w.alloc (.cells (slC d vo vp vl vi) 51)=W:=⟨_,rfl⟩;have hbW:Below w.heap.size w W:=by rw [<-hW];exact (Below.refl _ _).alloc (Nat.le_refl _) _
  have gW:W.heap[w.heap.size]?=some (.cells (slC d vo vp vl vi) 51 (0,0)):=by rw [<-hW];exact heap_alloc_new w _
  have hlt:w.heap.size<W.heap.size:=(Array.getElem?_eq_some_iff.1 gW).1;obtain ⟨x,hx⟩:∃ x,lnX d=x:=⟨_,rfl⟩;have hxl:x.length<=9000000:=by
    rw [<-hx];exact hl0
  have HWr:Hid (Calls Tryz.prog 59 #[.agg (slC d vo vp vl vi)] W fun e w'=>e=.returned (.string (txtOf x))/\Below W.heap.size W w'):=by
    have:=line_any d vo vp vl vi W (hs.below hbW) hi hl (hg.next hbW);rw [hx] at this;exact this
  obtain ⟨G,hG⟩:∃ G,gd x=G:=⟨_,rfl⟩;obtain ⟨E,hE⟩:∃ E,er x=E:=⟨_,rfl⟩;have HPa:Hid (∀ w',Calls Tryz.prog 10 #[.string (txtOf x)] w' fun e w2=>∃ oa2 oc2 pa2 pc2 la2 lc2 ia2 ic2,e=.returned (.tuple #[.agg #[.int .i64 G.k,.string (txtOf G.n),.slice oa2 G.ops.length oc2,.slice pa2 G.pcs.length pc2,.string (txtOf G.deg),.slice la2 G.lits.length lc2,.slice ia2 G.ids.length ic2,.int .i64 G.ends,.string (txtOf G.low),.string (txtOf G.high)],.int .i64 E])/\SlR w2 G (.slice oa2 G.ops.length oc2) (.slice pa2 G.pcs.length pc2) (.slice la2 G.lits.length lc2) (.slice ia2 G.ids.length ic2)/\Below w'.heap.size w' w2):=fun w'=>by
    have:=rparse_out x hxl w';rw [hG,hE] at this;exact this
  have HSm:Hid (∀ w' vo2 vp2 vl2 vi2,Below w.heap.size w w'->SlR w' G vo2 vp2 vl2 vi2->Calls Tryz.prog 13 #[.agg (slC d vo vp vl vi),.agg (slC G vo2 vp2 vl2 vi2)] w' fun e w2=>e=.returned (.bool (sameB d G))/\Below w'.heap.size w' w2):=fun w' vo2 vp2 vl2 vi2 hb h2=>rsame_any d G _ _ _ _ _ _ _ _ w' (hs.below hb) h2
  have hPx:parseP x=(G,E):=by rw [<-hG,<-hE];rfl
  have HYes:Hid (G=d->E=0->prT d=(x,0)):=fun e1 e2=>by
    have:=(pr_is d).1 (by rw [hx,hPx,e1,e2]);rw [hx] at this;exact this
  have HNo:Hid ((E≠0∨G≠d)->prT d=([],83)):=fun h=>(pr_is d).2 (by
    rw [hx,hPx];intro e;rcases h with h | h
    · exact h (Prod.ext_iff.1 e).2
    · exact h (Prod.ext_iff.1 e).1)
  have HBW:Hid (Below w.heap.size w W):=hbW;have HMx:Hid (∀ w',Below W.heap.size W w'->w'.heap[w.heap.size]?=some (.cells (slC d vo vp vl vi) 51 (0,0))):=fun w' hb=>(hb.block _ hlt).trans gW
  obtain ⟨oa,oc,rfl,_,_⟩:=id hs.o;obtain ⟨pa,pc,rfl,_,_⟩:=id hs.p;obtain ⟨la,lc,rfl,_,_⟩:=id hs.l;obtain ⟨ia,ic,rfl,_,_⟩:=id hs.i;unfold slC at hW HWr HMx gW
  have HM:Hid (∀ w',Below W.heap.size W w'->w'.cell? ⟨w.heap.size,0,none⟩=some (.int .i64 d.k)/\w'.cell? ⟨w.heap.size,1,none⟩=some (.string (txtOf d.n))/\w'.cell? ⟨w.heap.size,2,none⟩=some (.slice oa d.ops.length oc)/\w'.cell? ⟨w.heap.size,3,none⟩=some (.slice pa d.pcs.length pc)/\w'.cell? ⟨w.heap.size,4,none⟩=some (.string (txtOf d.deg))/\w'.cell? ⟨w.heap.size,5,none⟩=some (.slice la d.lits.length lc)/\w'.cell? ⟨w.heap.size,6,none⟩=some (.slice ia d.ids.length ic)/\w'.cell? ⟨w.heap.size,7,none⟩=some (.int .i64 d.ends)/\w'.cell? ⟨w.heap.size,8,none⟩=some (.string (txtOf d.low))/\w'.cell? ⟨w.heap.size,9,none⟩=some (.string (txtOf d.high))):=fun w' hb=>by
    have g:=HMx.out w' hb;exact ⟨cell_of g 0,cell_of g 1,cell_of g 2,cell_of g 3,cell_of g 4,cell_of g 5,cell_of g 6,cell_of g 7,cell_of g 8,cell_of g 9⟩
  unfold slC;obtain ⟨m0,m1,m2,m3,m4,m5,m6,m7,m8,m9⟩:=HM.out W (Below.refl _ _);obtain ⟨X,hX⟩:∃ X,txtOf x=X:=⟨_,rfl⟩;have HX:Hid (txtOf x=X):=hX;rw [hX] at HWr HPa;clear hs hi hl0 hl hx hg hbW gW hlt hxl HMx hX hG hE hPx;go_enter Tryz.func18,Tryz.ntmps18;go_wp2_with fail
  refine calls_at HWr.out (by with_reducible rfl) (by with_reducible rfl) ?_;rintro e w1 ⟨rfl,hb1⟩;have HB1:Hid (Below W.heap.size W w1):=hb1;clear hb1 m0 m1 m2 m3 m4 m5 m6 m7 m8 m9;go_wp2_with fail
  refine calls_at (HPa.out w1) (by with_reducible rfl) (by with_reducible rfl) ?_;rintro e w2 ⟨oa2,oc2,pa2,pc2,la2,lc2,ia2,ic2,rfl,h2,hb2⟩;have H2:Hid (SlR w2 G (.slice oa2 G.ops.length oc2) (.slice pa2 G.pcs.length pc2) (.slice la2 G.lits.length lc2) (.slice ia2 G.ids.length ic2)):=h2;have HB2:Hid (Below W.heap.size W w2):=bl_next HB1.out hb2;clear hb2 h2;obtain ⟨V,hV⟩:∃ V,w2.alloc (.cells #[.int .i64 G.k,.string (txtOf G.n),.slice oa2 G.ops.length oc2,.slice pa2 G.pcs.length pc2,.string (txtOf G.deg),.slice la2 G.lits.length lc2,.slice ia2 G.ids.length ic2,.int .i64 G.ends,.string (txtOf G.low),.string (txtOf G.high)] 51)=V:=⟨_,rfl⟩;have hbV:Below w2.heap.size w2 V:=by rw [<-hV];exact (Below.refl _ _).alloc (Nat.le_refl _) _
  have gV:V.heap[w2.heap.size]?=some (.cells #[.int .i64 G.k,.string (txtOf G.n),.slice oa2 G.ops.length oc2,.slice pa2 G.pcs.length pc2,.string (txtOf G.deg),.slice la2 G.lits.length lc2,.slice ia2 G.ids.length ic2,.int .i64 G.ends,.string (txtOf G.low),.string (txtOf G.high)] 51 (0,0)):=by rw [<-hV];exact heap_alloc_new w2 _
  have HBV:Hid (Below W.heap.size W V):=bl_next HB2.out hbV;obtain ⟨m0,m1,m2,m3,m4,m5,m6,m7,m8,m9⟩:=HM.out V HBV.out;obtain ⟨n0,n1,n2,n3,n4,n5,n6,n7,n8,n9⟩:V.cell? ⟨w2.heap.size,0,none⟩=some (.int .i64 G.k)/\V.cell? ⟨w2.heap.size,1,none⟩=some (.string (txtOf G.n))/\V.cell? ⟨w2.heap.size,2,none⟩=some (.slice oa2 G.ops.length oc2)/\V.cell? ⟨w2.heap.size,3,none⟩=some (.slice pa2 G.pcs.length pc2)/\V.cell? ⟨w2.heap.size,4,none⟩=some (.string (txtOf G.deg))/\V.cell? ⟨w2.heap.size,5,none⟩=some (.slice la2 G.lits.length lc2)/\V.cell? ⟨w2.heap.size,6,none⟩=some (.slice ia2 G.ids.length ic2)/\V.cell? ⟨w2.heap.size,7,none⟩=some (.int .i64 G.ends)/\V.cell? ⟨w2.heap.size,8,none⟩=some (.string (txtOf G.low))/\V.cell? ⟨w2.heap.size,9,none⟩=some (.string (txtOf G.high)):=by
    have g:=gV;exact ⟨cell_of g 0,cell_of g 1,cell_of g 2,cell_of g 3,cell_of g 4,cell_of g 5,cell_of g 6,cell_of g 7,cell_of g 8,cell_of g 9⟩
  have HS2:Hid (Calls Tryz.prog 13 #[.agg #[.int .i64 d.k,.string (txtOf d.n),.slice oa d.ops.length oc,.slice pa d.pcs.length pc,.string (txtOf d.deg),.slice la d.lits.length lc,.slice ia d.ids.length ic,.int .i64 d.ends,.string (txtOf d.low),.string (txtOf d.high)],.agg #[.int .i64 G.k,.string (txtOf G.n),.slice oa2 G.ops.length oc2,.slice pa2 G.pcs.length pc2,.string (txtOf G.deg),.slice la2 G.lits.length lc2,.slice ia2 G.ids.length ic2,.int .i64 G.ends,.string (txtOf G.low),.string (txtOf G.high)]] V fun e w2=>e=.returned (.bool (sameB d G))/\Below V.heap.size V w2):=HSm.out V _ _ _ _ (HBW.out.trans (HBV.out.mono HBW.out.size)) (H2.out.below hbV);clear hbV gV
  by_cases hE0:E=0
  · have hEB:(E != 0)=false:=by rw [hE0];rfl
    have HE0:Hid (E=0):=hE0;clear hE0;go_wp2_with fail
    refine calls_at HS2.out (by with_reducible rfl) (by with_reducible rfl) ?_;rintro e w3 ⟨rfl,hb3⟩;have HB3:Hid (Below W.heap.size W w3):=bl_next HBV.out hb3;clear hb3 m0 m1 m2 m3 m4 m5 m6 m7 m8 m9 n0 n1 n2 n3 n4 n5 n6 n7 n8 n9
    by_cases hq:G=d
    · have HR:Hid (prT d=(x,0)):=HYes.out hq HE0.out
      rw [(sameB_iff d G).2 hq.symm];clear hq;go_wp2_with fail
      go_ret2;refine ⟨?_,HBW.out.trans (HB3.out.mono HBW.out.size)⟩;rw [HR.out];show _=Ending.returned (.tuple #[.string (txtOf x),.int .i64 0]);rw [HX.out];rfl
    · have HR:Hid (prT d=([],83)):=HNo.out (.inr hq)
      rw [sameB_no (fun e=>hq e.symm)];clear hq;go_wp2_with fail
      go_ret2;refine ⟨?_,HBW.out.trans (HB3.out.mono HBW.out.size)⟩;rw [HR.out];rfl
  · have hEB:(E != 0)=true:=by simpa using hE0
    have HR:Hid (prT d=([],83)):=HNo.out (.inl hE0);clear hE0;go_wp2_with fail
    go_ret2;refine ⟨?_,HBW.out.trans (HBV.out.mono HBW.out.size)⟩;rw [HR.out];rfl
end Go.Proofs.YtpcijhecaedkpaaGreatDoor
