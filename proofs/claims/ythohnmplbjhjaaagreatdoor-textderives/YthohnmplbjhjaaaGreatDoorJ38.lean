/-
  Put together: TrEnds, TrLen, TrRng3, TrReadA, TrFault.
-/
import Derived.Test.YthohnmplbjhjaaaGreatDoorJ33
import Derived.Test.YthohnmplbjhjaaaGreatDoorJ19
import Derived.Test.YthohnmplbjhjaaaGreatDoorQs
namespace Go.Proofs.YthohnmplbjhjaaaGreatDoor
open Go Go.RowKit
theorem X6 {e:Int} (he:e≠0) (s:St):yl (yh e s)=none:=by
 refine xm ?_
 unfold yh
 split
 ·exact he
 ·assumption
theorem QB (s:St):yl (endT s)=none:=by
 unfold endT
 cases h:yl s with
 | none=>exact h
 | some p=>exact X6 (by decide) _
theorem QC {α:Type} (rd:List UInt8->St->α × St):∀ (k:Nat) (all:List α) (s:St),yl (yK rd k all s).2=none
  | 0, all, s => by
    unfold yK
    cases h:yl s with
    | none=>exact h
    | some p=>exact X6 (by decide) _
  | k + 1, all, s => by
    unfold yK
    cases h:yl s with
    | none=>exact h
    | some p=>exact QC rd k _ _
theorem xX {α:Type} (rd:List UInt8->St->α × St) (s:St):yl (yp rd s).2=none:=QC rd _ _ _
theorem QD (n:Nat):∀ (k:Nat) (all:List (List Int)) (s:St),yl (za n k all s).2=none
  | 0, all, s => by
    unfold za
    cases h:yl s with
    | none=>exact h
    | some p =>
      have hb:(yh 47 (ye (zq p.1 [58] p.2)).2).2≠0:=by
        unfold yh
        split
        · show (47:Int)≠0;decide
        · assumption
      show yl (yT n _ (yh 47 (ye (zq p.1 [58] p.2)).2)).2=none
      rw [X0 hb]
      exact xm hb
  | k + 1, all, s => by
    unfold za
    cases h:yl s with
    | none=>exact h
    | some p=>exact QD n k _ _
theorem y3T (V:List Md.Vr) (k:Nat) (s:St):yl (zt V k s).2=none:=by
 unfold zt
 split
 ·exact xX _ _
 split
 ·exact QB _
 split
 ·exact xX _ _
 split
 ·exact xX _ _
 split
 ·exact xX _ _
 split
 ·exact xX _ _
 split
 ·exact xX _ _
 split
 ·exact QD _ _ _ _
 split
 ·exact xX _ _
 split
 ·exact QB _
 ·exact xX _ _
theorem y3U (m:Md.Mo) (w:List UInt8) (s:St):yl (sayT m w s).2=none:=by
 unfold sayT
 split
 ·exact X6 (by decide) _
 ·exact y3T _ _ _
def FinAt (S:Nat->Prop) (B P:Nat) (RR:Md.Mo × Int) (D N:Nat) (w:World) (b:Nat) (s:St) (W:World):Prop:=
 RR.2=s.2/\∃ Wx,MoI B P RR.1 Wx/\Ofw S w Wx/\D+2<=Wx.heap.size/\(∀ k,(k=D∨k=D+1)->∀ c t z,Wx.heap[k]?≠some (.cells c t z))/\Ofw (fun k=>k=D∨k=D+1) Wx W/\Wx.heap[N]?=some (.cells #[.pointer (some ⟨b,0,none⟩)] 113 (0,0))
theorem FinAt.on {S:Nat->Prop} {B P:Nat} {RR:Md.Mo × Int} {D N b:Nat} {w:World} {s:St} {W W':World} (h:FinAt S B P RR D N w b s W) (o:Ofw (fun k=>k=D∨k=D+1) W W'):FinAt S B P RR D N w b s W':=by
 obtain ⟨h1,Wx,h2,h3,h4,h5,h6,h7⟩:=h
 exact ⟨h1,Wx,h2,h3,h4,h5,h6.trans o,h7⟩
theorem FinAt.fin {S:Nat->Prop} {B P:Nat} {RR:Md.Mo × Int} {D N b:Nat} {w:World} {s:St} {W:World} (h:FinAt S B P RR D N w b s W) (hPD:P<D) (hBD:w.heap.size<=D) (hN:N<D):RR.2=s.2/\MoI B P RR.1 W/\Ofw S w W/\W.heap[N]?=some (.cells #[.pointer (some ⟨b,0,none⟩)] 113 (0,0)):=by
 obtain ⟨h1,Wx,⟨vv,vc,vg,hm⟩,h3,h4,h5,h6,h7⟩:=h
 refine ⟨h1,⟨vv,vc,vg,hm.off h6 (fun k hk=>⟨by omega,fun c t e=>absurd e (h5 k hk c t (0,0))⟩)⟩,h3.new h6 (fun k hk=>by omega),(h6.block N (Array.getElem?_eq_some_iff.1 h7).1 (by omega)).trans h7⟩
end Go.Proofs.YthohnmplbjhjaaaGreatDoor

namespace Go.Proofs.YthohnmplbjhjaaaGreatDoor
open Go Go.RowKit
theorem xu (s:St):(ye s).2.1.length<=s.1.length:=(zV (Nat.le_refl _)).2
theorem X8 (V:List Md.Vr) (x:List UInt8) (s:St):(yE V x s).2.1.length<=s.1.length:=Nat.le_of_eq (congrArg List.length (Zg V x s))
theorem xK (V:List Md.Vr) (s:St):(yz V s).2.1.length<=s.1.length:=Nat.le_trans (X8 _ _ _) (xu s)
theorem xY {p:Prop} [Decidable p] {a b s:St} (ha:a.1=s.1) (hb:b.1=s.1):(if p then a else b).1=s.1:=by split;exact ha;exact hb
theorem y3Y (V:List Md.Vr) (s:St):(newT V s).2.1.length<=s.1.length:=by
 have h:(newT V s).2.1=(ye s).2.1:=by
  unfold newT
  refine xY ((yS _ _).trans ?_) ?_
  ·exact xY rfl (yS _ _)
  ·exact xY rfl (yS _ _)
 rw [h]
 exact xu s
theorem QF (s:St):(rdOp s).2.1.length<=s.1.length:=by
 have h:(rdOp s).2.1=(ye s).2.1:=by
  unfold rdOp
  exact xY (yS _ _) rfl
 rw [h]
 exact xu s
theorem Yy (x:List UInt8) (s:St):(ym x s).2.1=s.1:=by
 unfold ym
 exact xY rfl (yS _ _)
theorem y3Z (s:St):(rdLo s).2.1.length<=s.1.length:=by
 have h:(rdLo s).2.1=(ye s).2.1:=by
  unfold rdLo
  exact xY (Yy _ _) ((yS _ _).trans (Yy _ _))
 rw [h]
 exact xu s
theorem y40 (lo:Int) (s:St):(rdHi lo s).2.1.length<=s.1.length:=by
 have h:(rdHi lo s).2.1=(ye s).2.1:=by
  unfold rdHi
  exact xY (Yy _ _) ((yS _ _).trans (Yy _ _))
 rw [h]
 exact xu s
theorem y41 (s:St):(zS s).2.1.length<=s.1.length:=Nat.le_trans (y40 _ _) (y3Z s)
theorem y42 (V:List Md.Vr) (x:List UInt8) (s:St):(yO V x s).2.1.length<=s.1.length:=by
 unfold yO
 refine Nat.le_trans (xK V _) ?_
 refine Nat.le_of_eq (congrArg List.length ?_)
 unfold cfT
 exact xY ((yS _ _).trans (Yy _ _)) (Yy _ _)
theorem y43 (x:List UInt8) (s:St):(yN x s).2.1.length<=s.1.length:=Nat.le_of_eq (congrArg List.length (Zi x s))
theorem QG {α:Type} {rd:List UInt8->St->α × St} (hr:∀ x s,(rd x s).2.1.length<=s.1.length):∀ (k:Nat) (all:List α) (s:St),(yK rd k all s).2.1.length<=s.1.length
  | 0, all, s => by
    unfold yK
    cases h:yl s with
    | none=>exact Nat.le_refl _
    | some p=>show (yh 47 p.2).1.length<=_;rw [yS];exact Nat.le_of_lt (zf h).1
  | k + 1, all, s => by
    unfold yK
    cases h:yl s with
    | none=>exact Nat.le_refl _
    | some p=>exact Nat.le_trans (QG hr k _ _) (Nat.le_trans (hr _ _) (Nat.le_of_lt (zf h).1))
theorem xZ {α:Type} {rd:List UInt8->St->α × St} (hr:∀ x s,(rd x s).2.1.length<=s.1.length) (s:St):(yp rd s).2.1.length<=s.1.length:=
 Nat.le_trans (QG hr _ _ _) (Nat.le_trans (hr _ _) (xu s))
theorem QH (s:St):(endT s).1.length<=s.1.length:=by
 unfold endT
 cases h:yl s with
 | none=>exact Nat.le_refl _
 | some p=>show (yh 57 p.2).1.length<=_;rw [yS];exact Nat.le_of_lt (zf h).1
theorem QI (V:List Md.Vr):∀ (k:Nat) (xs:List Int) (s:St),(yQ V k xs s).2.1.length<=s.1.length
  | 0, xs, s => by
    unfold yQ
    cases h:yl s with
    | none=>show (yh 52 s).1.length<=_;rw [yS];exact Nat.le_refl _
    | some p =>
      show (if p.1=[58] then (xs,p.2) else (xs,yh 47 p.2)).2.1.length<=_
      split
      · exact Nat.le_of_lt (zf h).1
      · show (yh 47 p.2).1.length<=_;rw [yS];exact Nat.le_of_lt (zf h).1
  | k + 1, xs, s => by
    unfold yQ
    cases h:yl s with
    | none=>show (yh 52 s).1.length<=_;rw [yS];exact Nat.le_refl _
    | some p =>
      show (if p.1=[58] then (xs,p.2) else yQ V k (xs++[(yE V p.1 p.2).1]) (yE V p.1 p.2).2).2.1.length<=_
      split
      · exact Nat.le_of_lt (zf h).1
      · exact Nat.le_trans (QI V k _ _) (Nat.le_trans (X8 _ _ _) (Nat.le_of_lt (zf h).1))
theorem y44 (V:List Md.Vr) (s:St):(zB V s).2.1.length<=s.1.length:=Nat.le_trans (QI V _ _ _) (xK V s)
theorem QJ (n:Nat):∀ (k:Nat) (all:List (List Int)) (s:St),(za n k all s).2.1.length<=s.1.length
  | 0, all, s => by
    unfold za
    cases h:yl s with
    | none=>exact Nat.le_refl _
    | some p =>
      show (yT n _ (yh 47 (ye (zq p.1 [58] p.2)).2)).2.1.length<=_
      refine Nat.le_trans (YS _ _ _) ?_
      rw [yS]
      refine Nat.le_trans (xu _) ?_
      rw [Zj]
      exact Nat.le_of_lt (zf h).1
  | k + 1, all, s => by
    unfold za
    cases h:yl s with
    | none=>exact Nat.le_refl _
    | some p =>
      refine Nat.le_trans (QJ n k _ _) (Nat.le_trans (YS _ _ _) (Nat.le_trans (xu _) ?_))
      rw [Zj]
      exact Nat.le_of_lt (zf h).1
theorem y45 (n:Nat) (s:St):(zU n s).2.1.length<=s.1.length:=Nat.le_trans (QJ n _ _ _) (Nat.le_trans (YS _ _ _) (xu s))
theorem y46 (V:List Md.Vr) (k:Nat) (s:St):(zt V k s).2.1.length<=s.1.length:=by
 have hk:=X8 V
 have ht:=y42 V
 unfold zt
 split
 ·exact Nat.le_trans (xZ ht _) (Nat.le_trans (Yz _) (QF s))
 split
 ·exact Nat.le_trans (QH _) (Nat.le_trans (Yz _) (Nat.le_trans (xK V _) (xK V s)))
 split
 ·exact xZ hk s
 split
 ·exact Nat.le_trans (xZ y43 _) (Nat.le_trans (xK V _) (xK V s))
 split
 ·exact Nat.le_trans (xZ hk _) (xK V s)
 split
 ·exact Nat.le_trans (xZ hk _) (xK V s)
 split
 ·refine Nat.le_trans (xZ ht _) (Nat.le_trans (Yz _) ?_)
  rw [Zj]
  exact Nat.le_trans (xu _) (xK V s)
 split
 ·exact Nat.le_trans (y45 _ _) (y44 V s)
 split
 ·exact Nat.le_trans (xZ hk _) (Nat.le_trans (Yz _) (Nat.le_trans (Yz _) (QF s)))
 split
 ·exact Nat.le_trans (QH _) (Nat.le_trans (y41 _) (y3Y V s))
 ·exact xZ ht s
theorem y47 (m:Md.Mo) (w:List UInt8) (s:St):(sayT m w s).2.1.length<=s.1.length:=by
 unfold sayT
 split
 ·show (yh 51 s).1.length<=_;rw [yS];exact Nat.le_refl _
 ·refine Nat.le_trans (y46 _ _ _) ?_
  rw [yS]
  exact Nat.le_refl _
end Go.Proofs.YthohnmplbjhjaaaGreatDoor

namespace Go.Proofs.YthohnmplbjhjaaaGreatDoor
open Go Go.RowKit
structure Lw (va:Value) (b:Nat) (s:St) (w:World):Prop where
 o:w.heap[b]?=some (.cells #[va,.string (yc s.1),.int .i64 s.2] 115 (0,0))
 n:s.1.length<=70000
theorem Ln.lw {w0:World} {V:List Md.Vr} {va:Value} {b:Nat} {s:St} {w:World} (h:Ln w0 V va b s w):Lw va b s w:=⟨h.o,h.n⟩
theorem Lw.lt {va:Value} {b:Nat} {s:St} {w:World} (h:Lw va b s w):b<w.heap.size:=(Array.getElem?_eq_some_iff.1 h.o).1
theorem Lw.keep {va:Value} {b:Nat} {s:St} {S:Nat->Prop} {w w':World} (h:Lw va b s w) (hS:∀ k,S k->k≠b) (ho:Ofw S w w'):Lw va b s w':=⟨(ho.block b h.lt (fun e=>hS b e rfl)).trans h.o,h.n⟩
theorem Lw.below {va:Value} {b:Nat} {s:St} {w w':World} (h:Lw va b s w) (hb:Below w.heap.size w w'):Lw va b s w':=h.keep (S:=fun _=>False) (fun _ f=>f.elim) (Ofw.of_below hb)
theorem Lw.put1 {va:Value} {b:Nat} {s:St} {w:World} (h:Lw va b s w) (r:List UInt8) (hr:r.length<=70000):Lw va b (r,s.2) (w.setCell ⟨b,1,none⟩ (.string (yc r))):=⟨yC h.o 1 _,hr⟩
theorem Lw.c1 {va:Value} {b:Nat} {s:St} {w:World} (h:Lw va b s w):w.cell? ⟨b,1,none⟩=some (.string (yc s.1)):=by rw [yd h.o 1];rfl
theorem Lw.c2 {va:Value} {b:Nat} {s:St} {w:World} (h:Lw va b s w):w.cell? ⟨b,2,none⟩=some (.int .i64 s.2):=by rw [yd h.o 2];rfl
theorem Lw.fr {va:Value} {b:Nat} {s:St} {w:World} (h:Lw va b s w) (i:Nat):w.frozen? ⟨b,i,none⟩=false:=yt h.o i
theorem Lw.len {va:Value} {b:Nat} {s:St} {w:World} (h:Lw va b s w):xv w b=s.1.length:=by
 unfold xv
 rw [h.c1]
 exact zI _
def SeqL (F:Fence) (n:Nat) (P:Program) (g:Nat) (lb:Array Value) (va:Value) (b:Nat) (T:Nat->Prop) (w:World):Prop:=
 ∀ (l:Nat) (J:St->World->Prop) (J':World->Prop) (s0:St),
  (∀ s W,J s W->Lw va b s W)->(∀ s W W',J s W->Ofw (fun _=>False) W W'->J s W') ->
  (∀ s x s1 W W1,J s W->yl s=some (x,s1)->Lw va b s1 W1->Ofw (fun k=>k=b) W W1->YieldAt F (n-1) P l #[.string (yc x)] W1 fun e W'=>((e=.returned (.bool true)/\∃ s2,J s2 W'/\s2.1.length<=s1.1.length)∨(e=.returned (.bool false)/\J' W'))/\W1.heap.size<=W'.heap.size/\∀ k,T k->W'.heap[k]?=W1.heap[k]?) ->
  J s0 w->(∀ k,T k->k<w.heap.size)->CallsIn F n P g (#[.func (.yield l) #[] #[]]++lb) w fun e W'=>(∃ v,e=.returned v)/\((∃ s,J s W'/\yl s=none)∨J' W')
set_option maxRecDepth 100000 in
set_option maxHeartbeats 4000000 in
theorem y4G (n:Nat) (hn:1<=n) {va:Value} {b:Nat} (B:Nat) (W:World) (hB:W.heap[B]?=some (.cells #[.pointer (some ⟨b,0,none⟩)] 113)) (hBb:B≠b) :
  SeqL Fence.wide n Tryz.prog 105 #[.pointer (some ⟨B,0,none⟩)] va b (fun k=>k=B) W:=by
 intro l J J2 s0 hL hJ hY h0 _
 refine callsIn_of_wp Tryz.func105 rfl trivial ?_ rfl
 simp only [Tryz.ntmps105,List.size_toArray,List.length_cons,List.length_nil,Nat.reduceAdd,Nat.reduceSub,Array.replicate_succ,Array.replicate_zero,List.push_toArray,List.append_toArray,List.nil_append,List.cons_append]
 gi_wp2
 gi_loopw [3,4] (fun _ _ wr=>∃ s:St,J s wr/\wr.heap[B]?=some (.cells #[.pointer (some ⟨b,0,none⟩)] 113)) (fun _ _ wr=>xv wr b)
 case atStart=>exact ⟨s0,h0,hB⟩
 case round=>
  obtain ⟨s,hj,hBr⟩:=hrel
  have hln:=hL s wr hj
  have k0:wr.cell? ⟨B,0,none⟩=some (.pointer (some ⟨b,0,none⟩)):=by simp [World.cell?,hBr]
  have k1:=hln.c1
  have k2:=hln.c2
  by_cases hf:s.2=0
  ·have hT:Calls Tryz.prog 106 #[.string (yc s.1),.string ⟨#[32,9]⟩] wr fun e w'=>e=.returned (.string (yc (s.1.dropWhile blk)))/\Below wr.heap.size wr w':=by
    have:=Qd (yc s.1) wr
    rw [zz] at this
    exact this
   obtain ⟨r,hr⟩:∃ r,s.1.dropWhile blk=r:=⟨_,rfl⟩
   have hrl:r.length<=70000:=by rw [<-hr];exact Nat.le_trans (List.dropWhile_sublist _).length_le hln.n
   obtain ⟨R,hR⟩:∃ R,yc r=R:=⟨_,rfl⟩
   obtain ⟨L,hLL⟩:∃ L,yc s.1=L:=⟨_,rfl⟩
   have hRs:R.size=r.length:=by rw [<-hR];exact zI r
   have hRl:R.data.toList=r:=by rw [<-hR];exact zz r
   rw [hr,hR,hLL] at hT
   rw [hLL] at k1
   rw [hf] at k2
   have HT:Hid (CallsIn Fence.wide (n-1) Tryz.prog 106 #[.string L,.string ⟨#[32,9]⟩] wr fun e w'=>e=.returned (.string R)/\Below wr.heap.size wr w'):=callsIn_wide.2 hT
   have HA:Hid (∀ w',CallsIn Fence.wide (n-1) Tryz.prog 107 #[.string R,.string ⟨#[32,9]⟩] w' fun e w2=>e=.returned (.int .i64 (if wlen r<r.length then (wlen r:Int) else -1))/\Below w'.heap.size w' w2):=fun w'=>by
    have:=Qc R w' (by omega)
    rw [hRl,hRs] at this
    exact callsIn_wide.2 this
   have HW:Hid (∀ w',Below wr.heap.size wr w'->w'.cell? ⟨B,0,none⟩=some (.pointer (some ⟨b,0,none⟩))/\w'.cell? ⟨b,1,none⟩=some (.string L)/\w'.frozen? ⟨b,1,none⟩=false):=fun w' hb=>by
    have h1:=hln.below hb
    refine ⟨(hb.cell (p:=⟨B,0,none⟩) (Array.getElem?_eq_some_iff.1 hBr).1).trans k0,?_,h1.fr 1⟩
    rw [h1.c1,hLL]
   by_cases hr0:r=[]
   ·have hem:R.toList.isEmpty=true:=by rw [Lib.toList_data,hRl,hr0];rfl
    have HN:Hid (yl s=none):=by show yl s=none;unfold yl;rw [if_neg (fun e=>e.2 (hr.trans hr0))]
    have HJ:Hid (J s wr):=hj
    clear hT hR hLL hRs hRl hr hr0 hj hln hBr hrl
    gi_wp2_with (refine ⟨trivial,?_⟩;gi_at_call 106;refine HT.out.mono ?_;rintro e w1 ⟨rfl,hb1⟩;have HB1:Hid (Below wr.heap.size wr w1):=hb1;clear hb1)
    refine bodyPost_ret (results_none rfl _ _ _) rfl ?_
    exact ⟨⟨_,rfl⟩,.inl ⟨s,hJ _ _ _ HJ.out (Ofw.of_below HB1.out),HN.out⟩⟩
   ·have hem:R.toList.isEmpty=false:=by
     rw [Lib.toList_data,hRl]
     cases r with
     | nil=>exact absurd rfl hr0
     | cons _ _=>rfl
    have HTk:Hid (yl s=some (r.take (wlen r),(r.drop (wlen r),0))):=by show yl s=_;unfold yl;rw [if_pos ⟨hf,by rw [hr];exact hr0⟩,hr]
    have hwl:=Zb r
    obtain ⟨m,hm⟩:∃ m,wlen r=m:=⟨_,rfl⟩
    rw [hm] at HA hwl HTk
    have hmI:(m:Int)<=(R.size:Int):=by omega
    have HJ:Hid (J s wr):=hj
    have HLn:Hid (Lw va b s wr):=hln
    have HLt:=zf HTk.out
    have HBr:Hid (wr.heap[B]?=some (.cells #[.pointer (some ⟨b,0,none⟩)] 113)):=hBr
    have HLR:Hid (r.length=R.size/\R=yc r):=⟨hRs.symm,hR.symm⟩
    have HLt':Hid ((r.drop m).length<s.1.length):=HLt.1
    clear hT hR hLL hRs hRl hr hr0 hm hj hln hBr hrl HLt
    have fin:∀ w2,Below wr.heap.size wr w2->∃ W5,(w2.setCell ⟨b,1,none⟩ (.string (yc (r.drop m)))).drew=W5/\Lw va b (r.drop m,0) W5/\Ofw (fun k=>k=b) wr W5/\W5.heap[B]?=some (.cells #[.pointer (some ⟨b,0,none⟩)] 113):=fun w2 hb2=>by
     refine ⟨_,rfl,?_,?_,?_⟩
     ·have h1:=((HLn.out.below hb2).put1 (r.drop m) (by have:=HLn.out.n;have:=HLt'.out;omega))
      rw [hf] at h1
      exact h1.below (Below.refl _ _).drew
     ·exact ((Ofw.of_below hb2).trans (Ofw.set (S:=fun k=>k=b) _ rfl)).trans (Ofw.of_below (Below.refl _ _).drew)
     ·show (w2.setCell ⟨b,1,none⟩ _).heap[B]?=_
      rw [Below.heap_setCell w2 ⟨b,1,none⟩ _ B (by simpa using hBb)]
      exact (hb2.block _ (Array.getElem?_eq_some_iff.1 HBr.out).1).trans HBr.out
    have Hfin:Hid (∀ w2,Below wr.heap.size wr w2->∃ W5,(w2.setCell ⟨b,1,none⟩ (.string (yc (r.drop m)))).drew=W5/\Lw va b (r.drop m,0) W5/\Ofw (fun k=>k=b) wr W5/\W5.heap[B]?=some (.cells #[.pointer (some ⟨b,0,none⟩)] 113)):=fin
    clear fin
    by_cases hlt:m<r.length
    ·rw [if_pos hlt] at HA
     have hm0:¬ (m:Int)<0:=by omega
     clear hlt
     gi_wp2_with (first | (refine ⟨trivial,?_⟩;gi_at_call 106;refine HT.out.mono ?_;rintro e w1 ⟨rfl,hb1⟩;have HB1:Hid (Below wr.heap.size wr w1):=hb1;clear hb1) | (refine ⟨trivial,?_⟩;gi_at_call 107;refine (HA.out w1).mono ?_;rintro e w2 ⟨rfl,hb2⟩;have HB2:Hid (Below wr.heap.size wr w2):=yj HB1.out hb2;obtain ⟨y0,y1,z1⟩:=HW.out w2 HB2.out;clear hb2))
     gi_region
     obtain ⟨hlen,hRt⟩:=HLR.out
     have x1:R.extract m R.size=yc (r.drop m):=by rw [hRt,Ys,List.take_of_length_le (by simp [zI])]
     have x2:R.extract 0 m=yc (r.take m):=by rw [hRt,Ys];simp
     rw [x1]
     obtain ⟨W5,hW5,ln5,of5,b5⟩:=Hfin.out w2 HB2.out
     rw [hW5]
     obtain ⟨fn,tmps,assign,body,hy,hR⟩:=hY s (r.take m) (r.drop m,0) wr W5 HJ.out HTk.out ln5 of5
     have hlt5:xv wr b=s.1.length:=HLn.out.len
     clear y0 y1 z1 hW5 hRt hlen x1 k0 k1 k2
     gi_wp2
     refine hR.mono ?_
     rintro e W6 ⟨(⟨rfl,s2,hj6,hle⟩ | ⟨rfl,hj6⟩),_,hk6⟩
     ·have hln6:=(hL s2 W6 hj6).len
      gi_wp2
      go_roundw
      case rel=>exact ⟨s2,hj6,(hk6 B rfl).trans b5⟩
      case measure=>(have:=HLt'.out;have h2:s2.1.length<=(r.drop m).length:=hle;omega)
     ·gi_wp2
      refine bodyPost_ret (results_none rfl _ _ _) rfl ?_
      exact ⟨⟨_,rfl⟩,.inr hj6⟩
    ·rw [if_neg hlt] at HA
     have hmR:m=R.size:=by have:=HLR.out.1;omega
     clear hlt
     gi_wp2_with (first | (refine ⟨trivial,?_⟩;gi_at_call 106;refine HT.out.mono ?_;rintro e w1 ⟨rfl,hb1⟩;have HB1:Hid (Below wr.heap.size wr w1):=hb1;clear hb1) | (refine ⟨trivial,?_⟩;gi_at_call 107;refine (HA.out w1).mono ?_;rintro e w2 ⟨rfl,hb2⟩;have HB2:Hid (Below wr.heap.size wr w2):=yj HB1.out hb2;obtain ⟨y0,y1,z1⟩:=HW.out w2 HB2.out;clear hb2))
     gi_region
     obtain ⟨hlen,hRt⟩:=HLR.out
     have x1:ByteArray.empty=yc (r.drop m):=by rw [List.drop_eq_nil_of_le (by omega)];rfl
     have x2:R.extract 0 R.size=yc (r.take m):=by rw [<-hmR,hRt,Ys];simp
     have x3:R.extract 0 r.length=yc (r.take m):=by rw [hlen];exact x2
     rw [x1]
     obtain ⟨W5,hW5,ln5,of5,b5⟩:=Hfin.out w2 HB2.out
     rw [hW5]
     obtain ⟨fn,tmps,assign,body,hy,hR⟩:=hY s (r.take m) (r.drop m,0) wr W5 HJ.out HTk.out ln5 of5
     have hlt5:xv wr b=s.1.length:=HLn.out.len
     have hdl:(r.drop m).length<s.1.length:=HLt'.out
     rw [hmR] at hy
     clear y0 y1 z1 hW5 hRt hlen x1 k0 k1 k2
     gi_wp2
     refine hR.mono ?_
     rintro e W6 ⟨(⟨rfl,s2,hj6,hle⟩ | ⟨rfl,hj6⟩),_,hk6⟩
     ·have hln6:=(hL s2 W6 hj6).len
      gi_wp2
      go_roundw
      case rel=>exact ⟨s2,hj6,(hk6 B rfl).trans b5⟩
      case measure=>(have:=HLt'.out;have h2:s2.1.length<=(r.drop m).length:=hle;omega)
     ·gi_wp2
      refine bodyPost_ret (results_none rfl _ _ _) rfl ?_
      exact ⟨⟨_,rfl⟩,.inr hj6⟩
  ·have k2f:decide (s.2=0)=false:=decide_eq_false hf
   have HN:Hid (yl s=none):=xm hf
   gi_wp2
   go_end0
   exact ⟨⟨_,rfl⟩,.inl ⟨s,hj,HN.out⟩⟩
theorem y4F {F:Fence} {n:Nat} {P:Program} {g:Operand} {ps:Array Tmp} {assign body:Code} {Q:Exit->Act->World->Prop} {a:Act} {w:World}
  (hro:F.round=none) (h1:1<=n) {gf:Nat} {lb:Array Value} (hg:a.eval g=.func (.func gf) #[] lb) (hFg:F.fn gf) (eg:∀ args w,(callFunc gf args).run P w=.ok (.enter gf args) w)
  {va:Value} {b:Nat} (s0:St) {T:Nat->Prop} (hT:∀ k,T k->k<w.heap.size)
  (hseq:∀ W,RowKit.Below w.heap.size w W->SeqL F (n-1) P gf lb va b T W) (hps:ps.size=1)
  (I:St->World->Prop) (I':Code->World->Prop) (hL:∀ s W,I s W->Lw va b s W) (hI:∀ s W W',I s W->Ofw (fun k=>k=w.heap.size∨k=w.heap.size+1) W W'->I s W') (hI':∀ c W W',I' c W->Ofw (fun k=>k=w.heap.size∨k=w.heap.size+1) W W'->I' c W') (h0:I s0 w) (a₁:List UInt8->Act)
  (hassign:∀ (l:Nat) (x:List UInt8) (W:World) (K:Act->World->Prop),K (a₁ x) W->assign.wpIn (F.inRound l) (n-1-1) P (Exit.then K (fun _ _ _=>False)) { tmps:=(ps.zip #[.string (yc x)]).foldl (fun t (p,v)=>t.setIfInBounds p v) a.tmps,defers:=[] } W)
  (hbody:∀ (l:Nat) (s:St) (x:List UInt8) (s1:St) (W W1:World),I s W->yl s=some (x,s1)->Lw va b s1 W1->Ofw (fun k=>k=b∨k=w.heap.size∨k=w.heap.size+1) W W1->w.heap.size+2<=W1.heap.size->(∀ k,(k=w.heap.size∨k=w.heap.size+1)->∀ c t z,W1.heap[k]?≠some (.cells c t z)) ->
   body.wpIn (F.inRound l) (n-1-1) P (fun ex _ W'=>K8 I I' s1.1.length ex W'/\W1.heap.size<=W'.heap.size/\∀ k,(T k∨k=w.heap.size∨k=w.heap.size+1)->W'.heap[k]?=W1.heap[k]?) (a₁ x) W1)
  (hdone:∀ (s:St) (W:World),I s W->yl s=none->W.heap[w.heap.size]?=some (.deferred (some []))->Q .normal { a with defers:={ target:=.collected w.heap.size,args:=#[] } :: a.defers } W)
  (hstop:∀ (c:Code) (W:World),I' c W->W.heap[w.heap.size]?=some (.deferred (some []))->c.wpIn F n P Q { a with defers:={ target:=.collected w.heap.size,args:=#[] } :: a.defers } W) :
  (Code.rangeFunc g ps assign body).wpIn F n P Q a w:=by
 refine wpIn_rangeFunc fun fn hfn=>?_
 obtain ⟨rec,hrec⟩:∃ rec:LoopState->Option Code->Loop,rec=fun st p=>{ state:=st,pending:=p,fn:=fn,tmps:=a.tmps,params:=ps,assign:=assign,body:=body,defers:=w.heap.size }:=⟨_,rfl⟩
 obtain ⟨D,hD⟩:∃ D,D=w.heap.size:=⟨_,rfl⟩
 have hnew:=run_enterLoop_outer (P:=P) (w:=w) fn a.tmps ps assign body
 rw [<-hro] at hnew
 obtain ⟨W1,hW1⟩:∃ W1,(w.alloc (.deferred (some []))).alloc (.loop (rec .ready none))=W1:=⟨_,rfl⟩
 have hrr:rec .ready none={ state:=.ready,pending:=none,fn:=fn,tmps:=a.tmps,params:=ps,assign:=assign,body:=body,defers:=w.heap.size }:=by rw [hrec]
 rw [<-hrr,hW1] at hnew
 have hb1:RowKit.Below w.heap.size w W1:=by
  rw [<-hW1]
  exact ((Below.refl _ w).alloc (Nat.le_refl _) _).alloc (by simp) _
 have hs1:W1.heap.size=w.heap.size+2:=by rw [<-hW1];simp
 have hl1:W1.heap[D+1]?=some (.loop (rec .ready none)):=by
  rw [<-hW1,hD]
  have:=World.alloc_heap_new (w.alloc (.deferred (some []))) (.loop (rec .ready none))
  rwa [World.size_alloc] at this
 have hk1:W1.heap[D]?=some (.deferred (some [])):=by
  rw [<-hW1,hD]
  exact (Below.heap_alloc _ _ _ (by simp)).trans (World.alloc_heap_new w _)
 have hbD:b<D:=hD▸(hL _ _ h0).lt
 refine ⟨w.heap.size+1,_,W1,{ target:=.fn (.func gf) lb,args:=#[.func (.yield (w.heap.size+1)) #[] #[]] },W1,gf,#[.func (.yield (w.heap.size+1)) #[] #[]]++lb,W1,hnew,?_,?_,?_,fun _=>h1,?_⟩
 ·simp only [resolve,hg]
  simp [go_sem]
 ·intro f' hf'
  simp [Target.leads] at hf'
  subst hf'
  exact hFg
 ·simp [invoke,go_sem,eg]
 ·rw [<-hD] at hT hseq hI hI' hbody hdone hstop ⊢
  refine (hseq W1 (hD▸hb1) (D+1) (fun s W=>I s W/\W.heap[D+1]?=some (.loop (rec .ready none))/\W.heap[D]?=some (.deferred (some []))) (fun W=>∃ c,I' c W/\W.heap[D+1]?=some (.loop (rec .done (some c)))/\W.heap[D]?=some (.deferred (some []))) s0 (fun s W h=>hL s W h.1) ?_ ?_ ⟨hI _ _ _ h0 (Ofw.of_below hb1),hl1,hk1⟩ (fun k hk=>by have:=hT k hk;omega)).mono ?_
  ·rintro s W W' ⟨hi,hl,hk⟩ ho
   have h3:=(Array.getElem?_eq_some_iff.1 hl).1
   have h4:=(Array.getElem?_eq_some_iff.1 hk).1
   exact ⟨hI s W W' hi (ho.less fun k h=>h.elim),(ho.block _ h3 fun h=>h).trans hl,(ho.block _ h4 fun h=>h).trans hk⟩
  ·rintro s x s1 W Wa ⟨hi,hl0,hk0⟩ hx hln hoa
   have hl:Wa.heap[D+1]?=some (.loop (rec .ready none)):=(hoa.block _ (Array.getElem?_eq_some_iff.1 hl0).1 (by omega)).trans hl0
   have hk:Wa.heap[D]?=some (.deferred (some [])):=(hoa.block _ (Array.getElem?_eq_some_iff.1 hk0).1 (by omega)).trans hk0
   have h3:=(Array.getElem?_eq_some_iff.1 hl).1
   have hy:=run_yield (P:=P) (args:=#[.string (yc x)]) hl (by rw [hrec];exact hps.symm)
   rw [hrec] at hy
   refine ⟨fn,_,assign,body,hy,roundIn_of_wpIn hfn (hassign _ x Wa _ ?_)⟩
   obtain ⟨W2,hW2⟩:∃ W2,Wa.putObj (D+1) (.loop { rec .ready none with state:=.busy })=W2:=⟨_,rfl⟩
   have o2:Ofw (fun k=>k=D∨k=D+1) Wa W2:=hW2▸zd Wa (D+1) _ (.inr rfl)
   have l2:W2.heap[D+1]?=some (.loop { rec .ready none with state:=.busy }):=hW2▸World.putObj_heap_same h3
   have k2:W2.heap[D]?=some (.deferred (some [])):=hW2▸(World.putObj_heap_other (by omega)).trans hk
   have e2:∀ k,k≠D+1->W2.heap[k]?=Wa.heap[k]?:=fun k hne=>hW2▸World.putObj_heap_other hne
   have s2:W2.heap.size=Wa.heap.size:=by rw [<-hW2];simp
   have ln2:Lw va b s1 W2:=hln.keep (fun k hk=>by omega) o2
   refine ⟨W2,hW2▸run_beginRound hl (by rw [hrec]),wpIn_mono (hbody _ s x s1 W W2 hi hx ln2 ((hoa.less fun k hk=>.inl hk).trans (o2.less fun k hk=>.inr hk)) (by omega) (fun k hk c t z e=>by
    rcases hk with rfl | rfl
    ·rw [k2] at e;cases e
    ·rw [l2] at e;cases e)) ?_⟩
   rintro ex a3 W3 ⟨hex,hs3,hk3⟩
   have l3:=(hk3 (D+1) (.inr (.inr rfl))).trans l2
   have h5:D+1<W3.heap.size:=(Array.getElem?_eq_some_iff.1 l3).1
   have fin:∀ (st:LoopState) (p:Option Code),(W3.putObj (D+1) (.loop (rec st p))).heap[D+1]?=some (.loop (rec st p))/\(W3.putObj (D+1) (.loop (rec st p))).heap[D]?=some (.deferred (some []))/\Wa.heap.size<=(W3.putObj (D+1) (.loop (rec st p))).heap.size/\∀ k,T k->(W3.putObj (D+1) (.loop (rec st p))).heap[k]?=Wa.heap[k]?:=fun st p=>by
    refine ⟨World.putObj_heap_same h5,(World.putObj_heap_other (by omega)).trans ((hk3 D (.inr (.inl rfl))).trans k2),by simp;omega,fun k hTk=>?_⟩
    have hne:k≠D+1:=fun e=>by have:=hT k hTk;omega
    exact (World.putObj_heap_other hne).trans ((hk3 k (.inl hTk)).trans (e2 k hne))
   have stop:∀ c:Code,I' c W3->∃ v w',(Instr.endRound (D+1) (some c)).run P W3=.ok v w'/\((((Ending.returned v)=.returned (.bool true)/\∃ s2,(I s2 w'/\w'.heap[D+1]?=some (.loop (rec .ready none))/\w'.heap[D]?=some (.deferred (some [])))/\s2.1.length<=s1.1.length)∨((Ending.returned v)=.returned (.bool false)/\∃ c,I' c w'/\w'.heap[D+1]?=some (.loop (rec .done (some c)))/\w'.heap[D]?=some (.deferred (some []))))/\Wa.heap.size<=w'.heap.size/\∀ k,T k->w'.heap[k]?=Wa.heap[k]?):=fun c hi3=>by
    have hr:=run_endRound (P:=P) (some c) l3
    have hre:({ { rec .ready none with state:=.busy } with state:=if (some c:Option Code).isNone then .ready else .done,pending:=some c }:Loop)=rec .done (some c):=by rw [hrec];rfl
    rw [hre] at hr
    obtain ⟨f1,f2,f3,f4⟩:=fin .done (some c)
    exact ⟨_,_,hr,.inr ⟨rfl,c,hI' _ _ _ hi3 (zd W3 (D+1) _ (.inr rfl)),f1,f2⟩,f3,f4⟩
   rcases hex with ⟨rfl,s2',hi3,hle⟩ | ⟨rfl,hi3⟩ | ⟨id,rfl,hi3⟩
   ·have hr:=run_endRound (P:=P) none l3
    have hre:({ { rec .ready none with state:=.busy } with state:=if (none:Option Code).isNone then .ready else .done,pending:=none }:Loop)=rec .ready none:=by rw [hrec];rfl
    rw [hre] at hr
    obtain ⟨f1,f2,f3,f4⟩:=fin .ready none
    exact ⟨_,_,hr,.inl ⟨rfl,s2',⟨hI _ _ _ hi3 (zd W3 (D+1) _ (.inr rfl)),f1,f2⟩,hle⟩,f3,f4⟩
   ·exact stop .ret hi3
   ·exact stop (.exit id) hi3
  ·rintro e W2 ⟨⟨v,rfl⟩,(⟨s,⟨hi,hl,hk⟩,hn⟩ | ⟨c,hi,hl,hk⟩)⟩
   ·have he:=run_endLoop (P:=P) hl (by rw [hrec];simp)
    have hp:(rec .ready none).pending=none:=by rw [hrec]
    rw [hp] at he
    exact ⟨none,_,he,hdone s _ (hI _ _ _ hi (zd W2 (D+1) _ (.inr rfl))) hn ((World.putObj_heap_other (by omega)).trans hk)⟩
   ·have he:=run_endLoop (P:=P) hl (by rw [hrec];simp)
    have hp:(rec .done (some c)).pending=some c:=by rw [hrec]
    rw [hp] at he
    exact ⟨some c,_,he,hstop c _ (hI' _ _ _ hi (zd W2 (D+1) _ (.inr rfl))) ((World.putObj_heap_other (by omega)).trans hk)⟩
end Go.Proofs.YthohnmplbjhjaaaGreatDoor

namespace Go.Proofs.YthohnmplbjhjaaaGreatDoor
open Go Go.RowKit Go.Shelf Go.Lib
attribute [local go_sem] Oper.semAt_some
theorem QY {F:Fence} {nn:Nat} {P:Program} {ops:Array Oper} {o:Oper} {a:Act} {Q:Exit->Act->World->Prop} {K:Act->World->Prop} (w:World) (ty:TypeId) (x y:Operand) (ho:o.op=.store ty x y)
  (g:Nat) (cells:Array Value) (hx:a.eval x=.pointer (some ⟨g,0,none⟩)) (hy:a.eval y=.agg cells) (t:TypeId) (old:Array Value) (hg:w.heap[g]?=some (.cells old t (0,0))) (hi:(P.info? ty).map (·.size)=some cells.size)
  (hold:old.size=cells.size) (h1:cells.all (·.oneCell')=true) (hw:Region.wanted o (yielded ops a.tmps)=true) (h:K (a.put o.dst undef) (w.setRow g cells)):if Region.wanted o (yielded ops a.tmps)=true then Oper.wpIn F nn P o a w K Q else (∀ f,o.about P w a.eval=some f->F.fn f)/\K (a.put o.dst undef) w:=by
 rw [if_pos hw]
 refine ⟨by simp [Oper.about,ho],?_⟩
 rw [Oper.semAt_plain F _ _ (by rw [ho];intro c hc;cases hc)]
 unfold execOp
 simp only [ho,hx,hy,Instr.storeAt,Instr.sureAddr,Sem.run_bind,Sem.run_pure,Result.andThen_ok,run_storeVar_row w g t ty old cells hg hi hold h1]
 exact h
theorem SyV.base {B B':Nat} {y:Sy} {vt vx vb vr:Value} {w:World} (h:SyV B y vt vx vb vr w) (hB:B'<=B):SyV B' y vt vx vb vr w:=by
 obtain ⟨vs,D,hr,hrs⟩:=h.r
 exact ⟨zu h.t hB,zu h.x hB,zu h.b hB,vs,D,zu hr hB,hrs.base hB⟩
theorem SyV.one {B:Nat} {y:Sy} {vt vx vb vr:Value} {w:World} (h:SyV B y vt vx vb vr w):(sayC y.v.name y.v.lo y.v.hi y.c.kind y.c.op vt y.c.k y.c.v y.c.x y.c.y vx vb vr).all (·.oneCell')=true:=by
 obtain ⟨vs,D,hr,hrs⟩:=h.r
 obtain ⟨at1,ct1,hvt⟩:=yq h.t
 obtain ⟨ax1,cx1,hvx⟩:=yq h.x
 obtain ⟨ab1,cb1,hvb⟩:=yq h.b
 obtain ⟨ar1,cr1,hvr⟩:=yq hr
 rw [hvt,hvx,hvb,hvr]
 exact QZ _ _ _ _ _ _ _ _ _ _ _ _ _ _ _ _ _ _ _ _ _
structure ReadAt (B P:Nat) (m:Md.Mo) (vv vc vg:Value) (w Wa w5:World) (G:Nat) (Q:Sy × St) (vt vx vb vr:Value):Prop where
 c:w5.heap[G]?=some (.cells (sayC Q.1.v.name Q.1.v.lo Q.1.v.hi Q.1.c.kind Q.1.c.op vt Q.1.c.k Q.1.c.v Q.1.c.x Q.1.c.y vx vb vr) 74 (0,0))
 l:Ln w m.vars vv (w.heap.size+1) Q.2 w5
 o:Ofw (fun k=>k=w.heap.size+1) Wa w5
 y:SyV B Q.1 vt vx vb vr w5
theorem Zn {B P:Nat} {m:Md.Mo} {vv vc vg:Value} {w:World} (h:MoIs B P m vv vc vg w) {k:Nat} (hk:k=P∨vv.ownBlock=some k∨vc.ownBlock=some k):∃ c t,w.heap[k]?=some (.cells c t (0,0))/\(t=26∨t=56∨t=61)/\B<=k:=by
 rcases hk with rfl | hk | hk
 ·exact ⟨_,_,h.o,.inl rfl,h.lo⟩
 ·obtain ⟨h1,cur,hc⟩:=yn h.v hk
  exact ⟨_,_,hc,.inr (.inl rfl),h1⟩
 ·obtain ⟨L,_,hkk,_⟩:=h.k
  obtain ⟨h1,cur,hc⟩:=yn hkk hk
  exact ⟨_,_,hc,.inr (.inr rfl),h1⟩
theorem Zo {B P:Nat} {m:Md.Mo} {vv vc vg:Value} {w Wa w5 w6:World} {G D:Nat} {Q:Sy × St} {vt vx vb vr:Value} (hM:MoIs B P m vv vc vg w5) (h5:ReadAt B P m vv vc vg w Wa w5 G Q vt vx vb vr) (o6:Ofw (fun k=>k=P∨vv.ownBlock=some k∨vc.ownBlock=some k) w5 w6)
  (hOa:Ofw (fun _=>False) w Wa) (hD:D+2<=Wa.heap.size) (hnc:∀ k,(k=D∨k=D+1)->∀ c t z,Wa.heap[k]?≠some (.cells c t z)) (hD4:D=w.heap.size+4) (hT:Wa.heap[w.heap.size+3]?=some (.cells #[.pointer (some ⟨w.heap.size+1,0,none⟩)] 113)) (hN:Wa.heap[w.heap.size+2]?=some (.cells #[.pointer (some ⟨w.heap.size+1,0,none⟩)] 113)) (_hBw:B<=w.heap.size) :
  Lw vv (w.heap.size+1) Q.2 w6/\Ofw (fun k=>k=P∨vv.ownBlock=some k∨vc.ownBlock=some k) w w6/\(∀ k,(k=D∨k=D+1)->∀ c t z,w6.heap[k]?≠some (.cells c t z))/\D+2<=w6.heap.size/\w6.heap[w.heap.size+2]?=some (.cells #[.pointer (some ⟨w.heap.size+1,0,none⟩)] 113)/\Wa.heap.size<=w6.heap.size/\∀ k,(k=w.heap.size+3∨k=D∨k=D+1)->w6.heap[k]?=Wa.heap[k]?:=by
 have hs5:=h5.o.size
 have hs6:=o6.size
 have kp:∀ k,(k=w.heap.size+2∨k=w.heap.size+3∨k=D∨k=D+1)->w6.heap[k]?=Wa.heap[k]?:=fun k hk=>by
  have hk1:k<Wa.heap.size:=by omega
  have e5:w5.heap[k]?=Wa.heap[k]?:=h5.o.block k hk1 (by omega)
  refine (o6.block k (by omega) (fun e=>?_)).trans e5
  obtain ⟨c,t,hc,ht,_⟩:=Zn hM e
  rw [e5] at hc
  rcases hk with rfl | rfl | hk
  ·rw [yZ hN hc] at ht;revert ht;decide
  ·rw [yZ hT hc] at ht;revert ht;decide
  ·exact hnc k hk _ _ _ hc
 refine ⟨h5.l.lw.keep (fun k hk e=>?_) o6,(((hOa.less fun _ f=>f.elim).new h5.o (fun k hk=>by have hk':k=w.heap.size+1:=hk;omega)).trans o6),fun k hk c t z e=>?_,by omega,(kp _ (.inl rfl)).trans hN,by omega,fun k hk=>kp k (.inr hk)⟩
 ·obtain ⟨c,t,hc,ht,_⟩:=Zn hM hk
  rw [e] at hc
  rw [yZ h5.l.o hc] at ht
  revert ht
  decide
 ·rw [kp k (.inr (.inr hk))] at e
  exact hnc k hk c t z e
set_option maxRecDepth 100000 in
set_option maxHeartbeats 4000000 in
theorem y4t {m:Md.Mo} {B P:Nat} {vv vc vg:Value} (l:List UInt8) (w:World) (h:MoIs B P m vv vc vg w) (hg:Good m) (hw:Way w w) (hl:l.length<=70000):Calls Tryz.prog 28 #[.pointer (some ⟨P,0,none⟩),.string (yc l)] w fun e w'=>e=.returned (.int .i64 (yP m l).2)/\MoI B P (yP m l).1 w'/\Ofw (fun k=>k=P∨vv.ownBlock=some k∨vc.ownBlock=some k) w w':=by
  obtain ⟨av,cv,hvv⟩:=yq h.v
  obtain ⟨ac,cc,hvc⟩:∃ a cap,vc=.slice a m.cons.length cap:=by
    obtain ⟨L,_,hk,_⟩:=h.k
    exact yq hk
  obtain ⟨S,hS⟩:∃ S:Nat->Prop,S=(fun k=>k=P∨vv.ownBlock=some k∨vc.ownBlock=some k):=⟨_,rfl⟩
  rw [<-hS]
  subst hvv hvc
  have HSet:Hid (S=(fun k=>k=P∨(Value.slice av m.vars.length cv).ownBlock=some k∨(Value.slice ac m.cons.length cc).ownBlock=some k)):=hS
  clear hS
  have hV:VarsAt w (.slice av m.vars.length cv) m.vars:=(h.at hg).v
  obtain ⟨RR,hRR⟩:∃ RR,yP m l=RR:=⟨_,rfl⟩
  have HRR:Hid (yP m l=RR):=hRR
  rw [hRR]
  clear hRR
  have hPl:=(Array.getElem?_eq_some_iff.1 h.o).1
  have hlo:=h.lo
  obtain ⟨W1,hW1⟩:∃ W1,w.alloc (.cells #[.pointer (some ⟨P,0,none⟩)] 81)=W1:=⟨_,rfl⟩
  obtain ⟨W2,hW2⟩:∃ W2,W1.alloc (.cells #[.slice av m.vars.length cv,.string (yc l),.int .i64 0] 115)=W2:=⟨_,rfl⟩
  obtain ⟨W3,hW3⟩:∃ W3,W2.alloc (.cells #[.pointer (some ⟨w.heap.size+1,0,none⟩)] 113)=W3:=⟨_,rfl⟩
  obtain ⟨W4,hW4⟩:∃ W4,W3.alloc (.cells #[.pointer (some ⟨w.heap.size+1,0,none⟩)] 113)=W4:=⟨_,rfl⟩
  have hb1:Below w.heap.size w W1:=hW1▸(Below.refl _ _).alloc (Nat.le_refl _) _
  have hs1:W1.heap.size=w.heap.size+1:=by rw [<-hW1];simp
  have hb2:Below W1.heap.size W1 W2:=hW2▸(Below.refl _ _).alloc (Nat.le_refl _) _
  have hs2:W2.heap.size=w.heap.size+2:=by rw [<-hW2];simp [hs1]
  have hb3:Below W2.heap.size W2 W3:=hW3▸(Below.refl _ _).alloc (Nat.le_refl _) _
  have hs3:W3.heap.size=w.heap.size+3:=by rw [<-hW3];simp [hs2]
  have hb4:Below W3.heap.size W3 W4:=hW4▸(Below.refl _ _).alloc (Nat.le_refl _) _
  have hs4:W4.heap.size=w.heap.size+4:=by rw [<-hW4];simp [hs3]
  have hbw:Below w.heap.size w W4:=((hb1.trans (hb2.mono hb1.size)).trans (hb3.mono (by omega))).trans (hb4.mono (by omega))
  have a1:W4.heap[w.heap.size]?=some (.cells #[.pointer (some ⟨P,0,none⟩)] 81):=(hb4.block _ (by omega)).trans ((hb3.block _ (by omega)).trans ((hb2.block _ (by omega)).trans (hW1▸World.alloc_heap_new w _)))
  have a2:W4.heap[w.heap.size+1]?=some (.cells #[.slice av m.vars.length cv,.string (yc l),.int .i64 0] 115):=(hb4.block _ (by omega)).trans ((hb3.block _ (by omega)).trans (by rw [<-hs1,<-hW2];exact World.alloc_heap_new W1 _))
  have a3:W4.heap[w.heap.size+2]?=some (.cells #[.pointer (some ⟨w.heap.size+1,0,none⟩)] 113):=(hb4.block _ (by omega)).trans (by rw [<-hs2,<-hW3];exact World.alloc_heap_new W2 _)
  have a4:W4.heap[w.heap.size+3]?=some (.cells #[.pointer (some ⟨w.heap.size+1,0,none⟩)] 113):=by rw [<-hs3,<-hW4];exact World.alloc_heap_new W3 _
  have aP:W1.cell? ⟨P,0,none⟩=some (.slice av m.vars.length cv):=by rw [yd ((hb1.block _ hPl).trans h.o) 0];rfl
  have b1:W1.cell? ⟨w.heap.size,0,none⟩=some (.pointer (some ⟨P,0,none⟩)):=by rw [yd (show W1.heap[w.heap.size]?=some (.cells #[.pointer (some ⟨P,0,none⟩)] 81) from hW1▸World.alloc_heap_new w _) 0];rfl
  have b3:W3.cell? ⟨w.heap.size+2,0,none⟩=some (.pointer (some ⟨w.heap.size+1,0,none⟩)):=by rw [yd (show W3.heap[w.heap.size+2]?=some (.cells #[.pointer (some ⟨w.heap.size+1,0,none⟩)] 113) from by rw [<-hs2,<-hW3];exact World.alloc_heap_new W2 _) 0];rfl
  have hm:Tryz.prog.follows .mixedOrders=true:=by kernel_rfl
  have hX:=xT (F:=Fence.wide) (5-1) (w.heap.size+1) W3 rfl
  refine (callsIn_wide (n:=5)).1 ?_
  refine callsIn_of_wp_marks Tryz.func28 rfl trivial ?_ rfl
  simp only [Tryz.ntmps28,List.size_toArray,List.length_cons,List.length_nil,Nat.reduceAdd,Nat.reduceSub,Array.replicate_succ,Array.replicate_zero,List.push_toArray,List.append_toArray,List.nil_append,List.cons_append]
  gi_wp2_with (refine ⟨trivial,?_⟩;gi_at_call 47;refine hX.mono ?_;rintro e w' ⟨rfl,rfl⟩)
  try rw [hW4]
  have hLn:Ln w m.vars (.slice av m.vars.length cv) (w.heap.size+1) (l,0) W4:=⟨a2,hl,by omega,hw.below hbw,hV⟩
  have hO4:Ofw (fun _=>False) w W4:=Ofw.of_below hbw
  clear hX hW1 hW2 hW3 hW4 hb1 hb2 hb3 hb4 b1 b3 aP hs1 hs2 hs3 hbw a2
  refine y4F rfl (by omega) (gf:=105) (lb:=#[.pointer (some ⟨w.heap.size+3,0,none⟩)]) rfl trivial (enters_of Tryz.func105 (by kernel_rfl) rfl) (va:=.slice av m.vars.length cv) (b:=w.heap.size+1) (l,0) (T:=fun k=>k=w.heap.size+3) (fun k hk=>by omega)
    (fun W hb=>y4G _ (by omega) (w.heap.size+3) W ((hb.block _ (by omega)).trans a4) (by omega)) rfl
    (fun s W=>Lw (.slice av m.vars.length cv) (w.heap.size+1) s W/\((s=(l,0)/\Ofw (fun _=>False) w W/\W.heap[w.heap.size]?=some (.cells #[.pointer (some ⟨P,0,none⟩)] 81)/\W.heap[w.heap.size+2]?=some (.cells #[.pointer (some ⟨w.heap.size+1,0,none⟩)] 113)/\W.heap[w.heap.size+3]?=some (.cells #[.pointer (some ⟨w.heap.size+1,0,none⟩)] 113))∨(yl s=none/\FinAt S B P RR W4.heap.size (w.heap.size+2) w (w.heap.size+1) s W)))
    (fun c W=>c=.exit 0/\∃ (r:List UInt8) (f:Int),Lw (.slice av m.vars.length cv) (w.heap.size+1) (r,f) W/\FinAt S B P RR W4.heap.size (w.heap.size+2) w (w.heap.size+1) (r,f) W)
    (fun s W hI=>hI.1) ?_ ?_ ⟨hLn.lw,.inl ⟨rfl,hO4,a1,a3,a4⟩⟩
    (fun x=>{ tmps:=#[.pointer (some ⟨P,0,none⟩),.string (yc l),.pointer (some ⟨w.heap.size,0,none⟩),undef,.int .i64 0,.pointer (some ⟨w.heap.size+2,0,none⟩),.string (yc x),undef,.pointer (some ⟨P,0,none⟩),.pointer (some ⟨P,0,none⟩),.pointer (some ⟨P,0,none⟩),.slice av m.vars.length cv,.string (yc l),.agg #[.slice av m.vars.length cv,.string (yc l),.int .i64 0],.pointer (some ⟨w.heap.size+1,0,none⟩),.pointer (some ⟨w.heap.size+1,0,none⟩),.func (.func 105) #[] #[.pointer (some ⟨w.heap.size+3,0,none⟩)],.string (yc x),undef,undef,undef,undef,undef,undef,undef,undef,undef,undef,undef,undef,undef,undef,undef,undef,undef,undef,undef,undef],defers:=[] }) ?assign ?body ?done ?stop
  · rintro s W W' ⟨hln,hd⟩ kk
    refine ⟨hln.keep (fun k hk=>by omega) kk,?_⟩
    rcases hd with ⟨rfl,ho,h0,h2,h3⟩ | ⟨hn,hf⟩
    · exact .inl ⟨rfl,ho.new kk (fun i hi=>by omega),(kk.block _ (Array.getElem?_eq_some_iff.1 h0).1 (by omega)).trans h0,(kk.block _ (Array.getElem?_eq_some_iff.1 h2).1 (by omega)).trans h2,(kk.block _ (Array.getElem?_eq_some_iff.1 h3).1 (by omega)).trans h3⟩
    · exact .inr ⟨hn,hf.on kk⟩
  · rintro c W W' ⟨rfl,r,f,hln,hf⟩ kk
    exact ⟨rfl,r,f,hln.keep (fun k hk=>by omega) kk,hf.on kk⟩
  case assign=>
    intro l' x W K hK
    gi_wp2
    exact hK
  case body=>
    rintro l' s' x s1 W Wa ⟨hln,hd⟩ hx hla hoa hsz hnc
    obtain ⟨rfl,ho,h0,h2,h3⟩:s'=(l,0)/\Ofw (fun _=>False) w W/\W.heap[w.heap.size]?=some (.cells #[.pointer (some ⟨P,0,none⟩)] 81)/\W.heap[w.heap.size+2]?=some (.cells #[.pointer (some ⟨w.heap.size+1,0,none⟩)] 113)/\W.heap[w.heap.size+3]?=some (.cells #[.pointer (some ⟨w.heap.size+1,0,none⟩)] 113):=by
      rcases hd with hd | ⟨hn,_⟩
      · exact hd
      · rw [hn] at hx;cases hx
    have h0a:=(hoa.block _ (Array.getElem?_eq_some_iff.1 h0).1 (by omega)).trans h0
    have h2a:=(hoa.block _ (Array.getElem?_eq_some_iff.1 h2).1 (by omega)).trans h2
    have h3a:=(hoa.block _ (Array.getElem?_eq_some_iff.1 h3).1 (by omega)).trans h3
    have hoA:Ofw (fun _=>False) w Wa:=ho.new hoa (fun i hi=>.inl (by omega))
    have hMa:=h.off hoA (fun _ f=>f.elim)
    have hxl:x.length<=70000:=Nat.le_trans (zf hx).2.1 hl
    have hx0:x≠[]:=(zf hx).2.2.2.2
    have hs10:s1.2=0:=(zf hx).2.2.1
    have HP48:Hid (Calls Tryz.prog 48 #[.string (yc x),.string ⟨#[35]⟩] Wa fun e w'=>e=.returned (.bool (decide (x.headD 0=35)))/\Wa=w'):=by
      refine (Tryz.strings_HasPrefix (yc x) ⟨#[35]⟩ Wa).mono ?_
      rintro e w' ⟨rfl,rfl⟩
      refine ⟨?_,rfl⟩
      have h1:Lib.hasPrefix (yc x).data.toList (⟨#[35]⟩:ByteArray).data.toList=decide (x.headD 0=35):=by
        rw [zz]
        exact y4f x
      rw [h1]
    have c0:Wa.cell? ⟨w.heap.size,0,none⟩=some (.pointer (some ⟨P,0,none⟩)):=by rw [yd h0a 0];rfl
    have c2:Wa.cell? ⟨w.heap.size+2,0,none⟩=some (.pointer (some ⟨w.heap.size+1,0,none⟩)):=by rw [yd h2a 0];rfl
    clear hd ho h0 h2 h3 hoa hln
    obtain ⟨hb,hhb⟩:∃ hb,decide (x.headD 0=35)=hb:=⟨_,rfl⟩
    rw [hhb] at HP48
    cases hb with
    | true =>
      have hR:(m,s1.2)=RR:=by
        rw [<-HRR.out,hs10]
        unfold yP
        rw [hx]
        simp only [if_pos (of_decide_eq_true hhb)]
      have HE:Hid (Lw (.slice av m.vars.length cv) (w.heap.size+1) s1 Wa/\FinAt S B P RR W4.heap.size (w.heap.size+2) w (w.heap.size+1) s1 Wa):=by
        refine ⟨hla,by rw [<-hR],Wa,by rw [<-hR];exact ⟨_,_,_,hMa⟩,hoA.less (fun _ f=>f.elim),hsz,hnc,Ofw.refl _ _,h2a⟩
      clear hR hhb hMa hoA h0a h2a h3a hla hs10 hx0 hs4 hnc hsz
      gi_wp2_with (refine ⟨trivial,?_⟩;gi_at_call 48;refine (zr HP48.out).mono ?_;rintro e w' ⟨rfl,rfl⟩)
      exact .inr (.inr ⟨0,rfl,rfl,s1.1,s1.2,HE.out.1,HE.out.2⟩)
    | false =>
      obtain ⟨Q,hQ⟩:∃ Q,sayT m x s1=Q:=⟨_,rfl⟩
      have HR:Hid ((if Q.2.2=0 then (layT m Q.1,0) else (m,Q.2.2))=RR):=by
        show _=_
        rw [<-HRR.out]
        unfold yP
        rw [hx]
        simp only [if_neg (of_decide_eq_false hhb),hQ]
      have HSay:Hid (∀ w',Ln w m.vars (.slice av m.vars.length cv) (w.heap.size+1) s1 w'->Calls Tryz.prog 49 #[.pointer (some ⟨w.heap.size+1,0,none⟩),.string (yc x),.agg #[.slice av m.vars.length cv,.slice ac m.cons.length cc,.bool m.has,vg]] w' (SR w m.vars (.slice av m.vars.length cv) (w.heap.size+1) Q w')):=fun w' h'=>by
        have:=y4H x ac cc vg w' h' hx0
        rw [hQ] at this
        exact this
      have HEnd:Hid (yl Q.2=none/\Q.2.1.length<=s1.1.length):=⟨by rw [<-hQ];exact y3U _ _ _,by rw [<-hQ];exact y47 _ _ _⟩
      have hPb:P≠w.heap.size+1:=by omega
      have HS:Hid (∀ wz,Ofw (fun k=>k=w.heap.size+1) Wa wz->MoIs B P m (.slice av m.vars.length cv) (.slice ac m.cons.length cc) vg wz/\wz.heap[w.heap.size]?=some (.cells #[.pointer (some ⟨P,0,none⟩)] 81)/\wz.heap[w.heap.size+2]?=some (.cells #[.pointer (some ⟨w.heap.size+1,0,none⟩)] 113)):=fun wz oz=>
        ⟨hMa.off oz (fun k hk=>⟨by omega,fun c t e=>by
          have hk':k=w.heap.size+1:=hk
          rw [hk',hla.o] at e
          injection e with e
          injection e with _ e _
          subst e
          decide⟩),(oz.block _ (Array.getElem?_eq_some_iff.1 h0a).1 (by omega)).trans h0a,(oz.block _ (Array.getElem?_eq_some_iff.1 h2a).1 (by omega)).trans h2a⟩
      have HC:Hid (∀ wz,Ofw (fun k=>k=w.heap.size+1) Wa wz->wz.cell? ⟨w.heap.size+2,0,none⟩=some (.pointer (some ⟨w.heap.size+1,0,none⟩))/\wz.cell? ⟨w.heap.size,0,none⟩=some (.pointer (some ⟨P,0,none⟩))/\wz.cell? ⟨P,0,none⟩=some (.slice av m.vars.length cv)/\wz.cell? ⟨P,1,none⟩=some (.slice ac m.cons.length cc)/\wz.cell? ⟨P,2,none⟩=some (.bool m.has)/\wz.cell? ⟨P,3,none⟩=some vg):=fun wz oz=>by
        obtain ⟨g1,g2,g3⟩:=HS.out wz oz
        exact ⟨by rw [yd g3 0];rfl,by rw [yd g2 0];rfl,by rw [yd g1.o 0];rfl,by rw [yd g1.o 1];rfl,by rw [yd g1.o 2];rfl,by rw [yd g1.o 3];rfl⟩
      have HLa:Hid (Ln w m.vars (.slice av m.vars.length cv) (w.heap.size+1) s1 Wa):=⟨hla.o,hla.n,by omega,Zp hw (fun _ f=>f.elim) hoA,hV⟩
      have HOa:Hid (Ofw (fun _=>False) w Wa/\W4.heap.size+2<=Wa.heap.size/\(∀ k,(k=W4.heap.size∨k=W4.heap.size+1)->∀ c t z,Wa.heap[k]?≠some (.cells c t z))/\W4.heap.size=w.heap.size+4/\Wa.heap[w.heap.size+3]?=some (.cells #[.pointer (some ⟨w.heap.size+1,0,none⟩)] 113)/\Wa.heap[w.heap.size+2]?=some (.cells #[.pointer (some ⟨w.heap.size+1,0,none⟩)] 113)):=⟨hoA,hsz,hnc,hs4,h3a,h2a⟩
      clear hQ hhb hMa hoA h0a h2a h3a hla hs10 hx0 hsz hnc c0 c2 hs4
      gi_wp2_with (refine ⟨trivial,?_⟩;gi_at_call 48;refine (zr HP48.out).mono ?_;rintro e w' ⟨rfl,rfl⟩)
      refine zT (fun w'=>w'.cell? ⟨w.heap.size+2,0,none⟩=some (.pointer (some ⟨w.heap.size+1,0,none⟩))/\w'.cell? ⟨w.heap.size,0,none⟩=some (.pointer (some ⟨P,0,none⟩))/\w'.cell? ⟨P,0,none⟩=some (.slice av m.vars.length cv)/\w'.cell? ⟨P,1,none⟩=some (.slice ac m.cons.length cc)/\w'.cell? ⟨P,2,none⟩=some (.bool m.has)/\w'.cell? ⟨P,3,none⟩=some vg) (fun _=>True) [] hm ⟨HC.out Wa.drew (Ofw.of_below (Below.refl _ _).drew),trivial⟩ (fun hHeld=>?_)
      refine yv (i:=0) (oi:=⟨some 20,.load 113 (.tmp 5),_,_,_,none⟩) (v:=?v0) rfl (by kernel_rfl) (by kernel_rfl) (by kernel_rfl) (by kernel_rfl) (by kernel_rfl) yr ⟨Or.inl ⟨by rfl,?h0⟩,fun _=>rfl,fun _ e=>by cases e⟩ (by assumption) ?r0
      case h0=>(intro w hSw;(try dsimp only at hSw);go_simp;try (with_reducible rfl))
      try simp only [Act.put,qa,qb,qc]
      refine yv (i:=1) (oi:=⟨some 21,.move (.tmp 6),_,_,_,none⟩) (v:=?v1) rfl (by kernel_rfl) (by kernel_rfl) (by kernel_rfl) (by kernel_rfl) (by kernel_rfl) yr ⟨Or.inl ⟨by rfl,?h1⟩,fun _=>rfl,fun _ e=>by cases e⟩ (by assumption) ?r1
      case h1=>(intro w hSw;(try dsimp only at hSw);go_simp;try (with_reducible rfl))
      try simp only [Act.put,qa,qb,qc]
      refine yv (i:=2) (oi:=⟨some 22,.load 81 (.tmp 2),_,_,_,none⟩) (v:=?v2) rfl (by kernel_rfl) (by kernel_rfl) (by kernel_rfl) (by kernel_rfl) (by kernel_rfl) yr ⟨Or.inl ⟨by rfl,?h2⟩,fun _=>rfl,fun _ e=>by cases e⟩ (by assumption) ?r2
      case h2=>(intro w hSw;(try dsimp only at hSw);go_simp;try (with_reducible rfl))
      try simp only [Act.put,qa,qb,qc]
      refine yv (i:=3) (oi:=⟨some 23,.nilCheck (.tmp 22),_,_,_,none⟩) (v:=?v3) rfl (by kernel_rfl) (by kernel_rfl) (by kernel_rfl) (by kernel_rfl) (by kernel_rfl) yr ⟨Or.inl ⟨by rfl,?h3⟩,fun _=>rfl,fun _ e=>by cases e⟩ (by assumption) ?r3
      case h3=>(intro w hSw;(try dsimp only at hSw);go_simp;try (with_reducible rfl))
      try simp only [Act.put,qa,qb,qc]
      refine yv (i:=4) (oi:=⟨some 24,.load 26 (.tmp 23),_,_,_,none⟩) (v:=?v4) rfl (by kernel_rfl) (by kernel_rfl) (by kernel_rfl) (by kernel_rfl) (by kernel_rfl) yr ⟨Or.inl ⟨by rfl,?h4⟩,fun _=>rfl,fun _ e=>by cases e⟩ (by assumption) ?r4
      case h4=>(intro w hSw;(try dsimp only at hSw);go_simp;try (with_reducible rfl))
      try simp only [Act.put,qa,qb,qc]
      obtain ⟨q0,hq0⟩:∃ q,Wa.drew=q:=⟨_,rfl⟩
      have Oq0:Hid (Ofw (fun k=>k=w.heap.size+1) Wa q0):=by rw [<-hq0];exact Ofw.of_below (Below.refl _ _).drew
      have Lq0:Hid (Ln w m.vars (.slice av m.vars.length cv) (w.heap.size+1) s1 q0):=by rw [<-hq0];exact HLa.out.below (Below.refl _ _).drew
      rw [hq0]
      clear hHeld hq0
      refine zW (i:=5) (j:=6) (o:=⟨some 25,.call { callee:=.value (.func 49),args:=#[.tmp 20,.tmp 21,.tmp 24],argTypes:=#[113,9,26] },_,_,_,none⟩) (o':=⟨some 7,.alloc 74,_,_,_,none⟩) (by kernel_rfl) rfl rfl (fun K hK=>?_) (fun K hK=>?_)
      · go_simp
        gi_wp2_with (refine ⟨trivial,?_⟩;gi_at_call 49;refine (zr (HSay.out _ Lq0.out)).mono ?_;rintro e q1 ⟨vt,vx,vb,vr,rfl,L1,o1,y1⟩)
        have Oq1:Hid (Ofw (fun k=>k=w.heap.size+1) Wa q1):=Oq0.out.trans o1
        have Lq1:Hid (Ln w m.vars (.slice av m.vars.length cv) (w.heap.size+1) Q.2 q1):=L1
        have Yq1:Hid (SyV B Q.1 vt vx vb vr q1):=y1.base (by have h1:=HOa.out.1.size;have h2:=Oq0.out.size;omega)
        clear L1 o1 y1
        refine hK.out _ _ ⟨HC.out _ Oq1.out,fun _=>trivial⟩ ?_
        clear hK K
        try simp only [Act.put,qa,qb,qc]
        refine yo (i:=6) (o:=⟨some 7,.alloc 74,_,_,_,none⟩) (by kernel_rfl) rfl (fun K hK=>?_)
        go_simp
        obtain ⟨q2,hq2⟩:∃ q,q1.alloc (.cells #[.string ⟨#[]⟩,.int .i64 0,.int .i64 0,.int .i64 0,.int .i64 0,.slice none 0 0,.int .i64 0,.int .i64 0,.int .i64 0,.int .i64 0,.slice none 0 0,.slice none 0 0,.slice none 0 0] 74)=q:=⟨_,rfl⟩
        rw [hq2]
        have bq:Below q1.heap.size q1 q2:=hq2▸(Below.refl _ _).alloc (Nat.le_refl _) _
        obtain ⟨G,hG⟩:∃ G,q1.heap.size=G:=⟨_,rfl⟩
        have Gq:Hid (q2.heap[G]?=some (.cells (sayZ 0) 74 (0,0))/\Wa.heap.size<=G):=⟨by rw [<-hq2,<-hG];exact heap_alloc_new q1 _,by rw [<-hG];exact Oq1.out.size⟩
        have Oq2:Hid (Ofw (fun k=>k=w.heap.size+1) Wa q2):=Oq1.out.trans (Ofw.of_below bq)
        have Lq2:Hid (Ln w m.vars (.slice av m.vars.length cv) (w.heap.size+1) Q.2 q2):=Lq1.out.below bq
        have Yq2:Hid (SyV B Q.1 vt vx vb vr q2):=Yq1.out.off (S:=fun _=>False) (Ofw.of_below bq) (fun _ f=>f.elim)
        rw [hG]
        clear bq hq2 hG
        refine hK.out _ _ ⟨HC.out _ Oq2.out,fun _=>trivial⟩ ?_
        clear hK K
        try simp only [Act.put,qa,qb,qc]
        have hone:=Yq2.out.one
        obtain ⟨w5,hw5⟩:∃ w5,q2.setRow G (sayC Q.1.v.name Q.1.v.lo Q.1.v.hi Q.1.c.kind Q.1.c.op vt Q.1.c.k Q.1.c.v Q.1.c.x Q.1.c.y vx vb vr)=w5:=⟨_,rfl⟩
        refine yo (i:=7) (o:=⟨none,.store 74 (.tmp 7) (.tmp 25),_,_,_,none⟩) (by kernel_rfl) rfl (fun K hK=>?_)
        refine QY q2 74 (.tmp 7) (.tmp 25) rfl G (sayC Q.1.v.name Q.1.v.lo Q.1.v.hi Q.1.c.kind Q.1.c.op vt Q.1.c.k Q.1.c.v Q.1.c.x Q.1.c.y vx vb vr) (by rfl) (by rfl) 74 (sayZ 0) Gq.out.1 (YD _ _ _ _ _ _ _ _ _ _ _ _ _) (by rfl) hone (by rfl) ?_
        rw [hw5]
        have og:Ofw (fun k=>k=G) q2 w5:=hw5▸Y1
        have H5:Hid (ReadAt B P m (.slice av m.vars.length cv) (.slice ac m.cons.length cc) vg w Wa w5 G Q vt vx vb vr):=⟨hw5▸setRow_heap _ _ _ _ _ _ Gq.out.1,Lq2.out.keep (fun k hk=>by have hk':k=G:=hk;have h1:=HOa.out.2.1;have h2:=HOa.out.2.2.2.1;have h3:=Gq.out.2;omega) og,Oq2.out.new og (fun i hi=>by have hi':i=G:=hi;have h3:=Gq.out.2;omega),Yq2.out.off og (fun k hk c t e=>by have hk':k=G:=hk;rw [hk'] at e;rw [yZ Gq.out.1 e];decide)⟩
        clear hw5 og
        refine hK.out _ _ ⟨HC.out _ H5.out.o,fun _=>trivial⟩ ?_
        clear hK K
        try simp only [Act.put]
        refine yY (by kernel_rfl) ⟨rfl,?_⟩ _
        obtain ⟨e1,e2,e3⟩:=HC.out _ H5.out.o
        have eb:w5.cell? ⟨w.heap.size+1,2,none⟩=some (.int .i64 Q.2.2):=by rw [yd H5.out.l.o 2];rfl
        have f0:w5.cell? ⟨G,0,none⟩=some (.string Q.1.v.name):=by rw [yd H5.out.c 0];rfl
        have f1:w5.cell? ⟨G,1,none⟩=some (.int .i64 Q.1.v.lo):=by rw [yd H5.out.c 1];rfl
        have f2:w5.cell? ⟨G,2,none⟩=some (.int .i64 Q.1.v.hi):=by rw [yd H5.out.c 2];rfl
        have f3:w5.cell? ⟨G,3,none⟩=some (.int .i64 Q.1.c.kind):=by rw [yd H5.out.c 3];rfl
        have f4:w5.cell? ⟨G,4,none⟩=some (.int .i64 Q.1.c.op):=by rw [yd H5.out.c 4];rfl
        have f5:w5.cell? ⟨G,5,none⟩=some (vt):=by rw [yd H5.out.c 5];rfl
        have f6:w5.cell? ⟨G,6,none⟩=some (.int .i64 Q.1.c.k):=by rw [yd H5.out.c 6];rfl
        have f7:w5.cell? ⟨G,7,none⟩=some (.int .i64 Q.1.c.v):=by rw [yd H5.out.c 7];rfl
        have f8:w5.cell? ⟨G,8,none⟩=some (.int .i64 Q.1.c.x):=by rw [yd H5.out.c 8];rfl
        have f9:w5.cell? ⟨G,9,none⟩=some (.int .i64 Q.1.c.y):=by rw [yd H5.out.c 9];rfl
        have f10:w5.cell? ⟨G,10,none⟩=some (vx):=by rw [yd H5.out.c 10];rfl
        have f11:w5.cell? ⟨G,11,none⟩=some (vb):=by rw [yd H5.out.c 11];rfl
        have f12:w5.cell? ⟨G,12,none⟩=some (vr):=by rw [yd H5.out.c 12];rfl
        clear e3
        by_cases hq0:Q.2.2=0
        · have hq0':(Q.2.2==0)=true:=by simp [hq0]
          have HR2:Hid ((layT m Q.1,Q.2.2)=RR):=by show _=_;rw [<-HR.out,if_pos hq0,hq0]
          have HLy:Hid (Calls Tryz.prog 50 #[.pointer (some ⟨P,0,none⟩),.agg #[.string Q.1.v.name,.int .i64 Q.1.v.lo,.int .i64 Q.1.v.hi,.int .i64 Q.1.c.kind,.int .i64 Q.1.c.op,vt,.int .i64 Q.1.c.k,.int .i64 Q.1.c.v,.int .i64 Q.1.c.x,.int .i64 Q.1.c.y,vx,vb,vr]] w5 fun e w'=>e=.returned (.tuple #[])/\MoI B P (layT m Q.1) w'/\Ofw (fun k=>k=P∨(Value.slice av m.vars.length cv).ownBlock=some k∨(Value.slice ac m.cons.length cc).ownBlock=some k) w5 w'):=QE w5 (HS.out _ H5.out.o).1 H5.out.y (by have:=hg.v;omega) (by have:=hg.c;omega)
          have hin:Q.2.1.length<=s1.1.length:=HEnd.out.2
          clear hq0 HR
          gi_wp2_with (refine ⟨trivial,?_⟩;gi_at_call 50;refine (zr HLy.out).mono ?_;rintro e w6 ⟨rfl,h6,o6⟩;have H6:Hid (MoI B P (layT m Q.1) w6/\Ofw (fun k=>k=P∨(Value.slice av m.vars.length cv).ownBlock=some k∨(Value.slice ac m.cons.length cc).ownBlock=some k) w5 w6):=⟨h6,o6⟩;clear h6 o6)
          obtain ⟨z1,z2,z3,z4,z5,z6,z7⟩:=Zo (HS.out _ H5.out.o).1 H5.out H6.out.2 HOa.out.1 HOa.out.2.1 HOa.out.2.2.1 HOa.out.2.2.2.1 HOa.out.2.2.2.2.1 HOa.out.2.2.2.2.2 (by omega)
          exact ⟨.inl ⟨rfl,Q.2,⟨z1,.inr ⟨HEnd.out.1,by rw [<-HR2.out],w6,by rw [<-HR2.out];exact H6.out.1,by rw [HSet.out];exact z2,z4,z3,Ofw.refl _ _,z5⟩⟩,hin⟩,z6,z7⟩
        · have hq0':(Q.2.2==0)=false:=by simp [hq0]
          have HR2:Hid ((m,Q.2.2)=RR):=by show _=_;rw [<-HR.out,if_neg hq0]
          clear hq0 HR
          gi_wp2
          obtain ⟨z1,z2,z3,z4,z5,z6,z7⟩:=Zo (HS.out _ H5.out.o).1 H5.out (Ofw.refl _ _) HOa.out.1 HOa.out.2.1 HOa.out.2.2.1 HOa.out.2.2.2.1 HOa.out.2.2.2.2.1 HOa.out.2.2.2.2.2 (by omega)
          exact ⟨.inl ⟨rfl,Q.2,⟨z1,.inr ⟨HEnd.out.1,by rw [<-HR2.out],w5,by rw [<-HR2.out];exact ⟨_,_,_,(HS.out _ H5.out.o).1⟩,by rw [HSet.out];exact z2,z4,z3,Ofw.refl _ _,z5⟩⟩,HEnd.out.2⟩,z6,z7⟩
      · go_simp
        obtain ⟨q1,hq1⟩:∃ q,q0.alloc (.cells #[.string ⟨#[]⟩,.int .i64 0,.int .i64 0,.int .i64 0,.int .i64 0,.slice none 0 0,.int .i64 0,.int .i64 0,.int .i64 0,.int .i64 0,.slice none 0 0,.slice none 0 0,.slice none 0 0] 74)=q:=⟨_,rfl⟩
        rw [hq1]
        have bq:Below q0.heap.size q0 q1:=hq1▸(Below.refl _ _).alloc (Nat.le_refl _) _
        obtain ⟨G,hG⟩:∃ G,q0.heap.size=G:=⟨_,rfl⟩
        have Gq1:Hid (q1.heap[G]?=some (.cells (sayZ 0) 74 (0,0))/\Wa.heap.size<=G):=⟨by rw [<-hq1,<-hG];exact heap_alloc_new q0 _,by rw [<-hG];exact Oq0.out.size⟩
        have Oq1:Hid (Ofw (fun k=>k=w.heap.size+1) Wa q1):=Oq0.out.trans (Ofw.of_below bq)
        have Lq1:Hid (Ln w m.vars (.slice av m.vars.length cv) (w.heap.size+1) s1 q1):=Lq0.out.below bq
        rw [hG]
        clear bq hq1 hG
        refine hK.out _ _ ⟨HC.out _ Oq1.out,fun _=>trivial⟩ ?_
        clear hK K
        try simp only [Act.put,qa,qb,qc]
        refine yo (i:=5) (o:=⟨some 25,.call { callee:=.value (.func 49),args:=#[.tmp 20,.tmp 21,.tmp 24],argTypes:=#[113,9,26] },_,_,_,none⟩) (by kernel_rfl) rfl (fun K hK=>?_)
        go_simp
        gi_wp2_with (refine ⟨trivial,?_⟩;gi_at_call 49;refine (zr (HSay.out _ Lq1.out)).mono ?_;rintro e q2 ⟨vt,vx,vb,vr,rfl,L2,o2,y2⟩)
        have Oq2:Hid (Ofw (fun k=>k=w.heap.size+1) Wa q2):=Oq1.out.trans o2
        have Lq2:Hid (Ln w m.vars (.slice av m.vars.length cv) (w.heap.size+1) Q.2 q2):=L2
        have Yq2:Hid (SyV B Q.1 vt vx vb vr q2):=y2.base (by have h1:=HOa.out.1.size;have h2:=Oq1.out.size;omega)
        have Gq:Hid (q2.heap[G]?=some (.cells (sayZ 0) 74 (0,0))/\Wa.heap.size<=G):=⟨(o2.block _ (Array.getElem?_eq_some_iff.1 Gq1.out.1).1 (by have h1:=HOa.out.2.1;have h2:=HOa.out.2.2.2.1;have h3:=Gq1.out.2;omega)).trans Gq1.out.1,Gq1.out.2⟩
        clear L2 o2 y2 Gq1
        refine hK.out _ _ ⟨HC.out _ Oq2.out,fun _=>trivial⟩ ?_
        clear hK K
        try simp only [Act.put,qa,qb,qc]
        have hone:=Yq2.out.one
        obtain ⟨w5,hw5⟩:∃ w5,q2.setRow G (sayC Q.1.v.name Q.1.v.lo Q.1.v.hi Q.1.c.kind Q.1.c.op vt Q.1.c.k Q.1.c.v Q.1.c.x Q.1.c.y vx vb vr)=w5:=⟨_,rfl⟩
        refine yo (i:=7) (o:=⟨none,.store 74 (.tmp 7) (.tmp 25),_,_,_,none⟩) (by kernel_rfl) rfl (fun K hK=>?_)
        refine QY q2 74 (.tmp 7) (.tmp 25) rfl G (sayC Q.1.v.name Q.1.v.lo Q.1.v.hi Q.1.c.kind Q.1.c.op vt Q.1.c.k Q.1.c.v Q.1.c.x Q.1.c.y vx vb vr) (by rfl) (by rfl) 74 (sayZ 0) Gq.out.1 (YD _ _ _ _ _ _ _ _ _ _ _ _ _) (by rfl) hone (by rfl) ?_
        rw [hw5]
        have og:Ofw (fun k=>k=G) q2 w5:=hw5▸Y1
        have H5:Hid (ReadAt B P m (.slice av m.vars.length cv) (.slice ac m.cons.length cc) vg w Wa w5 G Q vt vx vb vr):=⟨hw5▸setRow_heap _ _ _ _ _ _ Gq.out.1,Lq2.out.keep (fun k hk=>by have hk':k=G:=hk;have h1:=HOa.out.2.1;have h2:=HOa.out.2.2.2.1;have h3:=Gq.out.2;omega) og,Oq2.out.new og (fun i hi=>by have hi':i=G:=hi;have h3:=Gq.out.2;omega),Yq2.out.off og (fun k hk c t e=>by have hk':k=G:=hk;rw [hk'] at e;rw [yZ Gq.out.1 e];decide)⟩
        clear hw5 og
        refine hK.out _ _ ⟨HC.out _ H5.out.o,fun _=>trivial⟩ ?_
        clear hK K
        try simp only [Act.put]
        refine yY (by kernel_rfl) ⟨rfl,?_⟩ _
        obtain ⟨e1,e2,e3⟩:=HC.out _ H5.out.o
        have eb:w5.cell? ⟨w.heap.size+1,2,none⟩=some (.int .i64 Q.2.2):=by rw [yd H5.out.l.o 2];rfl
        have f0:w5.cell? ⟨G,0,none⟩=some (.string Q.1.v.name):=by rw [yd H5.out.c 0];rfl
        have f1:w5.cell? ⟨G,1,none⟩=some (.int .i64 Q.1.v.lo):=by rw [yd H5.out.c 1];rfl
        have f2:w5.cell? ⟨G,2,none⟩=some (.int .i64 Q.1.v.hi):=by rw [yd H5.out.c 2];rfl
        have f3:w5.cell? ⟨G,3,none⟩=some (.int .i64 Q.1.c.kind):=by rw [yd H5.out.c 3];rfl
        have f4:w5.cell? ⟨G,4,none⟩=some (.int .i64 Q.1.c.op):=by rw [yd H5.out.c 4];rfl
        have f5:w5.cell? ⟨G,5,none⟩=some (vt):=by rw [yd H5.out.c 5];rfl
        have f6:w5.cell? ⟨G,6,none⟩=some (.int .i64 Q.1.c.k):=by rw [yd H5.out.c 6];rfl
        have f7:w5.cell? ⟨G,7,none⟩=some (.int .i64 Q.1.c.v):=by rw [yd H5.out.c 7];rfl
        have f8:w5.cell? ⟨G,8,none⟩=some (.int .i64 Q.1.c.x):=by rw [yd H5.out.c 8];rfl
        have f9:w5.cell? ⟨G,9,none⟩=some (.int .i64 Q.1.c.y):=by rw [yd H5.out.c 9];rfl
        have f10:w5.cell? ⟨G,10,none⟩=some (vx):=by rw [yd H5.out.c 10];rfl
        have f11:w5.cell? ⟨G,11,none⟩=some (vb):=by rw [yd H5.out.c 11];rfl
        have f12:w5.cell? ⟨G,12,none⟩=some (vr):=by rw [yd H5.out.c 12];rfl
        clear e3
        by_cases hq0:Q.2.2=0
        · have hq0':(Q.2.2==0)=true:=by simp [hq0]
          have HR2:Hid ((layT m Q.1,Q.2.2)=RR):=by show _=_;rw [<-HR.out,if_pos hq0,hq0]
          have HLy:Hid (Calls Tryz.prog 50 #[.pointer (some ⟨P,0,none⟩),.agg #[.string Q.1.v.name,.int .i64 Q.1.v.lo,.int .i64 Q.1.v.hi,.int .i64 Q.1.c.kind,.int .i64 Q.1.c.op,vt,.int .i64 Q.1.c.k,.int .i64 Q.1.c.v,.int .i64 Q.1.c.x,.int .i64 Q.1.c.y,vx,vb,vr]] w5 fun e w'=>e=.returned (.tuple #[])/\MoI B P (layT m Q.1) w'/\Ofw (fun k=>k=P∨(Value.slice av m.vars.length cv).ownBlock=some k∨(Value.slice ac m.cons.length cc).ownBlock=some k) w5 w'):=QE w5 (HS.out _ H5.out.o).1 H5.out.y (by have:=hg.v;omega) (by have:=hg.c;omega)
          have hin:Q.2.1.length<=s1.1.length:=HEnd.out.2
          clear hq0 HR
          gi_wp2_with (refine ⟨trivial,?_⟩;gi_at_call 50;refine (zr HLy.out).mono ?_;rintro e w6 ⟨rfl,h6,o6⟩;have H6:Hid (MoI B P (layT m Q.1) w6/\Ofw (fun k=>k=P∨(Value.slice av m.vars.length cv).ownBlock=some k∨(Value.slice ac m.cons.length cc).ownBlock=some k) w5 w6):=⟨h6,o6⟩;clear h6 o6)
          obtain ⟨z1,z2,z3,z4,z5,z6,z7⟩:=Zo (HS.out _ H5.out.o).1 H5.out H6.out.2 HOa.out.1 HOa.out.2.1 HOa.out.2.2.1 HOa.out.2.2.2.1 HOa.out.2.2.2.2.1 HOa.out.2.2.2.2.2 (by omega)
          exact ⟨.inl ⟨rfl,Q.2,⟨z1,.inr ⟨HEnd.out.1,by rw [<-HR2.out],w6,by rw [<-HR2.out];exact H6.out.1,by rw [HSet.out];exact z2,z4,z3,Ofw.refl _ _,z5⟩⟩,hin⟩,z6,z7⟩
        · have hq0':(Q.2.2==0)=false:=by simp [hq0]
          have HR2:Hid ((m,Q.2.2)=RR):=by show _=_;rw [<-HR.out,if_neg hq0]
          clear hq0 HR
          gi_wp2
          obtain ⟨z1,z2,z3,z4,z5,z6,z7⟩:=Zo (HS.out _ H5.out.o).1 H5.out (Ofw.refl _ _) HOa.out.1 HOa.out.2.1 HOa.out.2.2.1 HOa.out.2.2.2.1 HOa.out.2.2.2.2.1 HOa.out.2.2.2.2.2 (by omega)
          exact ⟨.inl ⟨rfl,Q.2,⟨z1,.inr ⟨HEnd.out.1,by rw [<-HR2.out],w5,by rw [<-HR2.out];exact ⟨_,_,_,(HS.out _ H5.out.o).1⟩,by rw [HSet.out];exact z2,z4,z3,Ofw.refl _ _,z5⟩⟩,HEnd.out.2⟩,z6,z7⟩
  case done=>
    rintro s' W ⟨hln,hd⟩ ht hK
    have HD:Hid (RR.2=s'.2/\MoI B P RR.1 W/\Ofw S w W/\W.heap[w.heap.size+2]?=some (.cells #[.pointer (some ⟨w.heap.size+1,0,none⟩)] 113)):=by
      rcases hd with ⟨rfl,ho,h0,h2,_⟩ | ⟨_,hf⟩
      · have hR:RR=(m,0):=by
          rw [<-HRR.out]
          unfold yP
          rw [ht]
        rw [hR]
        exact ⟨rfl,⟨_,_,_,h.off ho (fun _ f=>f.elim)⟩,ho.less (fun _ f=>f.elim),h2⟩
      · exact hf.fin (by omega) (by omega) (by omega)
    have e1:W.cell? ⟨w.heap.size+2,0,none⟩=some (.pointer (some ⟨w.heap.size+1,0,none⟩)):=by rw [yd HD.out.2.2.2 0];rfl
    have e2:W.cell? ⟨w.heap.size+1,2,none⟩=some (.int .i64 s'.2):=by rw [yd hln.o 2];rfl
    gi_wp2
    refine ⟨by simp,.inl ⟨_,_,rfl,run_takeDeferred hK,?_⟩⟩
    have hp:=zd (S:=fun k=>k=W4.heap.size) W W4.heap.size (.deferred none) rfl
    refine ⟨_,results_tmp rfl _ _ _,by rw [HD.out.1];rfl,?_,HD.out.2.2.1.new hp (fun k hk=>by have hk':k=W4.heap.size:=hk;omega)⟩
    obtain ⟨vv,vc,vg',hm'⟩:=HD.out.2.1
    exact ⟨vv,vc,vg',hm'.off hp (fun k hk=>by
      have hk':k=W4.heap.size:=hk
      refine ⟨by omega,fun c t e=>?_⟩
      rw [hk',hK] at e
      cases e)⟩
  case stop=>
    rintro c W ⟨rfl,r,f,hln,hf⟩ hK
    obtain ⟨s',hs'⟩:∃ s':St,(r,f)=s':=⟨_,rfl⟩
    rw [hs'] at hln hf
    clear hs'
    have HD:Hid (RR.2=s'.2/\MoI B P RR.1 W/\Ofw S w W/\W.heap[w.heap.size+2]?=some (.cells #[.pointer (some ⟨w.heap.size+1,0,none⟩)] 113)):=hf.fin (by omega) (by omega) (by omega)
    refine wpIn_exit ?_
    have e1:W.cell? ⟨w.heap.size+2,0,none⟩=some (.pointer (some ⟨w.heap.size+1,0,none⟩)):=by rw [yd HD.out.2.2.2 0];rfl
    have e2:W.cell? ⟨w.heap.size+1,2,none⟩=some (.int .i64 s'.2):=by rw [yd hln.o 2];rfl
    gi_wp2
    refine ⟨by simp,.inl ⟨_,_,rfl,run_takeDeferred hK,?_⟩⟩
    have hp:=zd (S:=fun k=>k=W4.heap.size) W W4.heap.size (.deferred none) rfl
    refine ⟨_,results_tmp rfl _ _ _,by rw [HD.out.1];rfl,?_,HD.out.2.2.1.new hp (fun k hk=>by have hk':k=W4.heap.size:=hk;omega)⟩
    obtain ⟨vv,vc,vg',hm'⟩:=HD.out.2.1
    exact ⟨vv,vc,vg',hm'.off hp (fun k hk=>by
      have hk':k=W4.heap.size:=hk
      refine ⟨by omega,fun c t e=>?_⟩
      rw [hk',hK] at e
      cases e)⟩
end Go.Proofs.YthohnmplbjhjaaaGreatDoor

namespace Go.Proofs.YthohnmplbjhjaaaGreatDoor
open Go Go.RowKit Go.Shelf Go.Lib
set_option maxRecDepth 10000
set_option maxHeartbeats 1000000
theorem Yg {P:Program} {fn:Func} {p u:Tmp} {ty:TypeId} (h:fn.results=#[.cell p ty,.tmp u]) (tmps:Array Value) (w:World) (g:Nat) (t:TypeId) (cs:Array Value) (fr:Nat × Nat) (d:TypeDesc)
  (hp:tmps.getD p undef=.pointer (some ⟨g,0,none⟩)) (hg:w.heap[g]?=some (.cells cs t fr))
  (hu:P.underlying ty=some d) (hd:(match d with | .struct _ | .array _ _=>true | _=>false)=true) (hi:(P.info? ty).map (·.size)=some cs.size) :
  (results fn tmps).run P w=.ok (.tuple #[.agg cs,tmps.getD u undef]) w:=by
 rw [results_cell_tmp h,hp]
 simp [asAddr,run_loadVar_row w g t ty cs fr d hg hu hd hi,Result.andThen]
def moZ:Array Value:=#[.slice none 0 0,.slice none 0 0,.bool false,.slice none 0 0]
theorem zP (a b c d:Value):(Tryz.prog.info? 26).map (·.size)=some (#[a,b,c,d]:Array Value).size:=by
 show _=some 4
 kernel_rfl
theorem Zh (a b c:Value):(Tryz.prog.info? 44).map (·.size)=some (#[a,b,c]:Array Value).size:=by
 show _=some 3
 kernel_rfl
theorem X7 (n e:Int) (w:World):Calls Tryz.prog 26 #[.int .i64 n,.int .i64 e] w fun en w'=>∃ F,en=.returned (.tuple #[.agg #[.slice none 0 0,.slice none 0 0,.bool false,.slice none 0 0],.iface 91 (.pointer (some ⟨F,0,none⟩))])/\w'.heap[F]?=some (.cells #[.int .i64 1,.int .i64 n,.int .i64 e] 44 (0,0))/\w.heap.size<=F/\Below w.heap.size w w':=by
 go_enter Tryz.func26,Tryz.ntmps26
 go_wp2_with fail
 refine bodyPost_ret (Yg (p:=4) (u:=5) (ty:=26) rfl _ _ w.heap.size 26 _ (0,0) _ rfl (heap_alloc2_old w _ _) Tryz.underlying26 rfl (zP _ _ _ _)) rfl ?_
 exact ⟨w.heap.size+1,rfl,heap_alloc2_new w _ _,by omega,((Below.refl _ _).alloc (Nat.le_refl _) _).alloc (by simp) _⟩
theorem y3V (p:Value) (w:World):(Instr.typeAssert (.iface 91 p) 35 91 true).run Tryz.prog w=.ok (.tuple #[p,.bool true]) w:=by kernel_rfl
attribute [local go_sem] y3V
theorem Qh (F:Nat) (n e:Int) (w:World) (h:w.heap[F]?=some (.cells #[.int .i64 1,.int .i64 n,.int .i64 e] 44 (0,0))) (he:e≠0):Calls Tryz.prog 17 #[.iface 91 (.pointer (some ⟨F,0,none⟩))] w fun en w'=>en=.returned (.tuple #[.agg #[.int .i64 1,.int .i64 n,.int .i64 e],.bool true])/\Below w.heap.size w w':=by
 obtain ⟨W,hW⟩:∃ W,w.alloc (.cells #[.int .i64 0,.int .i64 0,.int .i64 0] 44)=W:=⟨_,rfl⟩
 have hb:Below w.heap.size w W:=hW▸(Below.refl _ _).alloc (Nat.le_refl _) _
 have hF:W.heap[F]?=some (.cells #[.int .i64 1,.int .i64 n,.int .i64 e] 44 (0,0)):=(hb.block F (Array.getElem?_eq_some_iff.1 h).1).trans h
 have hR:W.heap[w.heap.size]?=some (.cells #[.int .i64 0,.int .i64 0,.int .i64 0] 44 (0,0)):=hW▸heap_alloc_new w _
 have c0:W.cell? ⟨F,0,none⟩=some (.int .i64 1):=by rw [yd hF 0];rfl
 have c1:W.cell? ⟨F,1,none⟩=some (.int .i64 n):=by rw [yd hF 1];rfl
 have c2:W.cell? ⟨F,2,none⟩=some (.int .i64 e):=by rw [yd hF 2];rfl
 have he':(e==0)=false:=by simp [he]
 have HB:Hid (Below w.heap.size w W):=hb
 clear hb hF h he
 go_enter Tryz.func17,Tryz.ntmps17
 go_wp2_with (refine wpList_store_row rfl 44 _ _ rfl w.heap.size #[.int .i64 1,.int .i64 n,.int .i64 e] rfl rfl 44 _ hR (Zh _ _ _) (by rfl) (by kernel_rfl) ?_)
 refine bodyPost_ret (Yg (p:=2) (u:=3) (ty:=44) rfl _ _ w.heap.size 44 _ (0,0) _ rfl (setRow_heap _ _ _ _ _ _ hR) Tryz.underlying44 rfl (Zh _ _ _)) rfl ?_
 exact ⟨rfl,below_setRow HB.out (Nat.le_refl _) _⟩
theorem y3W (w:World):Calls Tryz.prog 17 #[.nilIface] w fun en w'=>en=.returned (.tuple #[.agg #[.int .i64 0,.int .i64 0,.int .i64 0],.bool true])/\Below w.heap.size w w':=by
 obtain ⟨W,hW⟩:∃ W,w.alloc (.cells #[.int .i64 0,.int .i64 0,.int .i64 0] 44)=W:=⟨_,rfl⟩
 have hb:Below w.heap.size w W:=hW▸(Below.refl _ _).alloc (Nat.le_refl _) _
 have hR:W.heap[w.heap.size]?=some (.cells #[.int .i64 0,.int .i64 0,.int .i64 0] 44 (0,0)):=hW▸heap_alloc_new w _
 have HB:Hid (Below w.heap.size w W):=hb
 clear hb
 go_enter Tryz.func17,Tryz.ntmps17
 go_wp2_with (first
  | (refine Yp rfl 44 _ rfl #[.int .i64 0,.int .i64 0,.int .i64 0] (by kernel_rfl) ?_)
  | (refine wpList_store_row rfl 44 _ _ rfl w.heap.size #[.int .i64 0,.int .i64 0,.int .i64 0] rfl rfl 44 _ hR (Zh _ _ _) (by rfl) (by kernel_rfl) ?_))
 refine bodyPost_ret (Yg (p:=2) (u:=3) (ty:=44) rfl _ _ w.heap.size 44 _ (0,0) _ rfl (setRow_heap _ _ _ _ _ _ hR) Tryz.underlying44 rfl (Zh _ _ _)) rfl ?_
 exact ⟨rfl,below_setRow HB.out (Nat.le_refl _) _⟩
end Go.Proofs.YthohnmplbjhjaaaGreatDoor
