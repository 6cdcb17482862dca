/-
  Put together: TrRead, TrRead2, TrReif, TrMore.
-/
import Derived.Test.YthohnmplbjhjaaaGreatDoorTrRows
import Derived.Test.YthohnmplbjhjaaaGreatDoorTpForms
import Derived.Test.YthohnmplbjhjaaaGreatDoorQs
namespace Go.Proofs.YthohnmplbjhjaaaGreatDoor
open Go Go.RowKit Go.Shelf Go.Lib
set_option maxRecDepth 10000
set_option maxHeartbeats 2000000
structure SyIs (B S:Nat) (y:Sy) (vt vx vb vr:Value) (W:World):Prop where
 c:W.heap[S]?=some (.cells (sayC y.v.name y.v.lo y.v.hi y.c.kind y.c.op vt y.c.k y.c.v y.c.x y.c.y vx vb vr) 74 (0,0))
 t:W.ownsRow B 87 2 vt y.c.terms.length (encL encT y.c.terms)
 x:W.ownsRow B 3 1 vx y.c.xs.length (encL encI y.c.xs)
 b:W.ownsRow B 3 1 vb y.c.table.length (encL encI y.c.table)
 r:∃ vs D,W.ownsRow B 58 1 vr y.c.rows.length vs/\RowsW W B D vs y.c.rows
def SyAt (B S:Nat) (y:Sy) (W:World):Prop:=∃ vt vx vb vr,SyIs B S y vt vx vb vr W
def SO (w0:World) (V:List Md.Vr) (va:Value) (b S B:Nat) (r:Sy × St) (w:World) (e:Ending) (w':World):Prop:=e=.returned (.tuple #[])/\Ln w0 V va b r.2 w'/\Ofw (fun k=>k=b∨k=S) w w'/\SyAt B S r.1 w'
theorem xA {w w':World} {B:Nat} {e:TypeId} {size:Nat} {v:Value} {n:Nat} {xs:List Value} {S:Nat} {cs:Array Value} (h:w.ownsRow B e size v n xs) (he:e≠74) (hS:w.heap[S]?=some (.cells cs 74 (0,0))) (o:Ofw (fun k=>k=S) w w'):w'.ownsRow B e size v n xs:=
 yC h (fun g hg eg=>by
  obtain ⟨_,cur,hc⟩:=yn h hg
  have e':g=S:=eg
  rw [e',hS] at hc
  injection hc with hc
  injection hc with _ hc _
  exact he hc.symm) o
theorem Z0 {w w':World} {B:Nat} {e:TypeId} {size:Nat} {v:Value} {n:Nat} {xs:List Value} {w0:World} {V:List Md.Vr} {va:Value} {b:Nat} {s:St} (h:w.ownsRow B e size v n xs) (he:e≠115) (hl:Ln w0 V va b s w) (o:Ofw (fun k=>k=b) w w'):w'.ownsRow B e size v n xs:=
 yC h (fun g hg eg=>by
  obtain ⟨_,cur,hc⟩:=yn h hg
  have e':g=b:=eg
  rw [e',hl.o] at hc
  injection hc with hc
  injection hc with _ hc _
  exact he hc.symm) o
theorem y4w {w w':World} {B D:Nat} {vs:List Value} {rs:List (List Int)} {S:Nat} {cs:Array Value} (h:RowsW w B D vs rs) (hS:w.heap[S]?=some (.cells cs 74 (0,0))) (o:Ofw (fun k=>k=S) w w'):RowsW w' B D vs rs:=
 h.keep o (fun k hk=>.inr (fun c e=>by
  have hk':k=S:=hk
  rw [hk',hS] at e
  injection e with e
  injection e with _ e _
  cases e))
theorem zi (w:World) (S i:Nat) (v:Value):Ofw (fun k=>k=S) w (w.setCell ⟨S,i,none⟩ v):=Ofw.set _ rfl
theorem xB (w:World) (B D:Nat):RowsW w B D [] []:=⟨rfl,fun j u r hu _=>by simp at hu⟩
theorem yG (w:World) (B:Nat) (e:TypeId) (size:Nat):w.ownsRow B e size (.slice none 0 0) 0 []:=World.ownsRow_nil w B e size
theorem K5 {w w':World} {B S:Nat} {y:Sy} {w0:World} {V:List Md.Vr} {va:Value} {b:Nat} {s:St} (h:SyAt B S y w) (hl:Ln w0 V va b s w) (o:Ofw (fun k=>k=b) w w'):SyAt B S y w':=by
 obtain ⟨vt,vx,vb,vr,h⟩:=h
 have hne:S≠b:=fun e=>by
  have h1:=h.c
  rw [e,hl.o] at h1
  injection h1 with h1
  injection h1 with _ h1 _
  cases h1
 obtain ⟨vs,D,hr,hrs⟩:=h.r
 exact ⟨vt,vx,vb,vr,(o.block S (Array.getElem?_eq_some_iff.1 h.c).1 hne).trans h.c,Z0 h.t (by decide) hl o,Z0 h.x (by decide) hl o,Z0 h.b (by decide) hl o,vs,D,Z0 hr (by decide) hl o,hrs.keep o (fun k hk=>.inr (fun c e=>by
  have hk':k=b:=hk
  rw [hk',hl.o] at e
  injection e with e
  injection e with _ e _
  cases e))⟩
theorem K6 {w0:World} {V:List Md.Vr} {va:Value} {b:Nat} {s:St} (S B:Nat) (K:Int) (w:World) (h:Ln w0 V va b s w) (hS:w.heap[S]?=some (.cells (sayC ⟨#[]⟩ 0 0 K 0 (.slice none 0 0) 0 0 0 0 (.slice none 0 0) (.slice none 0 0) (.slice none 0 0)) 74 (0,0))) (hSw:w0.heap.size<=S) (hB:B<=w.heap.size):Calls Tryz.prog 70 #[.pointer (some ⟨b,0,none⟩),.pointer (some ⟨S,0,none⟩)] w (SO w0 V va b S B (fMax V K s) w):=by
 have hne:S≠b:=fun e=>by rw [e,h.o] at hS;injection hS with hS;injection hS with _ hS _;cases hS
 obtain ⟨a0,ha0⟩:∃ a,(yA V s).1=a:=⟨_,rfl⟩
 obtain ⟨s1,hs1⟩:∃ t,(yA V s).2=t:=⟨_,rfl⟩
 have H0:Hid (∀ w',Ln w0 V va b s w'->Calls Tryz.prog 71 #[.pointer (some ⟨b,0,none⟩)] w' (RO w0 V va b (.int .i64 a0) s1 w')):=fun w' h'=>by
  have:=xW w' h'
  rw [ha0,hs1] at this
  exact this
 obtain ⟨a1,ha1⟩:∃ a,(yq (yF V) s1).1=a:=⟨_,rfl⟩
 obtain ⟨s2,hs2⟩:∃ t,(yq (yF V) s1).2=t:=⟨_,rfl⟩
 have H1:Hid (∀ w',Ln w0 V va b s1 w'->Calls Tryz.prog 72 #[.pointer (some ⟨b,0,none⟩)] w' (RL w0 V va b 3 1 a1.length (encL encI a1) s2 w')):=fun w' h'=>by
  have:=Xb w' h'
  rw [ha1,hs2] at this
  exact this
 have he:fMax V K s=((⟨zv,⟨K,0,[],0,0,0,a0,a1,[],[]⟩⟩:Sy),s2):=by
  unfold fMax
  simp only [ha0,hs1,ha1,hs2]
 rw [he]
 have HL0:Hid (Ln w0 V va b s w):=h
 have HS0:Hid (w.heap[S]?=some (.cells (sayC ⟨#[]⟩ 0 0 K 0 (.slice none 0 0) 0 0 0 0 (.slice none 0 0) (.slice none 0 0) (.slice none 0 0)) 74 (0,0))):=hS
 have HSz:Hid (S<w.heap.size/\B<=w.heap.size/\w0.heap.size<=S/\S≠b):=⟨(Array.getElem?_eq_some_iff.1 hS).1,hB,hSw,hne⟩
 clear h hS hSw hB hne he ha0 hs1 ha1 hs2
 go_enter Tryz.func70,Tryz.ntmps70
 go_wp2_with (first
  | (go_at_call 71;refine cZ (H0.out _ HL0.out) ?_;rintro e w1 ⟨rfl,h1,o1⟩;(have O1:Hid (Ofw (fun k=>k=b) w w1):=o1);(have L1:Hid (Ln w0 V va b s1 w1):=h1);clear h1 o1)
  | (go_at_call 72;refine cZ (H1.out _ L1.out) ?_;rintro e w2 ⟨v1,rfl,h1,o1,r1⟩;obtain ⟨ad1,cp1,hv⟩:=yr r1;subst hv;(have O2:Hid (Ofw (fun k=>k=b) w w2):=O1.out.trans o1);(have L2:Hid (Ln w0 V va b s2 w2):=h1);(have R1:Hid (w2.ownsRow B 3 1 (.slice ad1 a1.length cp1) a1.length (encL encI a1)):=zz r1 (Nat.le_trans HSz.out.2.1 O1.out.size));clear r1;clear h1 o1;(have HSn:Hid (w2.heap[S]?=some (.cells (sayC ⟨#[]⟩ 0 0 K 0 (.slice none 0 0) 0 0 0 0 (.slice none 0 0) (.slice none 0 0) (.slice none 0 0)) 74 (0,0))):=(O2.out.block S HSz.out.1 HSz.out.2.2.2).trans HS0.out);(have c9:=yd HSn.out 9);(have z9:=yu HSn.out 9);(have c10:=yd HSn.out 10);(have z10:=yu HSn.out 10)))
 go_end0
 have OF:Hid (Ofw (fun k=>k=S) w2 ((w2.setCell ⟨S,9,none⟩ (.int .i64 a0)).setCell ⟨S,10,none⟩ (.slice ad1 a1.length cp1))):=(zi _ _ _ _).trans (zi _ _ _ _)
 exact ⟨rfl,L2.out.keep (fun k hk=>by have hk':k=S:=hk;subst hk';exact ⟨HSz.out.2.2.1,HSz.out.2.2.2⟩) OF.out,(O2.out.less fun k hk=>.inl hk).trans (OF.out.less fun k hk=>.inr hk),_,_,_,_,⟨(yD (yD HSn.out 9 _) 10 _),(yG _ B 87 2),(xA R1.out (by decide) HSn.out OF.out),(yG _ B 3 1),_,0,yG _ B 58 1,xB _ B 0⟩⟩
theorem y4x {w0:World} {V:List Md.Vr} {va:Value} {b:Nat} {s:St} (S B:Nat) (w:World) (h:Ln w0 V va b s w) (hS:w.heap[S]?=some (.cells (sayC ⟨#[]⟩ 0 0 1 0 (.slice none 0 0) 0 0 0 0 (.slice none 0 0) (.slice none 0 0) (.slice none 0 0)) 74 (0,0))) (hSw:w0.heap.size<=S) (hB:B<=w.heap.size):Calls Tryz.prog 79 #[.pointer (some ⟨b,0,none⟩),.pointer (some ⟨S,0,none⟩)] w (SO w0 V va b S B (fLin V s) w):=by
 have hne:S≠b:=fun e=>by rw [e,h.o] at hS;injection hS with hS;injection hS with _ hS _;cases hS
 obtain ⟨a0,ha0⟩:∃ a,(rdOp s).1=a:=⟨_,rfl⟩
 obtain ⟨s1,hs1⟩:∃ t,(rdOp s).2=t:=⟨_,rfl⟩
 have H0:Hid (∀ w',Ln w0 V va b s w'->Calls Tryz.prog 80 #[.pointer (some ⟨b,0,none⟩)] w' (RO w0 V va b (.int .i64 a0) s1 w')):=fun w' h'=>by
  have:=QZ w' h'
  rw [ha0,hs1] at this
  exact this
 obtain ⟨a1,ha1⟩:∃ a,(yK s1).1=a:=⟨_,rfl⟩
 obtain ⟨s2,hs2⟩:∃ t,(yK s1).2=t:=⟨_,rfl⟩
 have H1:Hid (∀ w',Ln w0 V va b s1 w'->Calls Tryz.prog 81 #[.pointer (some ⟨b,0,none⟩)] w' (RO w0 V va b (.int .i64 a1) s2 w')):=fun w' h'=>by
  have:=YE w' h'
  rw [ha1,hs2] at this
  exact this
 obtain ⟨a2,ha2⟩:∃ a,(yq (yQ V) s2).1=a:=⟨_,rfl⟩
 obtain ⟨s3,hs3⟩:∃ t,(yq (yQ V) s2).2=t:=⟨_,rfl⟩
 have H2:Hid (∀ w',Ln w0 V va b s2 w'->Calls Tryz.prog 82 #[.pointer (some ⟨b,0,none⟩)] w' (RL w0 V va b 87 2 a2.length (encL encT a2) s3 w')):=fun w' h'=>by
  have:=Xc w' h'
  rw [ha2,hs3] at this
  exact this
 have he:fLin V s=((⟨zv,⟨1,a0,a2,a1,0,0,0,[],[],[]⟩⟩:Sy),s3):=by
  unfold fLin
  simp only [ha0,hs1,ha1,hs2,ha2,hs3]
 rw [he]
 have HL0:Hid (Ln w0 V va b s w):=h
 have HS0:Hid (w.heap[S]?=some (.cells (sayC ⟨#[]⟩ 0 0 1 0 (.slice none 0 0) 0 0 0 0 (.slice none 0 0) (.slice none 0 0) (.slice none 0 0)) 74 (0,0))):=hS
 have HSz:Hid (S<w.heap.size/\B<=w.heap.size/\w0.heap.size<=S/\S≠b):=⟨(Array.getElem?_eq_some_iff.1 hS).1,hB,hSw,hne⟩
 clear h hS hSw hB hne he ha0 hs1 ha1 hs2 ha2 hs3
 go_enter Tryz.func79,Tryz.ntmps79
 go_wp2_with (first
  | (go_at_call 80;refine cZ (H0.out _ HL0.out) ?_;rintro e w1 ⟨rfl,h1,o1⟩;(have O1:Hid (Ofw (fun k=>k=b) w w1):=o1);(have L1:Hid (Ln w0 V va b s1 w1):=h1);clear h1 o1)
  | (go_at_call 81;refine cZ (H1.out _ L1.out) ?_;rintro e w2 ⟨rfl,h1,o1⟩;(have O2:Hid (Ofw (fun k=>k=b) w w2):=O1.out.trans o1);(have L2:Hid (Ln w0 V va b s2 w2):=h1);clear h1 o1)
  | (go_at_call 82;refine cZ (H2.out _ L2.out) ?_;rintro e w3 ⟨v2,rfl,h1,o1,r1⟩;obtain ⟨ad2,cp2,hv⟩:=yr r1;subst hv;(have O3:Hid (Ofw (fun k=>k=b) w w3):=O2.out.trans o1);(have L3:Hid (Ln w0 V va b s3 w3):=h1);(have R2:Hid (w3.ownsRow B 87 2 (.slice ad2 a2.length cp2) a2.length (encL encT a2)):=zz r1 (Nat.le_trans HSz.out.2.1 O2.out.size));clear r1;clear h1 o1;(have HSn:Hid (w3.heap[S]?=some (.cells (sayC ⟨#[]⟩ 0 0 1 0 (.slice none 0 0) 0 0 0 0 (.slice none 0 0) (.slice none 0 0) (.slice none 0 0)) 74 (0,0))):=(O3.out.block S HSz.out.1 HSz.out.2.2.2).trans HS0.out);(have c4:=yd HSn.out 4);(have z4:=yu HSn.out 4);(have c6:=yd HSn.out 6);(have z6:=yu HSn.out 6);(have c5:=yd HSn.out 5);(have z5:=yu HSn.out 5)))
 go_end0
 have OF:Hid (Ofw (fun k=>k=S) w3 (((w3.setCell ⟨S,4,none⟩ (.int .i64 a0)).setCell ⟨S,6,none⟩ (.int .i64 a1)).setCell ⟨S,5,none⟩ (.slice ad2 a2.length cp2))):=((zi _ _ _ _).trans (zi _ _ _ _)).trans (zi _ _ _ _)
 exact ⟨rfl,L3.out.keep (fun k hk=>by have hk':k=S:=hk;subst hk';exact ⟨HSz.out.2.2.1,HSz.out.2.2.2⟩) OF.out,(O3.out.less fun k hk=>.inl hk).trans (OF.out.less fun k hk=>.inr hk),_,_,_,_,⟨(yD (yD (yD HSn.out 4 _) 6 _) 5 _),(xA R2.out (by decide) HSn.out OF.out),(yG _ B 3 1),(yG _ B 3 1),_,0,yG _ B 58 1,xB _ B 0⟩⟩
theorem y4y {w0:World} {V:List Md.Vr} {va:Value} {b:Nat} {s:St} (S B:Nat) (w:World) (h:Ln w0 V va b s w) (hS:w.heap[S]?=some (.cells (sayC ⟨#[]⟩ 0 0 2 0 (.slice none 0 0) 0 0 0 0 (.slice none 0 0) (.slice none 0 0) (.slice none 0 0)) 74 (0,0))) (hSw:w0.heap.size<=S) (hB:B<=w.heap.size):Calls Tryz.prog 85 #[.pointer (some ⟨b,0,none⟩),.pointer (some ⟨S,0,none⟩)] w (SO w0 V va b S B (fNe V s) w):=by
 have hne:S≠b:=fun e=>by rw [e,h.o] at hS;injection hS with hS;injection hS with _ hS _;cases hS
 obtain ⟨a0,ha0⟩:∃ a,(yA V s).1=a:=⟨_,rfl⟩
 obtain ⟨s1,hs1⟩:∃ t,(yA V s).2=t:=⟨_,rfl⟩
 have H0:Hid (∀ w',Ln w0 V va b s w'->Calls Tryz.prog 71 #[.pointer (some ⟨b,0,none⟩)] w' (RO w0 V va b (.int .i64 a0) s1 w')):=fun w' h'=>by
  have:=xW w' h'
  rw [ha0,hs1] at this
  exact this
 obtain ⟨a1,ha1⟩:∃ a,(yA V s1).1=a:=⟨_,rfl⟩
 obtain ⟨s2,hs2⟩:∃ t,(yA V s1).2=t:=⟨_,rfl⟩
 have H1:Hid (∀ w',Ln w0 V va b s1 w'->Calls Tryz.prog 71 #[.pointer (some ⟨b,0,none⟩)] w' (RO w0 V va b (.int .i64 a1) s2 w')):=fun w' h'=>by
  have:=xW w' h'
  rw [ha1,hs2] at this
  exact this
 obtain ⟨a2,ha2⟩:∃ a,(yK s2).1=a:=⟨_,rfl⟩
 obtain ⟨s3,hs3⟩:∃ t,(yK s2).2=t:=⟨_,rfl⟩
 have H2:Hid (∀ w',Ln w0 V va b s2 w'->Calls Tryz.prog 81 #[.pointer (some ⟨b,0,none⟩)] w' (RO w0 V va b (.int .i64 a2) s3 w')):=fun w' h'=>by
  have:=YE w' h'
  rw [ha2,hs3] at this
  exact this
 have HEn:Hid (∀ w',Ln w0 V va b s3 w'->Calls Tryz.prog 128 #[.pointer (some ⟨b,0,none⟩)] w' (RO w0 V va b (.tuple #[]) (endT s3) w')):=fun w' h'=>QH w' h'
 have he:fNe V s=((⟨zv,⟨2,0,[],a2,0,a0,a1,[],[],[]⟩⟩:Sy),endT s3):=by
  unfold fNe
  simp only [ha0,hs1,ha1,hs2,ha2,hs3]
 rw [he]
 have HL0:Hid (Ln w0 V va b s w):=h
 have HS0:Hid (w.heap[S]?=some (.cells (sayC ⟨#[]⟩ 0 0 2 0 (.slice none 0 0) 0 0 0 0 (.slice none 0 0) (.slice none 0 0) (.slice none 0 0)) 74 (0,0))):=hS
 have HSz:Hid (S<w.heap.size/\B<=w.heap.size/\w0.heap.size<=S/\S≠b):=⟨(Array.getElem?_eq_some_iff.1 hS).1,hB,hSw,hne⟩
 clear h hS hSw hB hne he ha0 hs1 ha1 hs2 ha2 hs3
 go_enter Tryz.func85,Tryz.ntmps85
 go_wp2_with (first
  | (go_at_call 71;refine cZ (H0.out _ HL0.out) ?_;rintro e w1 ⟨rfl,h1,o1⟩;(have O1:Hid (Ofw (fun k=>k=b) w w1):=o1);(have L1:Hid (Ln w0 V va b s1 w1):=h1);clear h1 o1)
  | (go_at_call 71;refine cZ (H1.out _ L1.out) ?_;rintro e w2 ⟨rfl,h1,o1⟩;(have O2:Hid (Ofw (fun k=>k=b) w w2):=O1.out.trans o1);(have L2:Hid (Ln w0 V va b s2 w2):=h1);clear h1 o1)
  | (go_at_call 81;refine cZ (H2.out _ L2.out) ?_;rintro e w3 ⟨rfl,h1,o1⟩;(have O3:Hid (Ofw (fun k=>k=b) w w3):=O2.out.trans o1);(have L3:Hid (Ln w0 V va b s3 w3):=h1);clear h1 o1;(have HSn:Hid (w3.heap[S]?=some (.cells (sayC ⟨#[]⟩ 0 0 2 0 (.slice none 0 0) 0 0 0 0 (.slice none 0 0) (.slice none 0 0) (.slice none 0 0)) 74 (0,0))):=(O3.out.block S HSz.out.1 HSz.out.2.2.2).trans HS0.out);(have c8:=yd HSn.out 8);(have z8:=yu HSn.out 8);(have c9:=yd HSn.out 9);(have z9:=yu HSn.out 9);(have c6:=yd HSn.out 6);(have z6:=yu HSn.out 6))
  | (go_at_call 128;obtain ⟨Wf,hWf⟩:∃ Wf,(((w3.setCell ⟨S,8,none⟩ (.int .i64 a0)).setCell ⟨S,9,none⟩ (.int .i64 a1)).setCell ⟨S,6,none⟩ (.int .i64 a2))=Wf:=⟨_,rfl⟩;rw [hWf];(have OF:Hid (Ofw (fun k=>k=S) w3 Wf):=(by rw [<-hWf];exact ((zi _ _ _ _).trans (zi _ _ _ _)).trans (zi _ _ _ _)));(have SF:Hid (SyAt B S (⟨zv,⟨2,0,[],a2,0,a0,a1,[],[],[]⟩⟩:Sy) Wf):=⟨_,_,_,_,(by rw [<-hWf];exact (yD (yD (yD HSn.out 8 _) 9 _) 6 _)),(by rw [<-hWf];exact (yG _ B 87 2)),(by rw [<-hWf];exact (yG _ B 3 1)),(by rw [<-hWf];exact (yG _ B 3 1)),_,0,yG _ B 58 1,xB _ B 0⟩);(have LF:Hid (Ln w0 V va b s3 Wf):=L3.out.keep (fun k hk=>by have hk':k=S:=hk;subst hk';exact ⟨HSz.out.2.2.1,HSz.out.2.2.2⟩) OF.out);clear hWf;refine cZ (HEn.out _ LF.out) ?_;rintro e w4 ⟨rfl,h1,o1⟩))
 go_end0
 exact ⟨rfl,h1,((O3.out.less fun k hk=>.inl hk).trans (OF.out.less fun k hk=>.inr hk)).trans (o1.less fun k hk=>.inl hk),K5 SF.out LF.out o1⟩
theorem y4z {w0:World} {V:List Md.Vr} {va:Value} {b:Nat} {s:St} (S B:Nat) (w:World) (h:Ln w0 V va b s w) (hS:w.heap[S]?=some (.cells (sayC ⟨#[]⟩ 0 0 3 0 (.slice none 0 0) 0 0 0 0 (.slice none 0 0) (.slice none 0 0) (.slice none 0 0)) 74 (0,0))) (hSw:w0.heap.size<=S) (hB:B<=w.heap.size):Calls Tryz.prog 87 #[.pointer (some ⟨b,0,none⟩),.pointer (some ⟨S,0,none⟩)] w (SO w0 V va b S B (fAll V s) w):=by
 have hne:S≠b:=fun e=>by rw [e,h.o] at hS;injection hS with hS;injection hS with _ hS _;cases hS
 obtain ⟨a0,ha0⟩:∃ a,(yq (yF V) s).1=a:=⟨_,rfl⟩
 obtain ⟨s1,hs1⟩:∃ t,(yq (yF V) s).2=t:=⟨_,rfl⟩
 have H0:Hid (∀ w',Ln w0 V va b s w'->Calls Tryz.prog 72 #[.pointer (some ⟨b,0,none⟩)] w' (RL w0 V va b 3 1 a0.length (encL encI a0) s1 w')):=fun w' h'=>by
  have:=Xb w' h'
  rw [ha0,hs1] at this
  exact this
 have he:fAll V s=((⟨zv,⟨3,0,[],0,0,0,0,a0,[],[]⟩⟩:Sy),s1):=by
  unfold fAll
  simp only [ha0,hs1]
 rw [he]
 have HL0:Hid (Ln w0 V va b s w):=h
 have HS0:Hid (w.heap[S]?=some (.cells (sayC ⟨#[]⟩ 0 0 3 0 (.slice none 0 0) 0 0 0 0 (.slice none 0 0) (.slice none 0 0) (.slice none 0 0)) 74 (0,0))):=hS
 have HSz:Hid (S<w.heap.size/\B<=w.heap.size/\w0.heap.size<=S/\S≠b):=⟨(Array.getElem?_eq_some_iff.1 hS).1,hB,hSw,hne⟩
 clear h hS hSw hB hne he ha0 hs1
 go_enter Tryz.func87,Tryz.ntmps87
 go_wp2_with (first
  | (go_at_call 72;refine cZ (H0.out _ HL0.out) ?_;rintro e w1 ⟨v0,rfl,h1,o1,r1⟩;obtain ⟨ad0,cp0,hv⟩:=yr r1;subst hv;(have O1:Hid (Ofw (fun k=>k=b) w w1):=o1);(have L1:Hid (Ln w0 V va b s1 w1):=h1);(have R0:Hid (w1.ownsRow B 3 1 (.slice ad0 a0.length cp0) a0.length (encL encI a0)):=zz r1 (HSz.out.2.1));clear r1;clear h1 o1;(have HSn:Hid (w1.heap[S]?=some (.cells (sayC ⟨#[]⟩ 0 0 3 0 (.slice none 0 0) 0 0 0 0 (.slice none 0 0) (.slice none 0 0) (.slice none 0 0)) 74 (0,0))):=(O1.out.block S HSz.out.1 HSz.out.2.2.2).trans HS0.out);(have c10:=yd HSn.out 10);(have z10:=yu HSn.out 10)))
 go_end0
 have OF:Hid (Ofw (fun k=>k=S) w1 (w1.setCell ⟨S,10,none⟩ (.slice ad0 a0.length cp0))):=zi _ _ _ _
 exact ⟨rfl,L1.out.keep (fun k hk=>by have hk':k=S:=hk;subst hk';exact ⟨HSz.out.2.2.1,HSz.out.2.2.2⟩) OF.out,(O1.out.less fun k hk=>.inl hk).trans (OF.out.less fun k hk=>.inr hk),_,_,_,_,⟨(yD HSn.out 10 _),(yG _ B 87 2),(xA R0.out (by decide) HSn.out OF.out),(yG _ B 3 1),_,0,yG _ B 58 1,xB _ B 0⟩⟩
theorem y4A {w0:World} {V:List Md.Vr} {va:Value} {b:Nat} {s:St} (S B:Nat) (w:World) (h:Ln w0 V va b s w) (hS:w.heap[S]?=some (.cells (sayC ⟨#[]⟩ 0 0 4 0 (.slice none 0 0) 0 0 0 0 (.slice none 0 0) (.slice none 0 0) (.slice none 0 0)) 74 (0,0))) (hSw:w0.heap.size<=S) (hB:B<=w.heap.size):Calls Tryz.prog 89 #[.pointer (some ⟨b,0,none⟩),.pointer (some ⟨S,0,none⟩)] w (SO w0 V va b S B (fEl V s) w):=by
 have hne:S≠b:=fun e=>by rw [e,h.o] at hS;injection hS with hS;injection hS with _ hS _;cases hS
 obtain ⟨a0,ha0⟩:∃ a,(yA V s).1=a:=⟨_,rfl⟩
 obtain ⟨s1,hs1⟩:∃ t,(yA V s).2=t:=⟨_,rfl⟩
 have H0:Hid (∀ w',Ln w0 V va b s w'->Calls Tryz.prog 71 #[.pointer (some ⟨b,0,none⟩)] w' (RO w0 V va b (.int .i64 a0) s1 w')):=fun w' h'=>by
  have:=xW w' h'
  rw [ha0,hs1] at this
  exact this
 obtain ⟨a1,ha1⟩:∃ a,(yA V s1).1=a:=⟨_,rfl⟩
 obtain ⟨s2,hs2⟩:∃ t,(yA V s1).2=t:=⟨_,rfl⟩
 have H1:Hid (∀ w',Ln w0 V va b s1 w'->Calls Tryz.prog 71 #[.pointer (some ⟨b,0,none⟩)] w' (RO w0 V va b (.int .i64 a1) s2 w')):=fun w' h'=>by
  have:=xW w' h'
  rw [ha1,hs2] at this
  exact this
 obtain ⟨a2,ha2⟩:∃ a,(yq yO s2).1=a:=⟨_,rfl⟩
 obtain ⟨s3,hs3⟩:∃ t,(yq yO s2).2=t:=⟨_,rfl⟩
 have H2:Hid (∀ w',Ln w0 V va b s2 w'->Calls Tryz.prog 90 #[.pointer (some ⟨b,0,none⟩)] w' (RL w0 V va b 3 1 a2.length (encL encI a2) s3 w')):=fun w' h'=>by
  have:=y3R w' h'
  rw [ha2,hs3] at this
  exact this
 have he:fEl V s=((⟨zv,⟨4,0,[],0,0,a0,a1,[],a2,[]⟩⟩:Sy),s3):=by
  unfold fEl
  simp only [ha0,hs1,ha1,hs2,ha2,hs3]
 rw [he]
 have HL0:Hid (Ln w0 V va b s w):=h
 have HS0:Hid (w.heap[S]?=some (.cells (sayC ⟨#[]⟩ 0 0 4 0 (.slice none 0 0) 0 0 0 0 (.slice none 0 0) (.slice none 0 0) (.slice none 0 0)) 74 (0,0))):=hS
 have HSz:Hid (S<w.heap.size/\B<=w.heap.size/\w0.heap.size<=S/\S≠b):=⟨(Array.getElem?_eq_some_iff.1 hS).1,hB,hSw,hne⟩
 clear h hS hSw hB hne he ha0 hs1 ha1 hs2 ha2 hs3
 go_enter Tryz.func89,Tryz.ntmps89
 go_wp2_with (first
  | (go_at_call 71;refine cZ (H0.out _ HL0.out) ?_;rintro e w1 ⟨rfl,h1,o1⟩;(have O1:Hid (Ofw (fun k=>k=b) w w1):=o1);(have L1:Hid (Ln w0 V va b s1 w1):=h1);clear h1 o1)
  | (go_at_call 71;refine cZ (H1.out _ L1.out) ?_;rintro e w2 ⟨rfl,h1,o1⟩;(have O2:Hid (Ofw (fun k=>k=b) w w2):=O1.out.trans o1);(have L2:Hid (Ln w0 V va b s2 w2):=h1);clear h1 o1)
  | (go_at_call 90;refine cZ (H2.out _ L2.out) ?_;rintro e w3 ⟨v2,rfl,h1,o1,r1⟩;obtain ⟨ad2,cp2,hv⟩:=yr r1;subst hv;(have O3:Hid (Ofw (fun k=>k=b) w w3):=O2.out.trans o1);(have L3:Hid (Ln w0 V va b s3 w3):=h1);(have R2:Hid (w3.ownsRow B 3 1 (.slice ad2 a2.length cp2) a2.length (encL encI a2)):=zz r1 (Nat.le_trans HSz.out.2.1 O2.out.size));clear r1;clear h1 o1;(have HSn:Hid (w3.heap[S]?=some (.cells (sayC ⟨#[]⟩ 0 0 4 0 (.slice none 0 0) 0 0 0 0 (.slice none 0 0) (.slice none 0 0) (.slice none 0 0)) 74 (0,0))):=(O3.out.block S HSz.out.1 HSz.out.2.2.2).trans HS0.out);(have c8:=yd HSn.out 8);(have z8:=yu HSn.out 8);(have c9:=yd HSn.out 9);(have z9:=yu HSn.out 9);(have c11:=yd HSn.out 11);(have z11:=yu HSn.out 11)))
 go_end0
 have OF:Hid (Ofw (fun k=>k=S) w3 (((w3.setCell ⟨S,8,none⟩ (.int .i64 a0)).setCell ⟨S,9,none⟩ (.int .i64 a1)).setCell ⟨S,11,none⟩ (.slice ad2 a2.length cp2))):=((zi _ _ _ _).trans (zi _ _ _ _)).trans (zi _ _ _ _)
 exact ⟨rfl,L3.out.keep (fun k hk=>by have hk':k=S:=hk;subst hk';exact ⟨HSz.out.2.2.1,HSz.out.2.2.2⟩) OF.out,(O3.out.less fun k hk=>.inl hk).trans (OF.out.less fun k hk=>.inr hk),_,_,_,_,⟨(yD (yD (yD HSn.out 8 _) 9 _) 11 _),(yG _ B 87 2),(yG _ B 3 1),(xA R2.out (by decide) HSn.out OF.out),_,0,yG _ B 58 1,xB _ B 0⟩⟩
theorem y4B {w0:World} {V:List Md.Vr} {va:Value} {b:Nat} {s:St} (S B:Nat) (w:World) (h:Ln w0 V va b s w) (hS:w.heap[S]?=some (.cells (sayC ⟨#[]⟩ 0 0 9 0 (.slice none 0 0) 0 0 0 0 (.slice none 0 0) (.slice none 0 0) (.slice none 0 0)) 74 (0,0))) (hSw:w0.heap.size<=S) (hB:B<=w.heap.size):Calls Tryz.prog 97 #[.pointer (some ⟨b,0,none⟩),.pointer (some ⟨S,0,none⟩)] w (SO w0 V va b S B (Ye V s) w):=by
 have hne:S≠b:=fun e=>by rw [e,h.o] at hS;injection hS with hS;injection hS with _ hS _;cases hS
 obtain ⟨a0,ha0⟩:∃ a,(rdOp s).1=a:=⟨_,rfl⟩
 obtain ⟨s1,hs1⟩:∃ t,(rdOp s).2=t:=⟨_,rfl⟩
 have H0:Hid (∀ w',Ln w0 V va b s w'->Calls Tryz.prog 80 #[.pointer (some ⟨b,0,none⟩)] w' (RO w0 V va b (.int .i64 a0) s1 w')):=fun w' h'=>by
  have:=QZ w' h'
  rw [ha0,hs1] at this
  exact this
 obtain ⟨a1,ha1⟩:∃ a,(yK s1).1=a:=⟨_,rfl⟩
 obtain ⟨s2,hs2⟩:∃ t,(yK s1).2=t:=⟨_,rfl⟩
 have H1:Hid (∀ w',Ln w0 V va b s1 w'->Calls Tryz.prog 81 #[.pointer (some ⟨b,0,none⟩)] w' (RO w0 V va b (.int .i64 a1) s2 w')):=fun w' h'=>by
  have:=YE w' h'
  rw [ha1,hs2] at this
  exact this
 obtain ⟨a2,ha2⟩:∃ a,(yK s2).1=a:=⟨_,rfl⟩
 obtain ⟨s3,hs3⟩:∃ t,(yK s2).2=t:=⟨_,rfl⟩
 have H2:Hid (∀ w',Ln w0 V va b s2 w'->Calls Tryz.prog 81 #[.pointer (some ⟨b,0,none⟩)] w' (RO w0 V va b (.int .i64 a2) s3 w')):=fun w' h'=>by
  have:=YE w' h'
  rw [ha2,hs3] at this
  exact this
 obtain ⟨a3,ha3⟩:∃ a,(yq (yF V) s3).1=a:=⟨_,rfl⟩
 obtain ⟨s4,hs4⟩:∃ t,(yq (yF V) s3).2=t:=⟨_,rfl⟩
 have H3:Hid (∀ w',Ln w0 V va b s3 w'->Calls Tryz.prog 72 #[.pointer (some ⟨b,0,none⟩)] w' (RL w0 V va b 3 1 a3.length (encL encI a3) s4 w')):=fun w' h'=>by
  have:=Xb w' h'
  rw [ha3,hs4] at this
  exact this
 have he:Ye V s=((⟨zv,⟨9,a0,[],a1,a2,0,0,a3,[],[]⟩⟩:Sy),s4):=by
  unfold Ye
  simp only [ha0,hs1,ha1,hs2,ha2,hs3,ha3,hs4]
 rw [he]
 have HL0:Hid (Ln w0 V va b s w):=h
 have HS0:Hid (w.heap[S]?=some (.cells (sayC ⟨#[]⟩ 0 0 9 0 (.slice none 0 0) 0 0 0 0 (.slice none 0 0) (.slice none 0 0) (.slice none 0 0)) 74 (0,0))):=hS
 have HSz:Hid (S<w.heap.size/\B<=w.heap.size/\w0.heap.size<=S/\S≠b):=⟨(Array.getElem?_eq_some_iff.1 hS).1,hB,hSw,hne⟩
 clear h hS hSw hB hne he ha0 hs1 ha1 hs2 ha2 hs3 ha3 hs4
 go_enter Tryz.func97,Tryz.ntmps97
 go_wp2_with (first
  | (go_at_call 80;refine cZ (H0.out _ HL0.out) ?_;rintro e w1 ⟨rfl,h1,o1⟩;(have O1:Hid (Ofw (fun k=>k=b) w w1):=o1);(have L1:Hid (Ln w0 V va b s1 w1):=h1);clear h1 o1)
  | (go_at_call 81;refine cZ (H1.out _ L1.out) ?_;rintro e w2 ⟨rfl,h1,o1⟩;(have O2:Hid (Ofw (fun k=>k=b) w w2):=O1.out.trans o1);(have L2:Hid (Ln w0 V va b s2 w2):=h1);clear h1 o1)
  | (go_at_call 81;refine cZ (H2.out _ L2.out) ?_;rintro e w3 ⟨rfl,h1,o1⟩;(have O3:Hid (Ofw (fun k=>k=b) w w3):=O2.out.trans o1);(have L3:Hid (Ln w0 V va b s3 w3):=h1);clear h1 o1)
  | (go_at_call 72;refine cZ (H3.out _ L3.out) ?_;rintro e w4 ⟨v3,rfl,h1,o1,r1⟩;obtain ⟨ad3,cp3,hv⟩:=yr r1;subst hv;(have O4:Hid (Ofw (fun k=>k=b) w w4):=O3.out.trans o1);(have L4:Hid (Ln w0 V va b s4 w4):=h1);(have R3:Hid (w4.ownsRow B 3 1 (.slice ad3 a3.length cp3) a3.length (encL encI a3)):=zz r1 (Nat.le_trans HSz.out.2.1 O3.out.size));clear r1;clear h1 o1;(have HSn:Hid (w4.heap[S]?=some (.cells (sayC ⟨#[]⟩ 0 0 9 0 (.slice none 0 0) 0 0 0 0 (.slice none 0 0) (.slice none 0 0) (.slice none 0 0)) 74 (0,0))):=(O4.out.block S HSz.out.1 HSz.out.2.2.2).trans HS0.out);(have c4:=yd HSn.out 4);(have z4:=yu HSn.out 4);(have c6:=yd HSn.out 6);(have z6:=yu HSn.out 6);(have c7:=yd HSn.out 7);(have z7:=yu HSn.out 7);(have c10:=yd HSn.out 10);(have z10:=yu HSn.out 10)))
 go_end0
 have OF:Hid (Ofw (fun k=>k=S) w4 ((((w4.setCell ⟨S,4,none⟩ (.int .i64 a0)).setCell ⟨S,6,none⟩ (.int .i64 a1)).setCell ⟨S,7,none⟩ (.int .i64 a2)).setCell ⟨S,10,none⟩ (.slice ad3 a3.length cp3))):=(((zi _ _ _ _).trans (zi _ _ _ _)).trans (zi _ _ _ _)).trans (zi _ _ _ _)
 exact ⟨rfl,L4.out.keep (fun k hk=>by have hk':k=S:=hk;subst hk';exact ⟨HSz.out.2.2.1,HSz.out.2.2.2⟩) OF.out,(O4.out.less fun k hk=>.inl hk).trans (OF.out.less fun k hk=>.inr hk),_,_,_,_,⟨(yD (yD (yD (yD HSn.out 4 _) 6 _) 7 _) 10 _),(yG _ B 87 2),(xA R3.out (by decide) HSn.out OF.out),(yG _ B 3 1),_,0,yG _ B 58 1,xB _ B 0⟩⟩
theorem y4C {w0:World} {V:List Md.Vr} {va:Value} {b:Nat} {s:St} (S B:Nat) (w:World) (h:Ln w0 V va b s w) (hS:w.heap[S]?=some (.cells (sayC ⟨#[]⟩ 0 0 11 0 (.slice none 0 0) 0 0 0 0 (.slice none 0 0) (.slice none 0 0) (.slice none 0 0)) 74 (0,0))) (hSw:w0.heap.size<=S) (hB:B<=w.heap.size):Calls Tryz.prog 99 #[.pointer (some ⟨b,0,none⟩),.pointer (some ⟨S,0,none⟩)] w (SO w0 V va b S B (Yf V s) w):=by
 have hne:S≠b:=fun e=>by rw [e,h.o] at hS;injection hS with hS;injection hS with _ hS _;cases hS
 obtain ⟨a0,ha0⟩:∃ a,(yq (yQ V) s).1=a:=⟨_,rfl⟩
 obtain ⟨s1,hs1⟩:∃ t,(yq (yQ V) s).2=t:=⟨_,rfl⟩
 have H0:Hid (∀ w',Ln w0 V va b s w'->Calls Tryz.prog 82 #[.pointer (some ⟨b,0,none⟩)] w' (RL w0 V va b 87 2 a0.length (encL encT a0) s1 w')):=fun w' h'=>by
  have:=Xc w' h'
  rw [ha0,hs1] at this
  exact this
 have he:Yf V s=((⟨zv,⟨11,0,a0,0,0,0,0,[],[],[]⟩⟩:Sy),s1):=by
  unfold Yf
  simp only [ha0,hs1]
 rw [he]
 have HL0:Hid (Ln w0 V va b s w):=h
 have HS0:Hid (w.heap[S]?=some (.cells (sayC ⟨#[]⟩ 0 0 11 0 (.slice none 0 0) 0 0 0 0 (.slice none 0 0) (.slice none 0 0) (.slice none 0 0)) 74 (0,0))):=hS
 have HSz:Hid (S<w.heap.size/\B<=w.heap.size/\w0.heap.size<=S/\S≠b):=⟨(Array.getElem?_eq_some_iff.1 hS).1,hB,hSw,hne⟩
 clear h hS hSw hB hne he ha0 hs1
 go_enter Tryz.func99,Tryz.ntmps99
 go_wp2_with (first
  | (go_at_call 82;refine cZ (H0.out _ HL0.out) ?_;rintro e w1 ⟨v0,rfl,h1,o1,r1⟩;obtain ⟨ad0,cp0,hv⟩:=yr r1;subst hv;(have O1:Hid (Ofw (fun k=>k=b) w w1):=o1);(have L1:Hid (Ln w0 V va b s1 w1):=h1);(have R0:Hid (w1.ownsRow B 87 2 (.slice ad0 a0.length cp0) a0.length (encL encT a0)):=zz r1 (HSz.out.2.1));clear r1;clear h1 o1;(have HSn:Hid (w1.heap[S]?=some (.cells (sayC ⟨#[]⟩ 0 0 11 0 (.slice none 0 0) 0 0 0 0 (.slice none 0 0) (.slice none 0 0) (.slice none 0 0)) 74 (0,0))):=(O1.out.block S HSz.out.1 HSz.out.2.2.2).trans HS0.out);(have c5:=yd HSn.out 5);(have z5:=yu HSn.out 5)))
 go_end0
 have OF:Hid (Ofw (fun k=>k=S) w1 (w1.setCell ⟨S,5,none⟩ (.slice ad0 a0.length cp0))):=zi _ _ _ _
 exact ⟨rfl,L1.out.keep (fun k hk=>by have hk':k=S:=hk;subst hk';exact ⟨HSz.out.2.2.1,HSz.out.2.2.2⟩) OF.out,(O1.out.less fun k hk=>.inl hk).trans (OF.out.less fun k hk=>.inr hk),_,_,_,_,⟨(yD HSn.out 5 _),(xA R0.out (by decide) HSn.out OF.out),(yG _ B 3 1),(yG _ B 3 1),_,0,yG _ B 58 1,xB _ B 0⟩⟩
end Go.Proofs.YthohnmplbjhjaaaGreatDoor

namespace Go.Proofs.YthohnmplbjhjaaaGreatDoor
open Go Go.RowKit Go.Shelf Go.Lib
set_option maxRecDepth 10000
set_option maxHeartbeats 2000000
theorem Ln.say {w0:World} {V:List Md.Vr} {va:Value} {b:Nat} {s:St} {w w':World} {S:Nat} (h:Ln w0 V va b s w) (hS:w0.heap.size<=S) (hne:S≠b) (o:Ofw (fun k=>k=S) w w'):Ln w0 V va b s w':=
 h.keep (fun k hk=>by have hk':k=S:=hk;subst hk';exact ⟨hS,hne⟩) o
theorem y4D {w0:World} {V:List Md.Vr} {va:Value} {b:Nat} {s:St} (S B:Nat) (w:World) (h:Ln w0 V va b s w) (hS:w.heap[S]?=some (.cells (sayC ⟨#[]⟩ 0 0 10 0 (.slice none 0 0) 0 0 0 0 (.slice none 0 0) (.slice none 0 0) (.slice none 0 0)) 74 (0,0))) (hSw:w0.heap.size<=S) (hB:B<=w.heap.size):Calls Tryz.prog 75 #[.pointer (some ⟨b,0,none⟩),.pointer (some ⟨S,0,none⟩)] w (SO w0 V va b S B (fVar V s) w):=by
 have hne:S≠b:=fun e=>by rw [e,h.o] at hS;injection hS with hS;injection hS with _ hS _;cases hS
 have H0:Hid (∀ w',Ln w0 V va b s w'->Calls Tryz.prog 126 #[.pointer (some ⟨b,0,none⟩)] w' (RO w0 V va b (.string (yc (newT V s).1)) (newT V s).2 w')):=fun w' h'=>y4p w' h'
 obtain ⟨s1,hs1⟩:∃ t,(newT V s).2=t:=⟨_,rfl⟩
 obtain ⟨X,hX⟩:∃ X,yc (newT V s).1=X:=⟨_,rfl⟩
 obtain ⟨lo,hlo⟩:∃ t,(zV s1).1.1=t:=⟨_,rfl⟩
 obtain ⟨hi,hhi⟩:∃ t,(zV s1).1.2=t:=⟨_,rfl⟩
 obtain ⟨s2,hs2⟩:∃ t,(zV s1).2=t:=⟨_,rfl⟩
 rw [hX,hs1] at H0
 have H1:Hid (∀ w',Ln w0 V va b s1 w'->Calls Tryz.prog 127 #[.pointer (some ⟨b,0,none⟩)] w' (RO w0 V va b (.tuple #[.int .i64 lo,.int .i64 hi]) s2 w')):=fun w' h'=>by
  have:=y4r w' h'
  rw [hlo,hhi,hs2] at this
  exact this
 have H2:Hid (∀ w',Ln w0 V va b s2 w'->Calls Tryz.prog 128 #[.pointer (some ⟨b,0,none⟩)] w' (RO w0 V va b (.tuple #[]) (endT s2) w')):=fun w' h'=>QH w' h'
 have he:fVar V s=(⟨⟨X,lo,hi⟩,zc 10⟩,endT s2):=by
  unfold fVar
  simp only [hX,hs1,hlo,hhi,hs2]
 rw [he]
 have HL0:Hid (Ln w0 V va b s w):=h
 have HS0:Hid (w.heap[S]?=some (.cells (sayC ⟨#[]⟩ 0 0 10 0 (.slice none 0 0) 0 0 0 0 (.slice none 0 0) (.slice none 0 0) (.slice none 0 0)) 74 (0,0))):=hS
 have HSz:Hid (S<w.heap.size/\B<=w.heap.size/\w0.heap.size<=S/\S≠b):=⟨(Array.getElem?_eq_some_iff.1 hS).1,hB,hSw,hne⟩
 clear h hS hSw hB hne he hs1 hX hlo hhi hs2
 go_enter Tryz.func75,Tryz.ntmps75
 go_wp2_with (first
  | (go_at_call 126;refine cZ (H0.out _ HL0.out) ?_;rintro e w1 ⟨rfl,h1,o1⟩;(have O1:Hid (Ofw (fun k=>k=b) w w1):=o1);(have L1:Hid (Ln w0 V va b s1 w1):=h1);clear h1 o1;(have HS1:Hid (w1.heap[S]?=some (.cells (sayC ⟨#[]⟩ 0 0 10 0 (.slice none 0 0) 0 0 0 0 (.slice none 0 0) (.slice none 0 0) (.slice none 0 0)) 74 (0,0))):=(O1.out.block S HSz.out.1 HSz.out.2.2.2).trans HS0.out);(have c0:=yd HS1.out 0);(have z0:=yu HS1.out 0))
  | (go_at_call 127;obtain ⟨Wa,hWa⟩:∃ Wa,w1.setCell ⟨S,0,none⟩ (.string X)=Wa:=⟨_,rfl⟩;rw [hWa];(have OA:Hid (Ofw (fun k=>k=S) w1 Wa):=(by rw [<-hWa];exact zi _ _ _ _));(have HSa:Hid (Wa.heap[S]?=some (.cells (sayC X 0 0 10 0 (.slice none 0 0) 0 0 0 0 (.slice none 0 0) (.slice none 0 0) (.slice none 0 0)) 74 (0,0))):=(by rw [<-hWa];exact yD HS1.out 0 _));(have LA:Hid (Ln w0 V va b s1 Wa):=L1.out.say HSz.out.2.2.1 HSz.out.2.2.2 OA.out);clear hWa;refine cZ (H1.out _ LA.out) ?_;rintro e w2 ⟨rfl,h1,o1⟩;(have O2:Hid (Ofw (fun k=>k=b) Wa w2):=o1);(have L2:Hid (Ln w0 V va b s2 w2):=h1);clear h1 o1;(have HS2:Hid (w2.heap[S]?=some (.cells (sayC X 0 0 10 0 (.slice none 0 0) 0 0 0 0 (.slice none 0 0) (.slice none 0 0) (.slice none 0 0)) 74 (0,0))):=(O2.out.block S (Array.getElem?_eq_some_iff.1 HSa.out).1 HSz.out.2.2.2).trans HSa.out);(have c1:=yd HS2.out 1);(have z1:=yu HS2.out 1);(have c2:=yd HS2.out 2);(have z2:=yu HS2.out 2))
  | (go_at_call 128;obtain ⟨Wf,hWf⟩:∃ Wf,(w2.setCell ⟨S,1,none⟩ (.int .i64 lo)).setCell ⟨S,2,none⟩ (.int .i64 hi)=Wf:=⟨_,rfl⟩;rw [hWf];(have OF:Hid (Ofw (fun k=>k=S) w2 Wf):=(by rw [<-hWf];exact (zi _ _ _ _).trans (zi _ _ _ _)));(have SF:Hid (SyAt B S ⟨⟨X,lo,hi⟩,zc 10⟩ Wf):=⟨_,_,_,_,(by rw [<-hWf];exact (yD (yD HS2.out 1 _) 2 _)),yG _ B 87 2,yG _ B 3 1,yG _ B 3 1,_,0,yG _ B 58 1,xB _ B 0⟩);(have LF:Hid (Ln w0 V va b s2 Wf):=L2.out.say HSz.out.2.2.1 HSz.out.2.2.2 OF.out);clear hWf;refine cZ (H2.out _ LF.out) ?_;rintro e w3 ⟨rfl,h1,o1⟩))
 go_end0
 exact ⟨rfl,h1,(((O1.out.less fun k hk=>.inl hk).trans (OA.out.less fun k hk=>.inr hk)).trans ((O2.out.less fun k hk=>.inl hk).trans (OF.out.less fun k hk=>.inr hk))).trans (o1.less fun k hk=>.inl hk),K5 SF.out LF.out o1⟩
theorem RowsW.base {w:World} {B B' D:Nat} {vs:List Value} {rs:List (List Int)} (h:RowsW w B D vs rs) (hB:B'<=B):RowsW w B' D vs rs:=⟨h.1,fun j u r hu hr=>⟨zz (h.2 j u r hu hr).1 hB,(h.2 j u r hu hr).2⟩⟩
theorem K7 (V:List Md.Vr):∀ (k:Nat) (xs:List Int) (s:St),(yS V k xs s).1.length<=xs.length+k
  | 0, xs, s => by
    unfold yS
    split
    · exact Nat.le_refl _
    · split <;> exact Nat.le_refl _
  | k + 1, xs, s => by
    unfold yS
    split
    · simp
    · split
      · simp
      · refine Nat.le_trans (K7 V k _ _) ?_
        simp
        omega
theorem y4E (V:List Md.Vr) (s:St):(zE V s).1.length<=8:=K7 V 7 _ _
theorem y4F {w0:World} {V:List Md.Vr} {va:Value} {b:Nat} {s:St} (S B:Nat) (w:World) (h:Ln w0 V va b s w) (hS:w.heap[S]?=some (.cells (sayC ⟨#[]⟩ 0 0 8 0 (.slice none 0 0) 0 0 0 0 (.slice none 0 0) (.slice none 0 0) (.slice none 0 0)) 74 (0,0))) (hSw:w0.heap.size<=S) (hB:B<=w.heap.size):Calls Tryz.prog 94 #[.pointer (some ⟨b,0,none⟩),.pointer (some ⟨S,0,none⟩)] w (SO w0 V va b S B (fTable V s) w):=by
 have hne:S≠b:=fun e=>by rw [e,h.o] at hS;injection hS with hS;injection hS with _ hS _;cases hS
 have hc8:=y4E V s
 obtain ⟨a0,ha0⟩:∃ a,(zE V s).1=a:=⟨_,rfl⟩
 obtain ⟨s1,hs1⟩:∃ t,(zE V s).2=t:=⟨_,rfl⟩
 have H0:Hid (∀ w',Ln w0 V va b s w'->Calls Tryz.prog 134 #[.pointer (some ⟨b,0,none⟩)] w' (RL w0 V va b 3 1 a0.length (encL encI a0) s1 w')):=fun w' h'=>by
  have:=y3U w' h'
  rw [ha0,hs1] at this
  exact this
 obtain ⟨a1,ha1⟩:∃ a,(zX a0.length s1).1=a:=⟨_,rfl⟩
 obtain ⟨s2,hs2⟩:∃ t,(zX a0.length s1).2=t:=⟨_,rfl⟩
 have H1:Hid (∀ w',Ln w0 V va b s1 w'->Calls Tryz.prog 135 #[.pointer (some ⟨b,0,none⟩),.int .i64 a0.length] w' (RRo w0 V va b a1 s2 w')):=fun w' h'=>by
  have:=y4G a0.length (by rw [ha0] at hc8;omega) w' h'
  rw [ha1,hs2] at this
  exact this
 have he:fTable V s=(⟨zv,⟨8,0,[],0,0,0,0,a0,[],a1⟩⟩,s2):=by
  unfold fTable
  simp only [ha0,hs1,ha1,hs2]
 rw [he]
 have HL0:Hid (Ln w0 V va b s w):=h
 have HS0:Hid (w.heap[S]?=some (.cells (sayC ⟨#[]⟩ 0 0 8 0 (.slice none 0 0) 0 0 0 0 (.slice none 0 0) (.slice none 0 0) (.slice none 0 0)) 74 (0,0))):=hS
 have HSz:Hid (S<w.heap.size/\B<=w.heap.size/\w0.heap.size<=S/\S≠b):=⟨(Array.getElem?_eq_some_iff.1 hS).1,hB,hSw,hne⟩
 clear h hS hSw hB hne he ha0 hs1 ha1 hs2 hc8
 go_enter Tryz.func94,Tryz.ntmps94
 go_wp2_with (first
  | (go_at_call 134;refine cZ (H0.out _ HL0.out) ?_;rintro e w1 ⟨v0,rfl,h1,o1,r1⟩;obtain ⟨ad0,cp0,hv⟩:=yr r1;subst hv;(have O1:Hid (Ofw (fun k=>k=b) w w1):=o1);(have L1:Hid (Ln w0 V va b s1 w1):=h1);(have R0:Hid (w1.ownsRow B 3 1 (.slice ad0 a0.length cp0) a0.length (encL encI a0)):=zz r1 HSz.out.2.1);clear h1 o1 r1;(have HS1:Hid (w1.heap[S]?=some (.cells (sayC ⟨#[]⟩ 0 0 8 0 (.slice none 0 0) 0 0 0 0 (.slice none 0 0) (.slice none 0 0) (.slice none 0 0)) 74 (0,0))):=(O1.out.block S HSz.out.1 HSz.out.2.2.2).trans HS0.out);(have c10:=yd HS1.out 10);(have z10:=yu HS1.out 10))
  | (go_at_call 135;obtain ⟨Wa,hWa⟩:∃ Wa,w1.setCell ⟨S,10,none⟩ (.slice ad0 a0.length cp0)=Wa:=⟨_,rfl⟩;rw [hWa];(have OA:Hid (Ofw (fun k=>k=S) w1 Wa):=(by rw [<-hWa];exact zi _ _ _ _));(have HSa:Hid (Wa.heap[S]?=some (.cells (sayC ⟨#[]⟩ 0 0 8 0 (.slice none 0 0) 0 0 0 0 (.slice ad0 a0.length cp0) (.slice none 0 0) (.slice none 0 0)) 74 (0,0))):=(by rw [<-hWa];exact yD HS1.out 10 _));(have LA:Hid (Ln w0 V va b s1 Wa):=L1.out.say HSz.out.2.2.1 HSz.out.2.2.2 OA.out);(have RA:Hid (Wa.ownsRow B 3 1 (.slice ad0 a0.length cp0) a0.length (encL encI a0)):=xA R0.out (by decide) HS1.out OA.out);clear hWa;refine cZ (H1.out _ LA.out) ?_;rintro e w2 ⟨v1,vs,D,rfl,h1,o1,r1,rr1⟩;obtain ⟨ad1,cp1,hv⟩:=yr r1;subst hv;(have R2:Hid (w2.ownsRow B 3 1 (.slice ad0 a0.length cp0) a0.length (encL encI a0)/\w2.ownsRow B 58 1 (.slice ad1 a1.length cp1) a1.length vs/\RowsW w2 B D vs a1):=⟨Z0 RA.out (by decide) LA.out o1,zz r1 (Nat.le_trans HSz.out.2.1 (Nat.le_trans O1.out.size OA.out.size)),rr1.base (Nat.le_trans HSz.out.2.1 (Nat.le_trans O1.out.size OA.out.size))⟩);(have O2:Hid (Ofw (fun k=>k=b) Wa w2):=o1);(have L2:Hid (Ln w0 V va b s2 w2):=h1);clear h1 o1 r1 rr1;(have HS2:Hid (w2.heap[S]?=some (.cells (sayC ⟨#[]⟩ 0 0 8 0 (.slice none 0 0) 0 0 0 0 (.slice ad0 a0.length cp0) (.slice none 0 0) (.slice none 0 0)) 74 (0,0))):=(O2.out.block S (Array.getElem?_eq_some_iff.1 HSa.out).1 HSz.out.2.2.2).trans HSa.out);(have c12:=yd HS2.out 12);(have z12:=yu HS2.out 12)))
 go_end0
 have OF:Hid (Ofw (fun k=>k=S) w2 (w2.setCell ⟨S,12,none⟩ (.slice ad1 a1.length cp1))):=zi _ _ _ _
 exact ⟨rfl,L2.out.say HSz.out.2.2.1 HSz.out.2.2.2 OF.out,(((O1.out.less fun k hk=>.inl hk).trans (OA.out.less fun k hk=>.inr hk)).trans ((O2.out.less fun k hk=>.inl hk).trans (OF.out.less fun k hk=>.inr hk))),_,_,_,_,⟨yD HS2.out 12 _,yG _ B 87 2,xA R2.out.1 (by decide) HS2.out OF.out,yG _ B 3 1,vs,D,xA R2.out.2.1 (by decide) HS2.out OF.out,y4w R2.out.2.2 HS2.out OF.out⟩⟩
end Go.Proofs.YthohnmplbjhjaaaGreatDoor

namespace Go.Proofs.YthohnmplbjhjaaaGreatDoor
open Go Go.RowKit Go.Shelf Go.Lib
attribute [local go_sem] Oper.semAt_some
set_option maxRecDepth 100000 in
set_option maxHeartbeats 2000000 in
theorem y4M {w0:World} {V:List Md.Vr} {va:Value} {b:Nat} {s:St} (S B:Nat) (w:World) (h:Ln w0 V va b s w) (hS:w.heap[S]?=some (.cells (sayC ⟨#[]⟩ 0 0 7 0 (.slice none 0 0) 0 0 0 0 (.slice none 0 0) (.slice none 0 0) (.slice none 0 0)) 74 (0,0))) (hSw:w0.heap.size<=S) (hB:B<=w.heap.size):Calls Tryz.prog 92 #[.pointer (some ⟨b,0,none⟩),.pointer (some ⟨S,0,none⟩)] w (SO w0 V va b S B (xt V s) w):=by
 have hne:S≠b:=fun e=>by rw [e,h.o] at hS;injection hS with hS;injection hS with _ hS _;cases hS
 obtain ⟨a0,ha0⟩:∃ a,(yA V s).1=a:=⟨_,rfl⟩
 obtain ⟨s1,hs1⟩:∃ t,(yA V s).2=t:=⟨_,rfl⟩
 have H0:Hid (∀ w',Ln w0 V va b s w'->Calls Tryz.prog 71 #[.pointer (some ⟨b,0,none⟩)] w' (RO w0 V va b (.int .i64 a0) s1 w')):=fun w' h'=>by
  have:=xW w' h'
  rw [ha0,hs1] at this
  exact this
 obtain ⟨y,hy⟩:∃ y,(ye s1).1=y:=⟨_,rfl⟩
 obtain ⟨s2,hs2⟩:∃ t,(ye s1).2=t:=⟨_,rfl⟩
 have H1:Hid (∀ w',Ln w0 V va b s1 w'->Calls Tryz.prog 124 #[.pointer (some ⟨b,0,none⟩)] w' (RO w0 V va b (.string (yc y)) s2 w')):=fun w' h'=>by
  have:=xu w' h'
  rw [hy,hs2] at this
  exact this
 obtain ⟨sm,hsm⟩:∃ t,zt y [60,61] s2=t:=⟨_,rfl⟩
 have H2:Hid (∀ w',Ln w0 V va b s2 w'->Calls Tryz.prog 133 #[.pointer (some ⟨b,0,none⟩),.string (yc y),.string ⟨#[60,61]⟩] w' (RO w0 V va b (.tuple #[]) sm w')):=fun w' h'=>by
  have:=QY y [60,61] w' h'
  rw [hsm] at this
  exact this
 obtain ⟨a1,ha1⟩:∃ a,(yK sm).1=a:=⟨_,rfl⟩
 obtain ⟨s3,hs3⟩:∃ t,(yK sm).2=t:=⟨_,rfl⟩
 have H3:Hid (∀ w',Ln w0 V va b sm w'->Calls Tryz.prog 81 #[.pointer (some ⟨b,0,none⟩)] w' (RO w0 V va b (.int .i64 a1) s3 w')):=fun w' h'=>by
  have:=YE w' h'
  rw [ha1,hs3] at this
  exact this
 obtain ⟨a2,ha2⟩:∃ a,(yq (yQ V) s3).1=a:=⟨_,rfl⟩
 obtain ⟨s4,hs4⟩:∃ t,(yq (yQ V) s3).2=t:=⟨_,rfl⟩
 have H4:Hid (∀ w',Ln w0 V va b s3 w'->Calls Tryz.prog 82 #[.pointer (some ⟨b,0,none⟩)] w' (RL w0 V va b 87 2 a2.length (encL encT a2) s4 w')):=fun w' h'=>by
  have:=Xc w' h'
  rw [ha2,hs4] at this
  exact this
 have he:xt V s=(⟨zv,⟨7,0,a2,a1,0,a0,0,[],[],[]⟩⟩,s4):=by
  unfold xt
  simp only [ha0,hs1,hy,hs2,hsm,ha1,hs3,ha2,hs4]
 rw [he]
 have HL0:Hid (Ln w0 V va b s w):=h
 have HS0:Hid (w.heap[S]?=some (.cells (sayC ⟨#[]⟩ 0 0 7 0 (.slice none 0 0) 0 0 0 0 (.slice none 0 0) (.slice none 0 0) (.slice none 0 0)) 74 (0,0))):=hS
 have HSz:Hid (S<w.heap.size/\B<=w.heap.size/\w0.heap.size<=S/\S≠b):=⟨(Array.getElem?_eq_some_iff.1 hS).1,hB,hSw,hne⟩
 obtain ⟨Y,hY⟩:∃ Y,yc y=Y:=⟨_,rfl⟩
 rw [hY] at H1 H2
 have hm:Tryz.prog.follows .mixedOrders=true:=by kernel_rfl
 clear h hS hSw hB hne he ha0 hs1 hy hs2 hsm ha1 hs3 ha2 hs4 hY
 refine (callsIn_wide (n:=5)).1 ?_
 refine callsIn_of_wp_marks Tryz.func92 rfl trivial ?_ rfl
 simp only [Tryz.ntmps92,List.size_toArray,List.length_cons,List.length_nil,Nat.reduceAdd,Nat.reduceSub,Array.replicate_succ,Array.replicate_zero,List.push_toArray,List.append_toArray,List.nil_append,List.cons_append]
 gi_wp2_with (refine ⟨trivial,?_⟩;gi_at_call 71;refine (callsIn_wide.2 (H0.out _ HL0.out)).mono ?_;rintro e w1 ⟨rfl,h1,o1⟩;have O1:Hid (Ofw (fun k=>k=b) w w1):=o1;have L1:Hid (Ln w0 V va b s1 w1):=h1;clear h1 o1;have HS1:Hid (w1.heap[S]?=some (.cells (sayC ⟨#[]⟩ 0 0 7 0 (.slice none 0 0) 0 0 0 0 (.slice none 0 0) (.slice none 0 0) (.slice none 0 0)) 74 (0,0))):=(O1.out.block S HSz.out.1 HSz.out.2.2.2).trans HS0.out;have c8:=yd HS1.out 8;have z8:=yu HS1.out 8)
 obtain ⟨Wa,hWa⟩:∃ Wa,w1.setCell ⟨S,8,none⟩ (.int .i64 a0)=Wa:=⟨_,rfl⟩
 rw [hWa]
 have OA:Hid (Ofw (fun k=>k=S) w1 Wa):=by rw [<-hWa];exact zi _ _ _ _
 have HSa:Hid (Wa.heap[S]?=some (.cells (sayC ⟨#[]⟩ 0 0 7 0 (.slice none 0 0) 0 0 a0 0 (.slice none 0 0) (.slice none 0 0) (.slice none 0 0)) 74 (0,0))):=by rw [<-hWa];exact yD HS1.out 8 _
 have LA:Hid (Ln w0 V va b s1 Wa):=L1.out.say HSz.out.2.2.1 HSz.out.2.2.2 OA.out
 clear hWa c8 z8
 refine zW (fun w'=>w'.cell? ⟨0,1,none⟩=some (.string ⟨#[60,61]⟩)) (fun _=>True) [] hm ⟨LA.out.way.opw1,trivial⟩ (fun hHeld=>?_)
 refine yw (i:=0) (oi:=⟨some 10,.move (.tmp 0),_,_,_,none⟩) (v:=?v0) rfl (by kernel_rfl) (by kernel_rfl) (by kernel_rfl) (by kernel_rfl) (by kernel_rfl) yt ⟨Or.inl ⟨by rfl,?h0⟩,fun _=>rfl,fun _ e=>by cases e⟩ (by assumption) ?r0
 case h0=>(intro w hSw;(try dsimp only at hSw);go_simp;try (with_reducible rfl))
 try simp only [Act.put,qa,qb,qc]
 refine yw (i:=1) (oi:=⟨some 11,.move (.tmp 0),_,_,_,none⟩) (v:=?v1) rfl (by kernel_rfl) (by kernel_rfl) (by kernel_rfl) (by kernel_rfl) (by kernel_rfl) yt ⟨Or.inl ⟨by rfl,?h1⟩,fun _=>rfl,fun _ e=>by cases e⟩ (by assumption) ?r1
 case h1=>(intro w hSw;(try dsimp only at hSw);go_simp;try (with_reducible rfl))
 try simp only [Act.put,qa,qb,qc]
 refine yw (i:=3) (oi:=⟨some 13,.indexAddr 148 (.global 0) (.const (.int .i64 1)),_,_,_,none⟩) (v:=?v3) rfl (by kernel_rfl) (by kernel_rfl) (by kernel_rfl) (by kernel_rfl) (by kernel_rfl) yt ⟨Or.inl ⟨by rfl,?h3⟩,fun _=>rfl,fun _ e=>by cases e⟩ (by assumption) ?r3
 case h3=>(intro w hSw;(try dsimp only at hSw);go_simp;try (with_reducible rfl))
 try simp only [Act.put,qa,qb,qc]
 refine yw (i:=4) (oi:=⟨some 14,.load 9 (.tmp 13),_,_,_,none⟩) (v:=?v4) rfl (by kernel_rfl) (by kernel_rfl) (by kernel_rfl) (by kernel_rfl) (by kernel_rfl) yt ⟨Or.inl ⟨by rfl,?h4⟩,fun _=>rfl,fun _ e=>by cases e⟩ (by assumption) ?r4
 case h4=>(intro w hSw;(try dsimp only at hSw);go_simp;try (with_reducible rfl))
 try simp only [Act.put,qa,qb,qc]
 refine yo (i:=2) (o:=⟨some 12,.call { callee:=.value (.func 124),args:=#[.tmp 11],argTypes:=#[113] },_,_,_,none⟩) (by kernel_rfl) rfl (fun K hK=>?_)
 go_simp
 gi_wp2_with (refine ⟨trivial,?_⟩;gi_at_call 124;refine (callsIn_wide.2 (H1.out _ (LA.out.below (Below.refl _ _).drew))).mono ?_;rintro e w2 ⟨rfl,h1,o1⟩;have O2:Hid (Ofw (fun k=>k=b) Wa w2):=(Ofw.of_below (Below.refl _ _).drew).trans o1;have L2:Hid (Ln w0 V va b s2 w2):=h1;clear h1 o1)
 refine hK.out _ _ ⟨L2.out.way.opw1,fun _=>trivial⟩ ?_
 clear hK K
 try simp only [Act.put,qa,qb,qc]
 refine yo (i:=5) (o:=⟨some 15,.call { callee:=.value (.func 133),args:=#[.tmp 10,.tmp 12,.tmp 14],argTypes:=#[113,9,9] },_,_,_,none⟩) (by kernel_rfl) rfl (fun K hK=>?_)
 go_simp
 gi_wp2_with (refine ⟨trivial,?_⟩;gi_at_call 133;refine (callsIn_wide.2 (H2.out _ L2.out)).mono ?_;rintro e w3 ⟨rfl,h1,o1⟩;have O3:Hid (Ofw (fun k=>k=b) Wa w3):=O2.out.trans o1;have L3:Hid (Ln w0 V va b sm w3):=h1;clear h1 o1)
 refine hK.out _ _ ⟨L3.out.way.opw1,fun _=>trivial⟩ ?_
 clear hK K
 try simp only [Act.put,qa,qb,qc]
 refine yZ (by kernel_rfl) ⟨rfl,?_⟩ _
 gi_wp2_with (first
  | (refine ⟨trivial,?_⟩;gi_at_call 81;refine (callsIn_wide.2 (H3.out _ L3.out)).mono ?_;rintro e w4 ⟨rfl,h1,o1⟩;have O4:Hid (Ofw (fun k=>k=b) Wa w4):=O3.out.trans o1;have L4:Hid (Ln w0 V va b s3 w4):=h1;clear h1 o1)
  | (refine ⟨trivial,?_⟩;gi_at_call 82;refine (callsIn_wide.2 (H4.out _ L4.out)).mono ?_;rintro e w5 ⟨v5,rfl,h1,o1,r1⟩;obtain ⟨ad,cp,hv⟩:=yr r1;subst hv;have O5:Hid (Ofw (fun k=>k=b) Wa w5):=O4.out.trans o1;have L5:Hid (Ln w0 V va b s4 w5):=h1;have R5:Hid (w5.ownsRow B 87 2 (.slice ad a2.length cp) a2.length (encL encT a2)):=zz r1 (Nat.le_trans HSz.out.2.1 (Nat.le_trans O1.out.size (Nat.le_trans OA.out.size O4.out.size)));clear h1 o1 r1;have HS5:Hid (w5.heap[S]?=some (.cells (sayC ⟨#[]⟩ 0 0 7 0 (.slice none 0 0) 0 0 a0 0 (.slice none 0 0) (.slice none 0 0) (.slice none 0 0)) 74 (0,0))):=(O5.out.block S (Array.getElem?_eq_some_iff.1 HSa.out).1 HSz.out.2.2.2).trans HSa.out;have c6:=yd HS5.out 6;have z6:=yu HS5.out 6;have c5:=yd HS5.out 5;have z5:=yu HS5.out 5))
 have OF:Hid (Ofw (fun k=>k=S) w5 ((w5.setCell ⟨S,6,none⟩ (.int .i64 a1)).setCell ⟨S,5,none⟩ (.slice ad a2.length cp))):=(zi _ _ _ _).trans (zi _ _ _ _)
 refine ⟨_,results_none rfl _ _ _,?_⟩
 exact ⟨rfl,L5.out.say HSz.out.2.2.1 HSz.out.2.2.2 OF.out,(((O1.out.less fun k hk=>.inl hk).trans (OA.out.less fun k hk=>.inr hk)).trans ((O5.out.less fun k hk=>.inl hk).trans (OF.out.less fun k hk=>.inr hk))),_,_,_,_,⟨yD (yD HS5.out 6 _) 5 _,xA R5.out (by decide) HS5.out OF.out,yG _ B 3 1,yG _ B 3 1,_,0,yG _ B 58 1,xB _ B 0⟩⟩
end Go.Proofs.YthohnmplbjhjaaaGreatDoor

namespace Go.Proofs.YthohnmplbjhjaaaGreatDoor
open Go Go.RowKit Go.Shelf Go.Lib
set_option maxRecDepth 10000 in
set_option maxHeartbeats 2000000 in
theorem y4i (k:Nat) (m:Md.Mo) (va:Option Addr) (vp:Nat) (ca:Option Addr) (cp:Nat) (vg:Value) (w:World):Calls Tryz.prog 110 #[.int .i64 (k:Int),.agg #[.slice va m.vars.length vp,.slice ca m.cons.length cp,.bool m.has,vg]] w fun e w'=>e=.returned (.int .i64 (yY k m))/\Below w.heap.size w w':=by
  obtain ⟨W,hW⟩:∃ W,w.alloc (.cells #[.slice va m.vars.length vp,.slice ca m.cons.length cp,.bool m.has,vg] 26)=W:=⟨_,rfl⟩
  have HB:Hid (Below w.heap.size w W):=by show Below _ _ _;rw [<-hW];exact (Below.refl _ _).alloc (Nat.le_refl _) _
  have hN:W.heap[w.heap.size]?=some (.cells #[.slice va m.vars.length vp,.slice ca m.cons.length cp,.bool m.has,vg] 26):=by rw [<-hW];exact heap_alloc_new w _
  obtain ⟨⟨p0,p1,p2,p3⟩,_⟩:=box4 hN
  obtain ⟨nv,hnv⟩:∃ nv,m.vars.length=nv:=⟨_,rfl⟩
  obtain ⟨nc,hnc⟩:∃ nc,m.cons.length=nc:=⟨_,rfl⟩
  obtain ⟨hs,hhs⟩:∃ hs,m.has=hs:=⟨_,rfl⟩
  have HR:Hid (yY k m=if k=10/\nv=32 then 40 else if k=11/\hs=true then 58 else if k<=9/\nc=64 then 49 else 0):=by show _=_;unfold yY;rw [hnv,hnc,hhs]
  obtain ⟨R,hR⟩:∃ R,yY k m=R:=⟨_,rfl⟩
  rw [hR] at HR ⊢
  rw [hnv,hnc,hhs] at hW ⊢
  rw [hnv] at p0
  rw [hnc] at p1
  rw [hhs] at p2
  clear hR hnv hnc hhs hN
  by_cases k10:k=10
  · subst k10
    by_cases h1:nv=32
    · subst h1
      have HRR:Hid ((40:Int)=R):=by show _=_;rw [HR.out];simp
      clear HR
      go_enter Tryz.func110,Tryz.ntmps110
      go_wp2
      go_ret
      exact ⟨yB HRR.out,HB.out⟩
    · have h1':((nv:Int)==32)=false:=by simp;omega
      have HRR:Hid ((0:Int)=R):=by show _=_;rw [HR.out];simp [h1]
      clear HR h1
      go_enter Tryz.func110,Tryz.ntmps110
      go_wp2
      go_ret
      exact ⟨yB HRR.out,HB.out⟩
  · have k10':((k:Int)==10)=false:=by simp;omega
    by_cases k11:k=11
    · subst k11
      clear k10 k10'
      cases hs with
      | true =>
        have HRR:Hid ((58:Int)=R):=by show _=_;rw [HR.out];simp
        clear HR
        go_enter Tryz.func110,Tryz.ntmps110
        go_wp2
        go_ret
        exact ⟨yB HRR.out,HB.out⟩
      | false =>
        have HRR:Hid ((0:Int)=R):=by show _=_;rw [HR.out];simp
        clear HR
        go_enter Tryz.func110,Tryz.ntmps110
        go_wp2
        go_ret
        exact ⟨yB HRR.out,HB.out⟩
    · have k11':((k:Int)==11)=false:=by simp;omega
      by_cases k9:k<=9
      · have k9':decide ((k:Int)<=9)=true:=decide_eq_true (by omega)
        by_cases h1:nc=64
        · subst h1
          have HRR:Hid ((49:Int)=R):=by show _=_;rw [HR.out];simp [k10,k11,k9]
          clear HR k10 k11 k9
          go_enter Tryz.func110,Tryz.ntmps110
          go_wp2
          go_ret
          exact ⟨yB HRR.out,HB.out⟩
        · have h1':((nc:Int)==64)=false:=by simp;omega
          have HRR:Hid ((0:Int)=R):=by show _=_;rw [HR.out];simp [k10,k11,h1]
          clear HR k10 k11 k9 h1
          go_enter Tryz.func110,Tryz.ntmps110
          go_wp2
          go_ret
          exact ⟨yB HRR.out,HB.out⟩
      · have k9':decide ((k:Int)<=9)=false:=decide_eq_false (by omega)
        have HRR:Hid ((0:Int)=R):=by show _=_;rw [HR.out];simp [k10,k11,k9]
        clear HR k10 k11 k9
        go_enter Tryz.func110,Tryz.ntmps110
        go_wp2
        go_ret
        exact ⟨yB HRR.out,HB.out⟩
end Go.Proofs.YthohnmplbjhjaaaGreatDoor
