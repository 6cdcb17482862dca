import Derived.Test.YtjgghimjnbjlbaaGreatDoorJ04
import Derived.Test.YtjgghimjnbjlbaaGreatDoorJ37
import Derived.Test.YtjgghimjnbjlbaaGreatDoorJ38
namespace Go.Proofs.YtjgghimjnbjlbaaGreatDoor
open Go.RowKit
set_option maxRecDepth 10000
set_option maxHeartbeats 8000000
theorem KJ {rd:List UInt8->Ls->Ls} (hr:∀ x s,(rd x s).1=s.1):∀ (n:Nat) (s:Ls),(lstP rd n s).1.length<=s.1.length
  | 0,_=>Nat.zero_le _
  | n + 1, s => by
    unfold lstP
    split
    · rename_i hk
      have h1:=KJ hr n (rd (yg s).1.1 (yg s).2);rw [hr] at h1;have h2:=(xX hk).1;simp only [List.length_cons];omega
    · exact Nat.zero_le _
theorem y5m (s:Ls):(idsP s).1.length<=s.1.length:=KJ (fun x s=>xx x 1 s) _ _
def idsV (l:List (List UInt8)):List Value:=l.map fun x=>.string (yd x)
theorem KK (l:List (List UInt8)):∀ u∈idsV l,u.oneCell'=true:=fun u hu=>by
  obtain ⟨x,_,rfl⟩:=List.mem_map.1 hu;rfl
theorem y5n {B b q:Nat} {s:Ls} {cs:Array Value} (w:World) (h:LnAt w b s) (hst:StAt w q cs) (hB:B<=b) (hBq:B<=q) (hbq:q≠b):Calls Tryz.prog 144 #[.pointer (some ⟨b,0,none⟩),.pointer (some ⟨q,0,none⟩)] w (RO B b q w (fun cs' w'=>∃ vi,cs'=cs.setIfInBounds 6 vi/\w'.ownsRow w.heap.size 9 1 vi (1+(idsP (eqS s)).1.length) (idsV (eqY s :: (idsP (eqS s)).1))) (idsP (eqS s)).2):=by
  have hn:=h.n;have hql:=hst.lt;have hbl:=h.lt;have hBw:B<=w.heap.size:=by omega
  have HN:Hid (∀ w' s',LnAt w' b s'->Calls Tryz.prog 127 #[.pointer (some ⟨b,0,none⟩)] w' (LO B b (.string (yd (ye s').1)) (ye s').2 w')):=fun w' s' h'=>zQ w' h' hB
  have HI:Hid (∀ w' s',LnAt w' b s'->Calls Tryz.prog 189 #[.pointer (some ⟨b,0,none⟩),.string (yd (ye s).1)] w' (LO B b (.string (yd (ye s).1)) (yr (ye s).1 1 s') w')):=fun w' s' h'=>Yo _ w' h' hB (Nat.le_trans (zw s) hn)
  have HD:Hid (∀ w' s',LnAt w' b s'->Calls Tryz.prog 188 #[.pointer (some ⟨b,0,none⟩),.func (.func 189) #[.pointer (some ⟨b,0,none⟩)] #[]] w' (LOr B b 9 (idsV (idsP s').1) (idsP s').2 w')):=fun w' s' h'=>KL w' h' hB
  have hil:(idsP (eqS s)).1.length<=9000000:=Nat.le_trans (y5m _) (by unfold eqS;rw [xx];exact Nat.le_trans (zR s) hn);have HS:Hid (StAt w q cs):=hst;have HL:Hid (LnAt w b s):=h;clear h hst;go_enter Tryz.func144,Tryz.ntmps144;go_wp2_with fail
  refine cA (HN.out w _ HL.out) ?_;rintro e w1 ⟨rfl,h1,h2⟩;have H1:Hid (LnAt w1 b (ye s).2/\SStp B (fun k=>k=b) w w1):=⟨h1,h2⟩;clear h1 h2;go_wp2_with fail
  refine cA (HI.out w1 _ H1.out.1) ?_;rintro e w2 ⟨rfl,h1,h2⟩;have H2:Hid (LnAt w2 b (eqS s)/\SStp B (fun k=>k=b) w w2):=⟨h1,H1.out.2.trans h2⟩;clear h1 h2;obtain ⟨Y,hY⟩:∃ Y,w2.alloc (.cells #[.string (yd (ye s).1)] 9)=Y:=⟨_,rfl⟩;have hbY:Below w2.heap.size w2 Y:=bAe hY;have HY:Hid (Y.ownsRow w.heap.size 9 1 (.slice (some ⟨w2.heap.size,0,none⟩) 1 1) 1 (idsV [eqY s])/\LnAt Y b (eqS s)/\SStp B (fun k=>k=b) w Y):=⟨by rw [<-hY];exact World.ownsRow_lit w2 #[.string (yd (ye s).1)] 1 H2.out.2.off.size (by decide) rfl,H2.out.1.below hbY,H2.out.2.next hbY (Nat.le_trans hBw H2.out.2.off.size)⟩;clear hbY;go_wp2_with fail
  refine cA (HD.out Y _ HY.out.2.1) ?_;rintro e w3 ⟨v,rfl,h0,h1,h2⟩;have hlen:(idsV (idsP (eqS s)).1).length=(idsP (eqS s)).1.length:=by unfold idsV;rw [List.length_map]
  rw [hlen] at h0;have H3:Hid (w3.ownsRow w.heap.size 9 1 (.slice (some ⟨w2.heap.size,0,none⟩) 1 1) 1 (idsV [eqY s])/\w3.ownsRow w.heap.size 9 1 v (idsP (eqS s)).1.length (idsV (idsP (eqS s)).1)/\LnAt w3 b (idsP (eqS s)).2/\SStp B (fun k=>k=b) w w3):=⟨zD HY.out.1 h2 hbl,yM h0 HY.out.2.2.off.size,h1,HY.out.2.2.trans h2⟩;obtain ⟨va,vc,hvs⟩:=yv h0;subst hvs;clear h0 h1 h2 hlen hY;obtain ⟨Z,hZ⟩:∃ Z,w3.alloc (.cells #[.slice (some ⟨w2.heap.size,0,none⟩) 1 1,.slice va (idsP (eqS s)).1.length vc] 60)=Z:=⟨_,rfl⟩;have hbZ:Below w3.heap.size w3 Z:=bAe hZ
  have HZ:Hid (Calls Tryz.prog 194 #[.slice (some ⟨w3.heap.size,0,none⟩) 2 2] Z fun e w'=>∃ v,e=.returned v/\w'.ownsRow Z.heap.size 9 1 v (1+(idsP (eqS s)).1.length) (idsV [eqY s]++idsV (idsP (eqS s)).1)/\Below Z.heap.size Z w'):=y5k Z (hAe hZ) (Yn H3.out.1 hbZ) (Yn H3.out.2.1 hbZ) (KK _) (KK _) (by decide) (by decide) hil;have HZ2:Hid (LnAt Z b (idsP (eqS s)).2/\SStp B (fun k=>k=b) w Z):=⟨H3.out.2.2.1.below hbZ,H3.out.2.2.2.next hbZ (Nat.le_trans hBw H3.out.2.2.2.off.size)⟩;clear hbZ;go_wp2_with fail
  refine cA HZ.out ?_;rintro e w4 ⟨v4,rfl,h0,h1⟩;have hs4:SStp B (fun k=>k=b) w w4:=HZ2.out.2.next h1 (Nat.le_trans hBw HZ2.out.2.off.size);have hS4:=HS.out.stp hs4 hbq;obtain ⟨u6,c6⟩:=hS4.cell 6 (by omega);have z6:=yl hS4.o 6;have HE:Hid (RO B b q w (fun cs' w'=>∃ vi,cs'=cs.setIfInBounds 6 vi/\w'.ownsRow w.heap.size 9 1 vi (1+(idsP (eqS s)).1.length) (idsV (eqY s :: (idsP (eqS s)).1))) (idsP (eqS s)).2 (.returned (.tuple #[])) (w4.setCell ⟨q,6,none⟩ v4)):=by
    obtain ⟨a1,a2,a3⟩:=zd hS4 (HZ2.out.1.below h1) (hs4.more fun _ hk=>.inl hk) hBq hbq 6 v4;exact ⟨rfl,_,a1,⟨v4,rfl,zj (yM h0 HZ2.out.2.off.size) hql⟩,a2,a3⟩
  obtain ⟨wa,wc,hws⟩:=yv h0;subst hws;clear h0 h1 hs4 hS4;go_wp2_with fail
  go_end0;exact HE.out
end Go.Proofs.YtjgghimjnbjlbaaGreatDoor
