import Derived.Test.YtjgghimjnbjlbaaGreatDoorJ04
import Derived.Test.YtjgghimjnbjlbaaGreatDoorJ21
import Derived.Test.YtjgghimjnbjlbaaGreatDoorMdRegT
namespace Go.Proofs.YtjgghimjnbjlbaaGreatDoor
open Go.RowKit
set_option maxRecDepth 10000
set_option maxHeartbeats 8000000
theorem Cy.next {W w1 w2:World} {N:Nat} {a b d:Value} (h:w1.cell? ⟨N,0,none⟩=some a/\w1.cell? ⟨N,1,none⟩=some b/\w1.cell? ⟨N,3,none⟩=some d/\Below W.heap.size W w1) (hb:Below w1.heap.size w1 w2):w2.cell? ⟨N,0,none⟩=some a/\w2.cell? ⟨N,1,none⟩=some b/\w2.cell? ⟨N,3,none⟩=some d/\Below W.heap.size W w2:=
  ⟨yA hb h.1,yA hb h.2.1,yA hb h.2.2.1,h.2.2.2.trans (hb.mono h.2.2.2.size)⟩
theorem Cz.next {W w1 w2:World} {A1 A2 A3 A4:Addr} {a b c d:Value} (h:w1.cell? A1=some a/\w1.cell? A2=some b/\w1.cell? A3=some c/\w1.cell? A4=some d/\Below W.heap.size W w1) (hb:Below w1.heap.size w1 w2):w2.cell? A1=some a/\w2.cell? A2=some b/\w2.cell? A3=some c/\w2.cell? A4=some d/\Below W.heap.size W w2:=
  ⟨yA hb h.1,yA hb h.2.1,yA hb h.2.2.1,yA hb h.2.2.2.1,h.2.2.2.2.trans (hb.mono h.2.2.2.2.size)⟩
theorem Xk (m:Md.Mo) (vv vc vg:Value) (w:World) (h:MoAt w m vv vc vg) (hs:m.vars.length<=4398046511104/\m.cons.length<=977343669134/\m.goal.length<=8796093022208) (hsc:∀ c∈m.cons,c.terms.length<=8796093022208/\c.xs.length<=17592186044416/\c.table.length<=17592186044416/\c.rows.length<=5864062014805/\∀ r∈c.rows,r.length<=17592186044416):Calls Tryz.prog 19 #[yp m vv vc vg] w (Y3 w m):=by
  have HV:Hid (MSrc w vv m.vars.length 3 (zC m.vars)):=h.v.src;have HG:Hid (MSrc w vg m.goal.length 2 (zp m.goal)):=h.g.src;obtain ⟨D,hD1,hD2⟩:=ConsAt.srcs h.c;have HC36:Hid (∀ w',Below w.heap.size w w'->Calls Tryz.prog 43 #[vv] w' fun e w''=>∃ v,e=.returned v/\w''.ownsRow w'.heap.size 49 3 v m.vars.length (zC m.vars)/\Below w'.heap.size w' w''):=fun w' hb=>y2Z _ _ _ w' (HV.out.below hb) hs.1
  have HC37:Hid (∀ w',Below w.heap.size w w'->Calls Tryz.prog 44 #[vc] w' fun e w''=>∃ v,e=.returned v/\w''.ownsRow w'.heap.size 51 10 v m.cons.length ((List.range m.cons.length).flatMap fun j=>yJ (m.cons.getD j ⟨0,0,[],0,0,0,0,[],[],[]⟩) (D j).1 (D j).2.1 (D j).2.2.1 (D j).2.2.2)/\Below w'.heap.size w' w''):=fun w' hb=>y30 _ _ _ w' (hD1.below hb) hs.2.1
  have HC38:Hid (∀ w',Below w.heap.size w w'->Calls Tryz.prog 45 #[vg] w' fun e w''=>∃ v,e=.returned v/\w''.ownsRow w'.heap.size 67 2 v m.goal.length (zp m.goal)/\Below w'.heap.size w' w''):=fun w' hb=>Qv _ _ _ w' (HG.out.below hb) hs.2.2
  have HD:Hid (∀ j (h:j<m.cons.length),CnAt w m.cons[j] (D j).1 (D j).2.1 (D j).2.2.1 (D j).2.2.2):=hD2;have HL:Hid (m.vars.length<=4398046511104/\m.cons.length<=977343669134/\m.goal.length<=8796093022208):=hs;have HSc:Hid (∀ c∈m.cons,c.terms.length<=8796093022208/\c.xs.length<=17592186044416/\c.table.length<=17592186044416/\c.rows.length<=5864062014805/\∀ r∈c.rows,r.length<=17592186044416):=hsc;have HNm:Hid (∀ x∈m.vars,x.name.size<=maxLen):=by
    obtain ⟨_,_,_,_,hn,_⟩:=h.v;exact hn
  obtain ⟨W,hW⟩:∃ W,(w.alloc (.cells #[vv,vc,.bool m.has,vg] 26)).alloc (.cells #[.slice none 0 0,.slice none 0 0,.bool false,.slice none 0 0] 26)=W:=⟨_,rfl⟩;have hbW:Below w.heap.size w W:=by rw [<-hW];exact ((Below.refl _ _).alloc (Nat.le_refl _) _).alloc (by simp) _
  have hN:W.heap[w.heap.size]?=some (.cells #[vv,vc,.bool m.has,vg] 26):=by
    rw [<-hW,Below.heap_alloc _ _ _ (by simp)];exact heap_alloc_new w _
  have hN1:W.heap[w.heap.size+1]?=some (.cells #[.slice none 0 0,.slice none 0 0,.bool false,.slice none 0 0] 26):=by
    rw [<-hW];have:=heap_alloc_new (w.alloc (.cells #[vv,vc,.bool m.has,vg] 26)) (.cells #[.slice none 0 0,.slice none 0 0,.bool false,.slice none 0 0] 26);simpa using this
  have hWs:W.heap.size=w.heap.size+2:=by rw [<-hW];simp
  have HBW:Hid (∀ {w'},Below W.heap.size W w'->Below w.heap.size w w'):=fun hb=>hbW.trans (hb.mono hbW.size)
  have HN:Hid (W.heap[w.heap.size]?=some (.cells #[vv,vc,.bool m.has,vg] 26)):=hN;have HN1:Hid (W.heap[w.heap.size+1]?=some (.cells #[.slice none 0 0,.slice none 0 0,.bool false,.slice none 0 0] 26)):=hN1;have HNl:Hid (w.heap.size<W.heap.size):=(hLt hN);have HWs:Hid (W.heap.size=w.heap.size+2):=hWs;obtain ⟨⟨p0,p1,p2,p3⟩,_⟩:=box4 hN;have hS0:Hid (W.cell? ⟨w.heap.size,0,none⟩=some vv/\W.cell? ⟨w.heap.size,1,none⟩=some vc/\W.cell? ⟨w.heap.size,3,none⟩=some vg/\Below W.heap.size W W):=⟨p0,p1,p3,Below.refl _ _⟩;unfold yp;clear h hbW hN hN1 hWs hD1 hD2 hs hsc p0 p1 p2 p3;go_enter Tryz.func19,Tryz.ntmps19;go_wp2_with fail
  clear hW;refine zt (fun _=>True) (fun w'=>w'.cell? ⟨w.heap.size,0,none⟩=some vv/\w'.cell? ⟨w.heap.size,1,none⟩=some vc/\w'.cell? ⟨w.heap.size,3,none⟩=some vg/\Below W.heap.size W w') [10,12,14] (by kernel_rfl) ⟨trivial,Cy.next hS0.out (Below.refl _ _).drew⟩ (fun hHeld=>?_);refine tB (i:=0) (oi:=⟨some 7,.fieldAddr 26 (.tmp 1) 0,_,_,_,none⟩) (v:=?v_aa) ?hy_aa (by assumption) ?rest_aa
  case hy_aa=>(intro w hSw;(try dsimp only at hSw);go_simp;try (with_reducible rfl))
  try simp only [Act.put,q1,q2,q3]
  refine tA (i:=1) (oi:=⟨some 8,.load 22 (.tmp 7),_,_,_,none⟩) (v:=?v_ab) ?hy_ab (by assumption) ?rest_ab
  case hy_ab=>(intro w hSw;(try dsimp only at hSw);go_simp;try (with_reducible rfl))
  try simp only [Act.put,q1,q2,q3]
  refine tB (i:=3) (oi:=⟨some 10,.fieldAddr 26 (.tmp 1) 1,_,_,_,none⟩) (v:=?v_ac) ?hy_ac (by assumption) ?rest_ac
  case hy_ac=>(intro w hSw;(try dsimp only at hSw);go_simp;try (with_reducible rfl))
  try simp only [Act.put,q1,q2,q3]
  refine tA (i:=4) (oi:=⟨some 11,.load 23 (.tmp 10),_,_,_,none⟩) (v:=?v_ad) ?hy_ad (by assumption) ?rest_ad
  case hy_ad=>(intro w hSw;(try dsimp only at hSw);go_simp;try (with_reducible rfl))
  try simp only [Act.put,q1,q2,q3]
  refine tB (i:=6) (oi:=⟨some 13,.fieldAddr 26 (.tmp 1) 3,_,_,_,none⟩) (v:=?v_ae) ?hy_ae (by assumption) ?rest_ae
  case hy_ae=>(intro w hSw;(try dsimp only at hSw);go_simp;try (with_reducible rfl))
  try simp only [Act.put,q1,q2,q3]
  refine tA (i:=7) (oi:=⟨some 14,.load 24 (.tmp 13),_,_,_,none⟩) (v:=?v_af) ?hy_af (by assumption) ?rest_af
  case hy_af=>(intro w hSw;(try dsimp only at hSw);go_simp;try (with_reducible rfl))
  try simp only [Act.put,q1,q2,q3]
  refine yF (i:=2) (o:=⟨some 9,.call { callee:=.value (.func 43),args:=#[.tmp 8],argTypes:=#[22] },_,_,_,none⟩) (by kernel_rfl) rfl (fun K hK=>?_);go_simp;refine mcA (HC36.out _ (HBW.out hHeld.2.2.2.2)) ?_;rintro e w1 ⟨v1,rfl,ho1,hb1⟩;obtain ⟨a1,c1,rfl⟩:=x8 ho1;go_wp2_with fail
  have HO1:Hid (w1.ownsRow W.drew.heap.size 49 3 (.slice a1 m.vars.length c1) m.vars.length (zC m.vars)):=ho1;have hHw1:True/\(w1.cell? ⟨w.heap.size,0,none⟩=some vv/\w1.cell? ⟨w.heap.size,1,none⟩=some vc/\w1.cell? ⟨w.heap.size,3,none⟩=some vg/\Below W.heap.size W w1):=⟨trivial,Cy.next hHeld.2 hb1⟩;have HB1:Hid (Below W.drew.heap.size W.drew w1):=hb1;clear ho1 hb1;refine hK.out _ _ ⟨trivial,fun _=>hHw1.2⟩ ?_;clear hK K;try simp only [Act.put,q1,q2,q3]
  refine tB (i:=9) (oi:=⟨some 16,.fieldAddr 26 (.tmp 1) 0,_,_,_,none⟩) (v:=?v_ag) ?hy_ag (by assumption) ?rest_ag
  case hy_ag=>(intro w hSw;(try dsimp only at hSw);go_simp;try (with_reducible rfl))
  try simp only [Act.put,q1,q2,q3]
  refine yF (i:=5) (o:=⟨some 12,.call { callee:=.value (.func 44),args:=#[.tmp 11],argTypes:=#[23] },_,_,_,none⟩) (by kernel_rfl) rfl (fun K hK=>?_);go_simp;refine mcA (HC37.out _ (HBW.out hHw1.2.2.2.2)) ?_;rintro e w2 ⟨v2,rfl,ho2,hb2⟩;obtain ⟨a2,c2,rfl⟩:=x8 ho2;go_wp2_with fail
  have HO2:Hid (w2.ownsRow w1.heap.size 51 10 (.slice a2 m.cons.length c2) m.cons.length ((List.range m.cons.length).flatMap fun j=>yJ (m.cons.getD j ⟨0,0,[],0,0,0,0,[],[],[]⟩) (D j).1 (D j).2.1 (D j).2.2.1 (D j).2.2.2)):=ho2;have hHw2:True/\(w2.cell? ⟨w.heap.size,0,none⟩=some vv/\w2.cell? ⟨w.heap.size,1,none⟩=some vc/\w2.cell? ⟨w.heap.size,3,none⟩=some vg/\Below W.heap.size W w2):=⟨trivial,Cy.next hHw1.2 hb2⟩;have HB2:Hid (Below w1.heap.size w1 w2):=hb2;clear ho2 hb2;refine hK.out _ _ ⟨trivial,fun _=>hHw2.2⟩ ?_;clear hK K;try simp only [Act.put,q1,q2,q3]
  refine yF (i:=8) (o:=⟨some 15,.call { callee:=.value (.func 45),args:=#[.tmp 14],argTypes:=#[24] },_,_,_,none⟩) (by kernel_rfl) rfl (fun K hK=>?_);go_simp;refine mcA (HC38.out _ (HBW.out hHw2.2.2.2.2)) ?_;rintro e w3 ⟨v3,rfl,ho3,hb3⟩;obtain ⟨a3,c3,rfl⟩:=x8 ho3;go_wp2_with fail
  have HO3:Hid (w3.ownsRow w2.heap.size 67 2 (.slice a3 m.goal.length c3) m.goal.length (zp m.goal)):=ho3;have hHw3:True/\(w3.cell? ⟨w.heap.size,0,none⟩=some vv/\w3.cell? ⟨w.heap.size,1,none⟩=some vc/\w3.cell? ⟨w.heap.size,3,none⟩=some vg/\Below W.heap.size W w3):=⟨trivial,Cy.next hHw2.2 hb3⟩;have HB3:Hid (Below w2.heap.size w2 w3):=hb3;clear ho3 hb3;obtain ⟨_,hz3⟩:=box4 ((hHw3.2.2.2.2.block _ HNl.out).trans HN.out);have hz30:=hz3 0;have hz31:=hz3 1;have hz33:=hz3 3;obtain ⟨i30,i31,i33,_⟩:=hHw3.2;clear hz3;refine hK.out _ _ ⟨trivial,fun _=>hHw3.2⟩ ?_;clear hK K;try simp only [Act.put,q1,q2,q3]
  refine yX (i:=10) (o:=⟨none,.store 22 (.tmp 16) (.tmp 9),_,_,_,none⟩) (by kernel_rfl) rfl (by kernel_rfl) (fun K hK=>?_);go_simp;refine hK.out _ _ ?sh_aq ?rest_aq
  case sh_aq=>((try dsimp only);all_goals trivial)
  clear hK K;try simp only [Act.put,q1,q2,q3]
  refine yX (i:=11) (o:=⟨some 17,.fieldAddr 26 (.tmp 1) 1,_,_,_,none⟩) (by kernel_rfl) rfl (by kernel_rfl) (fun K hK=>?_);go_simp;refine hK.out _ _ ?sh_ar ?rest_ar
  case sh_ar=>((try dsimp only);all_goals trivial)
  clear hK K;try simp only [Act.put,q1,q2,q3]
  refine yX (i:=12) (o:=⟨none,.store 23 (.tmp 17) (.tmp 12),_,_,_,none⟩) (by kernel_rfl) rfl (by kernel_rfl) (fun K hK=>?_);go_simp;refine hK.out _ _ ?sh_as ?rest_as
  case sh_as=>((try dsimp only);all_goals trivial)
  clear hK K;try simp only [Act.put,q1,q2,q3]
  refine yX (i:=13) (o:=⟨some 18,.fieldAddr 26 (.tmp 1) 3,_,_,_,none⟩) (by kernel_rfl) rfl (by kernel_rfl) (fun K hK=>?_);go_simp;refine hK.out _ _ ?sh_at ?rest_at
  case sh_at=>((try dsimp only);all_goals trivial)
  clear hK K;try simp only [Act.put,q1,q2,q3]
  refine yX (i:=14) (o:=⟨none,.store 24 (.tmp 18) (.tmp 15),_,_,_,none⟩) (by kernel_rfl) rfl (by kernel_rfl) (fun K hK=>?_);go_simp;refine hK.out _ _ ?sh_au ?rest_au
  case sh_au=>((try dsimp only);all_goals trivial)
  clear hK K;try simp only [Act.put,q1,q2,q3]
  refine zu (by kernel_rfl) ?_ _;obtain ⟨W5,hW5⟩:∃ W5,(((w3.setCell ⟨w.heap.size,0,none⟩ (.slice a1 m.vars.length c1)).setCell ⟨w.heap.size,1,none⟩ (.slice a2 m.cons.length c2)).setCell ⟨w.heap.size,3,none⟩ (.slice a3 m.goal.length c3))=W5:=⟨_,rfl⟩;have HI0:Hid (CopyI w m (.slice a1 m.vars.length c1) (.slice a2 m.cons.length c2) (.slice a3 m.goal.length c3) 0 W5):=by
    show CopyI _ _ _ _ _ _ _;rw [<-hW5];exact y31 HN.out HN1.out HWs.out (HBW.out (Below.refl _ _)) hHw1.2.2.2.2 HB2.out HB3.out HO1.out HO2.out HO3.out HD.out HNm.out (by have:=HL.out.1;unfold maxLen;omega) (by have:=HL.out.2.2;unfold maxLen;omega)
  rw [hW5];clear hW5 hHw1 hHw2 hHw3 HO1 HO2 HO3 HB1 HB2 HB3 HD HC36 HC37 HC38 HV HG hHeld hS0 HN HN1 HNl hz30 hz31 hz33 i30 i31 i33;obtain ⟨⟨p0,p1,p2,p3⟩,_⟩:=box4 HI0.out.box;go_wp2_with fail
  go_loopw [22] (fun iv wr=>∃ k:Nat,iv=.int .i64 (k:Int)/\k<=m.cons.length/\Hid (CopyI w m (.slice a1 m.vars.length c1) (.slice a2 m.cons.length c2) (.slice a3 m.goal.length c3) k wr)) (fun iv _=>m.cons.length-(intOf iv).toNat)
  case atStart=>exact ⟨0,rfl,Nat.zero_le _,HI0⟩
  case round=>
    obtain ⟨k,rfl,hk,hI⟩:=hrel;clear HI0 p0 p1 p2 p3;obtain ⟨⟨p0,p1,p2,p3⟩,_⟩:=box4 hI.out.box;have hcl6:m.cons.length<=977343669134:=HL.out.2.1
    by_cases hlt:k<m.cons.length
    · have hkI:(k:Int)<(m.cons.length:Int):=by omega
      obtain ⟨xs,hO⟩:=hI.out.cons;rcases zZ hO.own with ⟨he,hn⟩ | ⟨g,cap,he,hg,hgl,hcap,_⟩
      · omega
      injection he with e1 _ e3;subst e1 e3;obtain ⟨_,cur,hK⟩:=hO.kcons;obtain ⟨vt,vx,vb,vr,h0,hC⟩:=hK.each k hlt;obtain ⟨_,_,q2,_,_,_,_,q7,q8,q9⟩:=h0.cells hK.blk;obtain ⟨us,hU⟩:=hC.r;have hsz:=HSc.out _ (List.getElem_mem hlt);have HK:Hid (KCons w.heap.size k wr g (w.heap.size+1) c2 m.cons cur):=hK;have H0:Hid (InArr cur (k * 10) (yJ m.cons[k] vt vx vb vr)):=h0;have HU:Hid (KRows (fun b=>b=g∨b=w.heap.size+1) wr vr m.cons[k].rows us):=hU.less fun _=>.inr
      have HSz:Hid (m.cons[k].terms.length<=8796093022208/\m.cons[k].xs.length<=17592186044416/\m.cons[k].table.length<=17592186044416/\m.cons[k].rows.length<=5864062014805/\∀ r∈m.cons[k].rows,r.length<=17592186044416):=hsz;have HGl:Hid (g<wr.heap.size/\w.heap.size+2<=g):=⟨hgl,hg⟩;have HC8:Hid (∀ w',Below wr.heap.size wr w'->Calls Tryz.prog 45 #[vt] w' fun e w''=>∃ v,e=.returned v/\w''.ownsRow w'.heap.size 67 2 v m.cons[k].terms.length (zp m.cons[k].terms)/\Below w'.heap.size w' w''):=fun w' hb=>Qv _ _ _ w' (hC.at.t.src.below hb) hsz.1
      have HC13:Hid (∀ w',Below wr.heap.size wr w'->Calls Tryz.prog 46 #[vx] w' fun e w''=>∃ v,e=.returned v/\w''.ownsRow w'.heap.size 3 1 v m.cons[k].xs.length (m.cons[k].xs.map (.int .i64))/\Below w'.heap.size w' w''):=fun w' hb=>Zw _ _ _ w' (hC.at.x.src.below hb) hsz.2.1
      have HC18:Hid (∀ w',Below wr.heap.size wr w'->Calls Tryz.prog 46 #[vb] w' fun e w''=>∃ v,e=.returned v/\w''.ownsRow w'.heap.size 3 1 v m.cons[k].table.length (m.cons[k].table.map (.int .i64))/\Below w'.heap.size w' w''):=fun w' hb=>Zw _ _ _ w' (hC.at.b.src.below hb) hsz.2.2.1
      have HC23:Hid (∀ w',Below wr.heap.size wr w'->Calls Tryz.prog 47 #[vr] w' fun e w''=>∃ v,e=.returned v/\w''.ownsRow w'.heap.size 27 1 v m.cons[k].rows.length us/\Below w'.heap.size w' w''):=fun w' hb=>y32 _ _ _ w' (hU.src.below hb) hsz.2.2.2.1
      have HS6:Hid (wr.cell? ⟨g,k * 10+2,none⟩=some vt/\wr.cell? ⟨g,k * 10+7,none⟩=some vx/\wr.cell? ⟨g,k * 10+8,none⟩=some vb/\wr.cell? ⟨g,k * 10+9,none⟩=some vr/\Below wr.heap.size wr wr):=⟨q2,q7,q8,q9,Below.refl _ _⟩;have hcl:m.cons.length<=c2:=hcap;clear hO hK h0 hC hU hsz hcap q2 q7 q8 q9 hg hgl;go_wp2_with fail
      refine zt (fun _=>True) (fun w'=>w'.cell? ⟨g,k * 10+2,none⟩=some vt/\w'.cell? ⟨g,k * 10+7,none⟩=some vx/\w'.cell? ⟨g,k * 10+8,none⟩=some vb/\w'.cell? ⟨g,k * 10+9,none⟩=some vr/\Below wr.heap.size wr w') [24,25,26,27,28,29,30,31,32,33,34,35] (by kernel_rfl) ⟨trivial,Cz.next HS6.out (Below.refl _ _).drew⟩ (fun hHeld6=>?_);refine tB (i:=0) (oi:=⟨some 29,.move (.tmp 4),_,_,_,none⟩) (v:=?v_ah) ?hy_ah (by assumption) ?rest_ah
      case hy_ah=>(intro w hSw;(try dsimp only at hSw);go_simp;try (with_reducible rfl))
      try simp only [Act.put,q1,q2,q3]
      refine tB (i:=1) (oi:=⟨some 30,.move (.tmp 4),_,_,_,none⟩) (v:=?v_ai) ?hy_ai (by assumption) ?rest_ai
      case hy_ai=>(intro w hSw;(try dsimp only at hSw);go_simp;try (with_reducible rfl))
      try simp only [Act.put,q1,q2,q3]
      refine tB (i:=2) (oi:=⟨some 31,.move (.tmp 4),_,_,_,none⟩) (v:=?v_aj) ?hy_aj (by assumption) ?rest_aj
      case hy_aj=>(intro w hSw;(try dsimp only at hSw);go_simp;try (with_reducible rfl))
      try simp only [Act.put,q1,q2,q3]
      refine tB (i:=3) (oi:=⟨some 32,.move (.tmp 4),_,_,_,none⟩) (v:=?v_ak) ?hy_ak (by assumption) ?rest_ak
      case hy_ak=>(intro w hSw;(try dsimp only at hSw);go_simp;try (with_reducible rfl))
      try simp only [Act.put,q1,q2,q3]
      refine tB (i:=4) (oi:=⟨some 33,.move (.tmp 4),_,_,_,none⟩) (v:=?v_al) ?hy_al (by assumption) ?rest_al
      case hy_al=>(intro w hSw;(try dsimp only at hSw);go_simp;try (with_reducible rfl))
      try simp only [Act.put,q1,q2,q3]
      refine tB (i:=5) (oi:=⟨some 34,.nilCheck (.tmp 33),_,_,_,none⟩) (v:=?v_am) ?hy_am (by assumption) ?rest_am
      case hy_am=>(intro w hSw;(try dsimp only at hSw);go_simp;try (with_reducible rfl))
      try simp only [Act.put,q1,q2,q3]
      refine tB (i:=6) (oi:=⟨some 35,.fieldAddr 51 (.tmp 34) 2,_,_,_,none⟩) (v:=?v_an) ?hy_an (by assumption) ?rest_an
      case hy_an=>(intro w hSw;(try dsimp only at hSw);go_simp;try (with_reducible rfl))
      try simp only [Act.put,q1,q2,q3]
      refine tA (i:=7) (oi:=⟨some 36,.load 24 (.tmp 35),_,_,_,none⟩) (v:=?v_ao) ?hy_ao (by assumption) ?rest_ao
      case hy_ao=>(intro w hSw;(try dsimp only at hSw);go_simp;try (with_reducible rfl))
      try simp only [Act.put,q1,q2,q3]
      refine tB (i:=9) (oi:=⟨some 38,.move (.tmp 4),_,_,_,none⟩) (v:=?v_ap) ?hy_ap (by assumption) ?rest_ap
      case hy_ap=>(intro w hSw;(try dsimp only at hSw);go_simp;try (with_reducible rfl))
      try simp only [Act.put,q1,q2,q3]
      refine tB (i:=10) (oi:=⟨some 39,.nilCheck (.tmp 38),_,_,_,none⟩) (v:=?v_av) ?hy_av (by assumption) ?rest_av
      case hy_av=>(intro w hSw;(try dsimp only at hSw);go_simp;try (with_reducible rfl))
      try simp only [Act.put,q1,q2,q3]
      refine tB (i:=11) (oi:=⟨some 40,.fieldAddr 51 (.tmp 39) 7,_,_,_,none⟩) (v:=?v_aw) ?hy_aw (by assumption) ?rest_aw
      case hy_aw=>(intro w hSw;(try dsimp only at hSw);go_simp;try (with_reducible rfl))
      try simp only [Act.put,q1,q2,q3]
      refine tA (i:=12) (oi:=⟨some 41,.load 27 (.tmp 40),_,_,_,none⟩) (v:=?v_ax) ?hy_ax (by assumption) ?rest_ax
      case hy_ax=>(intro w hSw;(try dsimp only at hSw);go_simp;try (with_reducible rfl))
      try simp only [Act.put,q1,q2,q3]
      refine tB (i:=14) (oi:=⟨some 43,.move (.tmp 4),_,_,_,none⟩) (v:=?v_ay) ?hy_ay (by assumption) ?rest_ay
      case hy_ay=>(intro w hSw;(try dsimp only at hSw);go_simp;try (with_reducible rfl))
      try simp only [Act.put,q1,q2,q3]
      refine tB (i:=15) (oi:=⟨some 44,.nilCheck (.tmp 43),_,_,_,none⟩) (v:=?v_az) ?hy_az (by assumption) ?rest_az
      case hy_az=>(intro w hSw;(try dsimp only at hSw);go_simp;try (with_reducible rfl))
      try simp only [Act.put,q1,q2,q3]
      refine tB (i:=16) (oi:=⟨some 45,.fieldAddr 51 (.tmp 44) 8,_,_,_,none⟩) (v:=?v_a0) ?hy_a0 (by assumption) ?rest_a0
      case hy_a0=>(intro w hSw;(try dsimp only at hSw);go_simp;try (with_reducible rfl))
      try simp only [Act.put,q1,q2,q3]
      refine tA (i:=17) (oi:=⟨some 46,.load 27 (.tmp 45),_,_,_,none⟩) (v:=?v_a1) ?hy_a1 (by assumption) ?rest_a1
      case hy_a1=>(intro w hSw;(try dsimp only at hSw);go_simp;try (with_reducible rfl))
      try simp only [Act.put,q1,q2,q3]
      refine tB (i:=19) (oi:=⟨some 48,.move (.tmp 4),_,_,_,none⟩) (v:=?v_a2) ?hy_a2 (by assumption) ?rest_a2
      case hy_a2=>(intro w hSw;(try dsimp only at hSw);go_simp;try (with_reducible rfl))
      try simp only [Act.put,q1,q2,q3]
      refine tB (i:=20) (oi:=⟨some 49,.nilCheck (.tmp 48),_,_,_,none⟩) (v:=?v_a3) ?hy_a3 (by assumption) ?rest_a3
      case hy_a3=>(intro w hSw;(try dsimp only at hSw);go_simp;try (with_reducible rfl))
      try simp only [Act.put,q1,q2,q3]
      refine tB (i:=21) (oi:=⟨some 50,.fieldAddr 51 (.tmp 49) 9,_,_,_,none⟩) (v:=?v_a4) ?hy_a4 (by assumption) ?rest_a4
      case hy_a4=>(intro w hSw;(try dsimp only at hSw);go_simp;try (with_reducible rfl))
      try simp only [Act.put,q1,q2,q3]
      refine tA (i:=22) (oi:=⟨some 51,.load 30 (.tmp 50),_,_,_,none⟩) (v:=?v_a5) ?hy_a5 (by assumption) ?rest_a5
      case hy_a5=>(intro w hSw;(try dsimp only at hSw);go_simp;try (with_reducible rfl))
      try simp only [Act.put,q1,q2,q3]
      refine yF (i:=8) (o:=⟨some 37,.call { callee:=.value (.func 45),args:=#[.tmp 36],argTypes:=#[24] },_,_,_,none⟩) (by kernel_rfl) rfl (fun K hK=>?_);go_simp;refine mcA (HC8.out _ hHeld6.2.2.2.2.2) ?_;rintro e w6 ⟨v6,rfl,ho6,hb6⟩;obtain ⟨a6,d6,rfl⟩:=x8 ho6;go_wp2_with fail
      have HO6:Hid (w6.ownsRow wr.drew.heap.size 67 2 (.slice a6 m.cons[k].terms.length d6) m.cons[k].terms.length (zp m.cons[k].terms)):=ho6;have hHw6:True/\(w6.cell? ⟨g,k * 10+2,none⟩=some vt/\w6.cell? ⟨g,k * 10+7,none⟩=some vx/\w6.cell? ⟨g,k * 10+8,none⟩=some vb/\w6.cell? ⟨g,k * 10+9,none⟩=some vr/\Below wr.heap.size wr w6):=⟨trivial,Cz.next hHeld6.2 hb6⟩;have HB6:Hid (Below wr.drew.heap.size wr.drew w6):=hb6;clear ho6 hb6;refine hK.out _ _ ⟨trivial,fun _=>hHw6.2⟩ ?_;clear hK K;try simp only [Act.put,q1,q2,q3]
      refine yF (i:=13) (o:=⟨some 42,.call { callee:=.value (.func 46),args:=#[.tmp 41],argTypes:=#[27] },_,_,_,none⟩) (by kernel_rfl) rfl (fun K hK=>?_);go_simp;refine mcA (HC13.out _ hHw6.2.2.2.2.2) ?_;rintro e w7 ⟨v7,rfl,ho7,hb7⟩;obtain ⟨a7,d7,rfl⟩:=x8 ho7;go_wp2_with fail
      have HO7:Hid (w7.ownsRow w6.heap.size 3 1 (.slice a7 m.cons[k].xs.length d7) m.cons[k].xs.length (m.cons[k].xs.map (.int .i64))):=ho7;have hHw7:True/\(w7.cell? ⟨g,k * 10+2,none⟩=some vt/\w7.cell? ⟨g,k * 10+7,none⟩=some vx/\w7.cell? ⟨g,k * 10+8,none⟩=some vb/\w7.cell? ⟨g,k * 10+9,none⟩=some vr/\Below wr.heap.size wr w7):=⟨trivial,Cz.next hHw6.2 hb7⟩;have HB7:Hid (Below w6.heap.size w6 w7):=hb7;clear ho7 hb7;refine hK.out _ _ ⟨trivial,fun _=>hHw7.2⟩ ?_;clear hK K;try simp only [Act.put,q1,q2,q3]
      refine yF (i:=18) (o:=⟨some 47,.call { callee:=.value (.func 46),args:=#[.tmp 46],argTypes:=#[27] },_,_,_,none⟩) (by kernel_rfl) rfl (fun K hK=>?_);go_simp;refine mcA (HC18.out _ hHw7.2.2.2.2.2) ?_;rintro e w8 ⟨v8,rfl,ho8,hb8⟩;obtain ⟨a8,d8,rfl⟩:=x8 ho8;go_wp2_with fail
      have HO8:Hid (w8.ownsRow w7.heap.size 3 1 (.slice a8 m.cons[k].table.length d8) m.cons[k].table.length (m.cons[k].table.map (.int .i64))):=ho8;have hHw8:True/\(w8.cell? ⟨g,k * 10+2,none⟩=some vt/\w8.cell? ⟨g,k * 10+7,none⟩=some vx/\w8.cell? ⟨g,k * 10+8,none⟩=some vb/\w8.cell? ⟨g,k * 10+9,none⟩=some vr/\Below wr.heap.size wr w8):=⟨trivial,Cz.next hHw7.2 hb8⟩;have HB8:Hid (Below w7.heap.size w7 w8):=hb8;clear ho8 hb8;refine hK.out _ _ ⟨trivial,fun _=>hHw8.2⟩ ?_;clear hK K;try simp only [Act.put,q1,q2,q3]
      refine yF (i:=23) (o:=⟨some 52,.call { callee:=.value (.func 47),args:=#[.tmp 51],argTypes:=#[30] },_,_,_,none⟩) (by kernel_rfl) rfl (fun K hK=>?_);go_simp;refine mcA (HC23.out _ hHw8.2.2.2.2.2) ?_;rintro e w9 ⟨v9,rfl,ho9,hb9⟩;obtain ⟨a9,d9,rfl⟩:=x8 ho9;go_wp2_with fail
      have HO9:Hid (w9.ownsRow w8.heap.size 27 1 (.slice a9 m.cons[k].rows.length d9) m.cons[k].rows.length us):=ho9;have hHw9:True/\(w9.cell? ⟨g,k * 10+2,none⟩=some vt/\w9.cell? ⟨g,k * 10+7,none⟩=some vx/\w9.cell? ⟨g,k * 10+8,none⟩=some vb/\w9.cell? ⟨g,k * 10+9,none⟩=some vr/\Below wr.heap.size wr w9):=⟨trivial,Cz.next hHw8.2 hb9⟩;have HB9:Hid (Below w8.heap.size w8 w9):=hb9;clear ho9 hb9;have e9:w9.heap[g]?=some (.cells cur 51 (0,0)):=(hHw9.2.2.2.2.2.block g HGl.out.1).trans HK.out.blk;have hz2:w9.frozen? ⟨g,k * 10+2,none⟩=false:=by simp [World.frozen?,e9]
      have hz7:w9.frozen? ⟨g,k * 10+7,none⟩=false:=by simp [World.frozen?,e9]
      have hz8:w9.frozen? ⟨g,k * 10+8,none⟩=false:=by simp [World.frozen?,e9]
      have hz9:w9.frozen? ⟨g,k * 10+9,none⟩=false:=by simp [World.frozen?,e9]
      obtain ⟨i2,i7,i8,i9,_⟩:=hHw9.2;clear e9;refine hK.out _ _ ⟨trivial,fun _=>hHw9.2⟩ ?_;clear hK K;try simp only [Act.put,q1,q2,q3]
      refine yX (i:=24) (o:=⟨some 53,.nilCheck (.tmp 29),_,_,_,none⟩) (by kernel_rfl) rfl (by kernel_rfl) (fun K hK=>?_);go_simp;refine hK.out _ _ ?sh_a6 ?rest_a6
      case sh_a6=>((try dsimp only);all_goals trivial)
      clear hK K;try simp only [Act.put,q1,q2,q3]
      refine yX (i:=25) (o:=⟨some 54,.fieldAddr 51 (.tmp 53) 2,_,_,_,none⟩) (by kernel_rfl) rfl (by kernel_rfl) (fun K hK=>?_);go_simp;refine hK.out _ _ ?sh_a7 ?rest_a7
      case sh_a7=>((try dsimp only);all_goals trivial)
      clear hK K;try simp only [Act.put,q1,q2,q3]
      refine yX (i:=26) (o:=⟨none,.store 24 (.tmp 54) (.tmp 37),_,_,_,none⟩) (by kernel_rfl) rfl (by kernel_rfl) (fun K hK=>?_);go_simp;refine hK.out _ _ ?sh_a8 ?rest_a8
      case sh_a8=>((try dsimp only);all_goals trivial)
      clear hK K;try simp only [Act.put,q1,q2,q3]
      refine yX (i:=27) (o:=⟨some 55,.nilCheck (.tmp 30),_,_,_,none⟩) (by kernel_rfl) rfl (by kernel_rfl) (fun K hK=>?_);go_simp;refine hK.out _ _ ?sh_a9 ?rest_a9
      case sh_a9=>((try dsimp only);all_goals trivial)
      clear hK K;try simp only [Act.put,q1,q2,q3]
      refine yX (i:=28) (o:=⟨some 56,.fieldAddr 51 (.tmp 55) 7,_,_,_,none⟩) (by kernel_rfl) rfl (by kernel_rfl) (fun K hK=>?_);go_simp;refine hK.out _ _ ?sh_ba ?rest_ba
      case sh_ba=>((try dsimp only);all_goals trivial)
      clear hK K;try simp only [Act.put,q1,q2,q3]
      refine yX (i:=29) (o:=⟨none,.store 27 (.tmp 56) (.tmp 42),_,_,_,none⟩) (by kernel_rfl) rfl (by kernel_rfl) (fun K hK=>?_);go_simp;refine hK.out _ _ ?sh_bb ?rest_bb
      case sh_bb=>((try dsimp only);all_goals trivial)
      clear hK K;try simp only [Act.put,q1,q2,q3]
      refine yX (i:=30) (o:=⟨some 57,.nilCheck (.tmp 31),_,_,_,none⟩) (by kernel_rfl) rfl (by kernel_rfl) (fun K hK=>?_);go_simp;refine hK.out _ _ ?sh_bc ?rest_bc
      case sh_bc=>((try dsimp only);all_goals trivial)
      clear hK K;try simp only [Act.put,q1,q2,q3]
      refine yX (i:=31) (o:=⟨some 58,.fieldAddr 51 (.tmp 57) 8,_,_,_,none⟩) (by kernel_rfl) rfl (by kernel_rfl) (fun K hK=>?_);go_simp;refine hK.out _ _ ?sh_bd ?rest_bd
      case sh_bd=>((try dsimp only);all_goals trivial)
      clear hK K;try simp only [Act.put,q1,q2,q3]
      refine yX (i:=32) (o:=⟨none,.store 27 (.tmp 58) (.tmp 47),_,_,_,none⟩) (by kernel_rfl) rfl (by kernel_rfl) (fun K hK=>?_);go_simp;refine hK.out _ _ ?sh_be ?rest_be
      case sh_be=>((try dsimp only);all_goals trivial)
      clear hK K;try simp only [Act.put,q1,q2,q3]
      refine yX (i:=33) (o:=⟨some 59,.nilCheck (.tmp 32),_,_,_,none⟩) (by kernel_rfl) rfl (by kernel_rfl) (fun K hK=>?_);go_simp;refine hK.out _ _ ?sh_bf ?rest_bf
      case sh_bf=>((try dsimp only);all_goals trivial)
      clear hK K;try simp only [Act.put,q1,q2,q3]
      refine yX (i:=34) (o:=⟨some 60,.fieldAddr 51 (.tmp 59) 9,_,_,_,none⟩) (by kernel_rfl) rfl (by kernel_rfl) (fun K hK=>?_);go_simp;refine hK.out _ _ ?sh_bg ?rest_bg
      case sh_bg=>((try dsimp only);all_goals trivial)
      clear hK K;try simp only [Act.put,q1,q2,q3]
      refine yX (i:=35) (o:=⟨none,.store 30 (.tmp 60) (.tmp 52),_,_,_,none⟩) (by kernel_rfl) rfl (by kernel_rfl) (fun K hK=>?_);go_simp;refine hK.out _ _ ?sh_bh ?rest_bh
      case sh_bh=>((try dsimp only);all_goals trivial)
      clear hK K;try simp only [Act.put,q1,q2,q3]
      refine zu (by kernel_rfl) ?_ _;obtain ⟨V,hV⟩:∃ V,((((w9.setCell ⟨g,k * 10+2,none⟩ (.slice a6 m.cons[k].terms.length d6)).setCell ⟨g,k * 10+7,none⟩ (.slice a7 m.cons[k].xs.length d7)).setCell ⟨g,k * 10+8,none⟩ (.slice a8 m.cons[k].table.length d8)).setCell ⟨g,k * 10+9,none⟩ (.slice a9 m.cons[k].rows.length d9))=V:=⟨_,rfl⟩;have hV9:V.cell? ⟨g,k * 10+9,none⟩=some (.slice a9 m.cons[k].rows.length d9):=by
        rw [<-hV];obtain ⟨_,z1⟩:=cell?_setCell_some (p:=⟨g,k * 10+2,none⟩) (x:=.slice a6 m.cons[k].terms.length d6) i9;obtain ⟨_,z2⟩:=cell?_setCell_some (p:=⟨g,k * 10+7,none⟩) (x:=.slice a7 m.cons[k].xs.length d7) z1;obtain ⟨_,z3⟩:=cell?_setCell_some (p:=⟨g,k * 10+8,none⟩) (x:=.slice a8 m.cons[k].table.length d8) z2;exact World.cell?_setCell_same _ _ _ z3
      have hoV:MOff (fun b=>b=g) w9 V:=by rw [<-hV];exact (((MOff.setG _).trans (MOff.setG _)).trans (MOff.setG _)).trans (MOff.setG _)
      have hb9w:Below wr.heap.size wr w9:=hHw9.2.2.2.2.2;have HR0:Hid (RowsC w.heap.size 0 V g (w.heap.size+1) (.slice a9 m.cons[k].rows.length d9) m.cons[k].rows w8.heap.size V):=y33 HU.out hb9w hHw8.2.2.2.2.2.size HO9.out hoV HGl.out.1;have HBV:Hid (Below w.heap.size w V):=by
        show Below _ _ _;have hwg:w.heap.size<=g:=by have:=HGl.out.2;omega
        rw [<-hV];exact ((((hI.out.below.trans (hb9w.mono hI.out.below.size)).setCell hwg _).setCell hwg _).setCell hwg _).setCell hwg _
      have HVE:Hid ((((w9.setCell ⟨g,k * 10+2,none⟩ (.slice a6 m.cons[k].terms.length d6)).setCell ⟨g,k * 10+7,none⟩ (.slice a7 m.cons[k].xs.length d7)).setCell ⟨g,k * 10+8,none⟩ (.slice a8 m.cons[k].table.length d8)).setCell ⟨g,k * 10+9,none⟩ (.slice a9 m.cons[k].rows.length d9)=V):=hV;have HGV:Hid (g<V.heap.size/\w.heap.size+1<V.heap.size):=by
        have h1:=hoV.size;have h2:=hb9w.size;have h3:=HGl.out;exact ⟨by omega,by omega⟩
      have HBs:Hid (Below wr.heap.size wr w6/\Below wr.heap.size wr w8):=⟨hHw6.2.2.2.2.2,hHw8.2.2.2.2.2⟩;have HV9:Hid (V.cell? ⟨g,k * 10+9,none⟩=some (.slice a9 m.cons[k].rows.length d9)):=hV9;have hrl:m.cons[k].rows.length<=5864062014805:=HSz.out.2.2.2.1;rw [hV];clear hV hoV hb9w hHw6 hHw7 hHw8 hHw9 hHeld6 hz2 hz7 hz8 hz9 i2 i7 i8 i9 HS6 HC8 HC13 HC18 HC23 p0 p1 p2 p3;go_wp2_with fail
      clear hV9;go_loopw [66] (fun jv wq=>∃ j:Nat,jv=.int .i64 (j:Int)/\j<=m.cons[k].rows.length/\Hid (RowsC w.heap.size j V g (w.heap.size+1) (.slice a9 m.cons[k].rows.length d9) m.cons[k].rows w8.heap.size wq)/\Hid (Below w.heap.size w wq)) (fun jv _=>m.cons[k].rows.length-(intOf jv).toNat)
      case atStart=>exact ⟨0,rfl,Nat.zero_le _,HR0,HBV⟩
      case round=>
        obtain ⟨j,rfl,hj,hR,hBq⟩:=hrel;rename World=>wq
        by_cases hlj:j<m.cons[k].rows.length
        · have hjI:(j:Int)<(m.cons[k].rows.length:Int):=by omega
          obtain ⟨us',r1,r2,r3⟩:=hR.out.row;rcases zZ r1 with ⟨he,hn⟩ | ⟨h,cap',he,hh,hhl,hcap',hcell⟩
          · omega
          injection he with e1 _ e3;subst e1 e3;have hju:j<us'.length:=by omega
          have y1:=hcell j _ (List.getElem?_eq_getElem hju);have hInt:MInts wq us'[j] m.cons[k].rows[j]:=(r3 j hju hlj).now;have hne:g≠h:=by
            have:=HGl.out.1;have:=HBs.out.2.size;omega
          have y9:wq.cell? ⟨g,k * 10+9,none⟩=some (.slice (some ⟨h,0,none⟩) m.cons[k].rows.length d9):=(World.cell?_of_block (a:=⟨g,k * 10+9,none⟩) (hR.out.off.block g HGV.out.1 (fun e=>by simp [ob,Value.ownBlock] at e;omega))).trans HV9.out;have yz:wq.frozen? ⟨h,j,none⟩=false:=by
            rcases r1.2 with ⟨hv,_⟩ | ⟨g',cap2,cur2,hv,_,hc2,_⟩
            · injection hv with h1 _ _;cases h1
            · injection hv with h1 _ h3
              injection h1 with h1;injection h1 with h1;subst h1;simp [World.frozen?,hc2]
          have HCj:Hid (Calls Tryz.prog 46 #[us'[j]] wq.drew fun e w''=>∃ v,e=.returned v/\w''.ownsRow wq.heap.size 3 1 v (m.cons[k].rows[j]).length ((m.cons[k].rows[j]).map (.int .i64))/\Below wq.heap.size wq w''):=by
            have h1:=Zw us'[j] _ _ wq.drew (hInt.src.below (Below.refl _ _).drew) (HSz.out.2.2.2.2 _ (List.getElem_mem hlj));refine h1.mono ?_;rintro e w'' ⟨v,h2,h3,h4⟩;exact ⟨v,h2,h3,(Below.refl _ _).drew.trans h4⟩
          have HHl:Hid (h<wq.heap.size):=hhl;have HHw:Hid (w8.heap.size<=h):=hh;generalize hu:us'[j]=uj at *
          obtain ⟨ua,uc,rfl,_⟩:=hInt.form;have hd9:m.cons[k].rows.length<=d9:=hcap';clear r1 r2 r3 hcell hInt hh hhl hcap' hu;go_wp2_with fail
          go_region_held3 (fun w'=>w'.cell? ⟨g,k * 10+9,none⟩=some (.slice (some ⟨h,0,none⟩) m.cons[k].rows.length d9))
            (first | exact yA (Below.refl _ _).drew y9 | exact yA hbj.out y9 | exact (World.cell?_setCell_far _ _ _ _ (Ne.symm hne)).trans (yA hbj.out y9))
            (first | (go_at_call 46;refine mcA HCj.out ?_;rintro e w10 ⟨v10,rfl,ho10,hb10⟩;obtain ⟨a10,d10,rfl⟩:=x8 ho10;have hbj:Hid (Below wq.heap.size wq w10):=hb10;have HO10:Hid (w10.ownsRow wq.heap.size 3 1 (.slice a10 (m.cons[k].rows[j]).length d10) (m.cons[k].rows[j]).length ((m.cons[k].rows[j]).map (.int .i64))):=ho10;have x1:=yA hb10 y1;have x2:=(hb10.frozen (p:=⟨h,j,none⟩) HHl.out).trans yz;clear ho10 hb10))
          have HRn:Hid (RowsC w.heap.size (j+1) V g (w.heap.size+1) (.slice (some ⟨h,0,none⟩) m.cons[k].rows.length d9) m.cons[k].rows w8.heap.size (w10.setCell ⟨h,j,none⟩ (.slice a10 (m.cons[k].rows[j]).length d10))):=hR.out.step hBq.out.size rfl hlj (by have:=HGV.out.1;have:=hR.out.off.size;omega) (by have:=HGV.out.2;have:=hR.out.off.size;omega) hbj.out HO10.out (by have:=HSz.out.2.2.2.2 _ (List.getElem_mem hlj);unfold maxLen;omega)
          have HBn:Hid (Below w.heap.size w (w10.setCell ⟨h,j,none⟩ (.slice a10 (m.cons[k].rows[j]).length d10))):=(hBq.out.trans (hbj.out.mono hBq.out.size)).setCell (by
            have:=HGl.out;have:=HBs.out.2.size;have:=HHw.out;show w.heap.size<=h
            omega) _
          generalize w10.setCell ⟨h,j,none⟩ (.slice a10 (m.cons[k].rows[j]).length d10)=w11 at *
          go_wp2_with fail
          go_roundw
          case rel=>exact ⟨j+1,by go_num,by omega,HRn,HBn⟩
          case measure=>simp [intOf];omega
        · have hjI:¬ (j:Int)<(m.cons[k].rows.length:Int):=by omega
          have HIn:Hid (CopyI w m (.slice a1 m.vars.length c1) (.slice (some ⟨g,0,none⟩) m.cons.length c2) (.slice a3 m.goal.length c3) (k+1) wq):=y34 hI.out HGl.out.2 HK.out hlt H0.out HBs.out.1 HB7.out HB8.out HB9.out HO6.out HO7.out HO8.out HO9.out HVE.out hR.out (by omega) hBq.out (by have:=HSz.out;unfold maxLen;omega);go_wp2_with fail
          go_roundw
          case rel=>exact ⟨k+1,by go_num,by omega,HIn⟩
          case measure=>simp [intOf];omega
    · have hkI:¬ (k:Int)<(m.cons.length:Int):=by omega
      obtain rfl:k=m.cons.length:=by omega
      obtain ⟨⟨s0,s1,s2,s3⟩,hz⟩:=box4 hI.out.res;have hz0:=hz 0;have hz1:=hz 1;have hz2:=hz 2;have hz3:=hz 3;clear hz;go_wp2_with fail
      try simp only [Exit.inBlock,Exit.then]
      obtain ⟨Z,hZ⟩:∃ Z,((((wr.setCell ⟨w.heap.size+1,0,none⟩ (.slice a1 m.vars.length c1)).setCell ⟨w.heap.size+1,1,none⟩ (.slice a2 m.cons.length c2)).setCell ⟨w.heap.size+1,2,none⟩ (.bool m.has)).setCell ⟨w.heap.size+1,3,none⟩ (.slice a3 m.goal.length c3))=Z:=⟨_,rfl⟩;have hZc:Z.heap[w.heap.size+1]?=some (.cells #[.slice a1 m.vars.length c1,.slice a2 m.cons.length c2,.bool m.has,.slice a3 m.goal.length c3] 26 (0,0)):=by
        rw [<-hZ];exact heap_setCell_same _ _ 3 _ 26 _ (heap_setCell_same _ _ 2 _ 26 _ (heap_setCell_same _ _ 1 _ 26 _ (heap_setCell_same wr _ 0 _ 26 _ hI.out.res)))
      have HOut:Hid (Y3 w m (.returned (.agg #[.slice a1 m.vars.length c1,.slice a2 m.cons.length c2,.bool m.has,.slice a3 m.goal.length c3])) Z):=by
        show Y3 _ _ _ _;rw [<-hZ];exact hI.out.done ((((MOff.setG _).trans (MOff.setG _)).trans (MOff.setG _)).trans (MOff.setG _)) ((((hI.out.below.setCell (Nat.le_succ _) _).setCell (Nat.le_succ _) _).setCell (Nat.le_succ _) _).setCell (Nat.le_succ _) _)
      obtain ⟨⟨x0,x1,x2,x3⟩,_⟩:=box4 hZc;rw [hZ];refine bodyPost_ret (by simp [results,Tryz.results19,go_sem,x0,x1,x2,x3];try rfl) rfl ?_
      exact HOut.out
end Go.Proofs.YtjgghimjnbjlbaaGreatDoor
