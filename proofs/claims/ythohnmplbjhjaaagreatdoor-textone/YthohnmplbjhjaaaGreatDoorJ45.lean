/-
  Put together: TzDer, TzLawO.
-/
import Derived.Test.YthohnmplbjhjaaaGreatDoorJ44
import Derived.Test.YthohnmplbjhjaaaGreatDoorJ42
namespace Go.Proofs.YthohnmplbjhjaaaGreatDoor
open Go Go.RowKit Go.Shelf Go.Lib
attribute [local go_sem] Oper.semAt_some
theorem y69 (l:List (List UInt8)) (h:0<l.length):l.headD []=l[0]:=by
 cases l with
 | nil=>simp at h
 | cons a b=>rfl
theorem y6a {B:Nat} {A:List (List (List UInt8))} {us:List Value} {aa:Option Addr} {ac:Nat} {L:List (List UInt8)} {lv:Value} {w:World} (h:TdAt B A us (.slice aa A.length ac) L lv w) (i:Nat) (hi:i<A.length) (h0:0<A[i].length) :
  ∃ ra gu uc,aa=some ⟨ra,0,none⟩/\ra<w.heap.size/\gu<w.heap.size/\w.cell? ⟨ra,i,none⟩=some (.slice (some ⟨gu,0,none⟩) A[i].length uc)/\w.cell? ⟨gu,0,none⟩=some (.string (yc (A[i].headD [])))/\w.ownsRow B 9 1 (.slice (some ⟨gu,0,none⟩) A[i].length uc) A[i].length (strs A[i]):=by
 obtain ⟨u,hu,hr,_⟩:=h.each i hi
 obtain ⟨ua,uc,rfl⟩:=yr hr
 obtain ⟨gu,e1,x1⟩:=xR hr 0 h0
 subst e1
 have hhd:A[i].headD []=A[i][0]:=y69 A[i] h0
 rw [<-hhd] at x1
 have hra:=h.ra
 rcases hra.2 with ⟨_,h1⟩ | ⟨ra,cap,cur,hv,_,hc,_⟩
 ·omega
 ·injection hv with e2 _ _
  subst e2
  have x0:=World.ownsRow.cells hra rfl i (.slice (some ⟨gu,0,none⟩) A[i].length uc) hu
  rw [xd,Nat.zero_add] at x0
  exact ⟨ra,gu,uc,rfl,(Array.getElem?_eq_some_iff.1 hc).1,y0h hr rfl,x0,x1,hr⟩
theorem TdAt.keep {B:Nat} {A:List (List (List UInt8))} {us:List Value} {av:Value} {L:List (List UInt8)} {lv:Value} {w w':World} (h:TdAt B A us av L lv w) (hb:Below w.heap.size w w'):TdAt B A us av L lv w':=by
 have key:∀ {e:TypeId} {size:Nat} {v:Value} {n:Nat} {xs:List Value},w.ownsRow B e size v n xs->w'.ownsRow B e size v n xs:=fun hr=>yC (S:=fun _=>False) hr (fun _ _ f=>f) (Ofw.of_below hb)
 exact ⟨key h.ra,key h.rl,fun i hi=>by obtain ⟨u,hu,hr,hf⟩:=h.each i hi;exact ⟨u,hu,key hr,hf⟩,Nat.le_trans h.low hb.size⟩
theorem y6b {m:Md.Mo} {ws:List (List UInt8)} {t:List (List (List UInt8))} {v c:Nat} {g:Bool} (h:ws.headD []=wVar):yX m (ws :: t) v c g=(if h:v<m.vars.length then decide (ws=varW m.vars[v])&&yX m t (v+1) c g else false):=by
 show (if ws.headD []=wVar then _ else _)=_
 rw [if_pos h]
theorem y6c {m:Md.Mo} {ws:List (List UInt8)} {t:List (List (List UInt8))} {v c:Nat} {g:Bool} (h:ws.headD []≠wVar) (h':ws.headD []=wMin):yX m (ws :: t) v c g=(!g&&(m.has&&(decide (ws=Ym m/\xh (m.goal.map (·.2))<(v:Int))&&yX m t v c true))):=by
 show (if ws.headD []=wVar then _ else if ws.headD []=wMin then _ else _)=_
 rw [if_neg h,if_pos h']
theorem y6d {m:Md.Mo} {ws:List (List UInt8)} {t:List (List (List UInt8))} {v c:Nat} {g:Bool} (h:ws.headD []≠wVar) (h':ws.headD []≠wMin):yX m (ws :: t) v c g=(if h:c<m.cons.length then decide (ws=conW m.vars m.cons[c]/\xh (yM m.cons[c])<(v:Int))&&yX m t v (c+1) g else false):=by
 show (if ws.headD []=wVar then _ else if ws.headD []=wMin then _ else _)=_
 rw [if_neg h,if_neg h']
theorem y6e {s:List UInt8} {ws:List (List UInt8)} (h:ws∈zq (yx s [])):0<ws.length:=by
 have:=(List.mem_filter.1 h).2
 cases ws with
 | nil=>simp [mute] at this
 | cons a b=>simp
theorem y6f (s:List UInt8):(zq (yx s [])).length<=s.length+1:=by
 have h1:=List.length_filter_le (fun ws=>!mute ws) ((yx s []).map words)
 have h2:=YZ s []
 rw [List.length_map] at h1
 exact Nat.le_trans h1 h2
theorem y6g {w:World} {vv:Value} {V:List Md.Vr} (h:VarsAt w vv V) {i:Nat} (hi:i<V.length):∃ b off cp,vv=.slice (some ⟨b,off,none⟩) V.length cp/\b<w.heap.size/\w.cell? ⟨b,off+i * 3,none⟩=some (.string V[i].name)/\w.cell? ⟨b,off+i * 3+1,none⟩=some (.int .i64 V[i].lo)/\w.cell? ⟨b,off+i * 3+2,none⟩=some (.int .i64 V[i].hi):=by
 obtain ⟨a,cp,hv,hl,_,hc⟩:=h
 obtain ⟨b,off,rfl,hb,hc⟩:=hc (by omega)
 exact ⟨b,off,cp,hv,hb,(hc i hi).1,(hc i hi).2.1,(hc i hi).2.2⟩
theorem y6h {w:World} {vc:Value} {C:List Md.Cn} (h:ConsAt w vc C) {i:Nat} (hi:i<C.length):∃ b off cp vt vx vb vr,vc=.slice (some ⟨b,off,none⟩) C.length cp/\b<w.heap.size/\CnAt w C[i] vt vx vb vr/\CnCells w b (off+i * 10) C[i] vt vx vb vr:=by
 obtain ⟨a,cp,hv,hl,hc⟩:=h
 obtain ⟨b,off,rfl,hb,hc⟩:=hc (by omega)
 obtain ⟨vt,vx,vb,vr,h1,h2⟩:=hc i hi
 exact ⟨b,off,cp,vt,vx,vb,vr,hv,hb,h1,h2⟩
def DeO (r:Bool) (w:World) (e:Ending) (w':World):Prop:=e=.returned (.bool r)/\Below w.heap.size w w'
theorem DeO.of {r b:Bool} {w w':World} (h:r=b) (hb:Below w.heap.size w w'):DeO r w (.returned (.bool b)) w':=⟨by rw [h],hb⟩
set_option maxRecDepth 100000 in
set_option maxHeartbeats 16000000 in
theorem YP (s:List UInt8) (m:Md.Mo) (vv vc vg:Value) (w:World) (hM:MoAt w m vv vc vg) (hs:s.length<=70000):Calls Tryz.prog 19 #[.string (yc s),.agg #[vv,vc,.bool m.has,vg]] w (DeO (derT s m) w):=by
 have hsz:(yc s).size=s.length:=zL s
 obtain ⟨va,vp,rfl,hvm⟩:=hM.v.form
 obtain ⟨ca,cp,rfl,hcm⟩:=hM.c.form
 obtain ⟨ga,gp,rfl,hgm⟩:=hM.g.form
 unfold maxLen at hvm hcm hgm
 have HMM:Hid (MoAt w m (.slice va m.vars.length vp) (.slice ca m.cons.length cp) (.slice ga m.goal.length gp)):=hM
 obtain ⟨W0,hW0⟩:∃ W0,w.alloc (.cells #[.slice va m.vars.length vp,.slice ca m.cons.length cp,.bool m.has,.slice ga m.goal.length gp] 26)=W0:=⟨_,rfl⟩
 obtain ⟨N0,hN0⟩:∃ N0,w.heap.size=N0:=⟨_,rfl⟩
 have hb0:Below w.heap.size w W0:=by rw [<-hW0];exact zk _ _
 have hbx:W0.heap[N0]?=some (.cells #[.slice va m.vars.length vp,.slice ca m.cons.length cp,.bool m.has,.slice ga m.goal.length gp] 26 (0,0)):=by rw [<-hW0,<-hN0];exact heap_alloc_new w _
 have HBx:Hid (W0.heap[N0]?=some (.cells #[.slice va m.vars.length vp,.slice ca m.cons.length cp,.bool m.has,.slice ga m.goal.length gp] 26 (0,0))/\Below w.heap.size w W0):=⟨hbx,hb0⟩
 have HCk:Hid (Calls Tryz.prog 15 #[.agg #[.slice va m.vars.length vp,.slice ca m.cons.length cp,.bool m.has,.slice ga m.goal.length gp]] W0 fun e w2=>e=.returned (.tuple #[.int .i64 (Md.check m).1,.int .i64 (Md.check m).2])/\Below W0.heap.size W0 w2):=ZX m _ _ _ W0 (hM.below hb0)
 obtain ⟨p0,p1,p2,p3⟩:=yP hbx (Below.refl _ _)
 have hTo:∀ w',Calls Tryz.prog 36 #[.string (yc s)] w' (TdO (zq (yx s [])) w'):=fun w'=>y6i s w' (by omega)
 have HNe:Hid (∀ ws∈zq (yx s []),0<ws.length):=fun ws h=>y6e h
 have hTl:=y6f s
 obtain ⟨RR,hRR⟩:∃ RR,derT s m=RR:=⟨_,rfl⟩
 have HRR:Hid (((Md.check m).2=0->s.length<=65536->yX m (zq (yx s [])) 0 0 false=RR)/\((Md.check m).2≠0∨65536<s.length->RR=false)):=by
  rw [<-hRR]
  unfold derT
  refine ⟨fun h1 h2=>by simp [h1,h2],fun h=>?_⟩
  rcases h with h | h
  ·simp [h]
  ·have:¬ s.length<=65536:=by omega
   simp [this]
 rw [hRR]
 obtain ⟨T,hT⟩:∃ T,zq (yx s [])=T:=⟨_,rfl⟩
 rw [hT] at hTo HNe HRR hTl
 obtain ⟨X,hX⟩:∃ X,yc s=X:=⟨_,rfl⟩
 rw [hX] at hTo hsz ⊢
 have HTo:Hid (∀ w',Calls Tryz.prog 36 #[.string X] w' (TdO T w')):=hTo
 have HOk:Hid ((Md.check m).2=0->OkM m):=fun h=>(KG h).1
 obtain ⟨c1,hc1⟩:∃ c,(Md.check m).1=c:=⟨_,rfl⟩
 obtain ⟨c2,hc2⟩:∃ c,(Md.check m).2=c:=⟨_,rfl⟩
 rw [hc1,hc2] at HCk
 rw [hc2] at HRR HOk
 have HSz:Hid (X.size=s.length/\T.length<=100000):=⟨hsz,by omega⟩
 clear hM hTo hb0 hbx hRR hT hX hc1 hc2 hTl hsz
 have chk:True:=trivial
 by_cases h0:c2=0
 case neg=>
  have g1:(c2==0)=false:=by simpa using h0
  have g2:(c2 != 0)=true:=by simpa using h0
  have HE:Hid (RR=false):=HRR.out.2 (.inl h0)
  clear h0
  go_enter Tryz.func19,Tryz.ntmps19
  go_wp2_with (go_at_call 15;refine cZ HCk.out ?_;rintro e w1 ⟨rfl,hb1⟩;(have H1:Hid (Below w.heap.size w w1):=yi HBx.out.2 hb1);clear hb1 p0 p1 p2 p3)
  go_ret
  exact DeO.of HE.out H1.out
 case pos=>
  have g1:(c2==0)=true:=by simpa using h0
  have g2:(c2 != 0)=false:=by simpa using h0
  by_cases hl:65536<s.length
  case pos=>
   have g3:(65536:Int)<(X.size:Int):=by have:=HSz.out.1;omega
   have HE:Hid (RR=false):=HRR.out.2 (.inr hl)
   clear h0 hl
   go_enter Tryz.func19,Tryz.ntmps19
   go_wp2_with (go_at_call 15;refine cZ HCk.out ?_;rintro e w1 ⟨rfl,hb1⟩;(have H1:Hid (Below w.heap.size w w1):=yi HBx.out.2 hb1);clear hb1 p0 p1 p2 p3)
   go_ret
   exact DeO.of HE.out H1.out
  case neg=>
   have g3:¬ (65536:Int)<(X.size:Int):=by have:=HSz.out.1;omega
   have HE:Hid (yX m T 0 0 false=RR):=HRR.out.1 h0 (by omega)
   have HO:Hid (OkM m):=HOk.out h0
   have hn32:m.vars.length<=32:=HO.out.nv
   have hn64:m.cons.length<=64:=HO.out.nc
   clear h0 hl HRR HOk hs hvm hcm hgm
   go_enter Tryz.func19,Tryz.ntmps19
   go_wp2_with (first
    | (go_at_call 15;refine cZ HCk.out ?_;rintro e w1 ⟨rfl,hb1⟩;(have H1:Hid (Below W0.heap.size W0 w1):=hb1);clear hb1 p0 p1 p2 p3)
    | (go_at_call 36;refine cZ (HTo.out w1) ?_;rintro e w2 ⟨us,av,rfl,htd,hb2⟩;obtain ⟨aa,ac,rfl⟩:=yr htd.ra;(have H2:Hid (TdAt w1.heap.size T us (.slice aa T.length ac) [] (.slice none 0 0) w2/\Below W0.heap.size W0 w2):=⟨htd,yi H1.out hb2⟩);clear htd hb2))
   have HK:Hid (∀ w',Below w2.heap.size w2 w'->w'.heap[N0]?=some (.cells #[.slice va m.vars.length vp,.slice ca m.cons.length cp,.bool m.has,.slice ga m.goal.length gp] 26 (0,0))/\TdAt w1.heap.size T us (.slice aa T.length ac) [] (.slice none 0 0) w'/\Below w.heap.size w w'/\MoAt w' m (.slice va m.vars.length vp) (.slice ca m.cons.length cp) (.slice ga m.goal.length gp)):=fun w' hb=>by
    have h1:Below W0.heap.size W0 w':=yi H2.out.2 hb
    have h2:Below w.heap.size w w':=yi HBx.out.2 h1
    exact ⟨ZK HBx.out.1 h1,H2.out.1.keep hb,h2,HMM.out.below h2⟩
   have hTl:T.length<=100000:=HSz.out.2
   clear g1 g2 g3 HCk HTo H1 H2 hW0 hN0
   go_loopw [7,8,9,11] (fun v7 v8 v9 v11 wr=>∃ (i v c:Nat) (g:Bool),v7=.int .i64 (v:Int)/\v8=.int .i64 (c:Int)/\v9=.int .i64 (if g then 1 else 0)/\v11=.int .i64 (i:Int)/\i<=T.length/\v<=m.vars.length/\c<=m.cons.length/\Hid (yX m (T.drop i) v c g=RR)/\Hid (Below w2.heap.size w2 wr)) (fun _ _ _ v11 _=>(T.length-RowKit.intOf v11).toNat)
   case atStart=>exact ⟨0,0,0,false,rfl,rfl,rfl,rfl,Nat.zero_le _,Nat.zero_le _,Nat.zero_le _,HE.out,Below.refl _ _⟩
   case round=>
    obtain ⟨i,v,c,g,rfl,rfl,rfl,rfl,hi,hv,hc,HD,HBr⟩:=hrel
    by_cases hil:i<T.length
    case neg=>
     have hiI:¬ (i:Int)<(T.length:Int):=by omega
     have HF:Hid ((decide (v=m.vars.length)&&decide (c=m.cons.length)&&(g==m.has))=RR):=by
      have:=HD.out
      rw [List.drop_of_length_le (by omega)] at this
      exact this
     obtain ⟨p0,p1,p2,p3⟩:=yP (HK.out wr HBr.out).1 (Below.refl _ _)
     obtain ⟨mh,hmh⟩:∃ b,m.has=b:=⟨_,rfl⟩
     rw [hmh] at p2 HF
     have HBW:Hid (Below w.heap.size w wr):=(HK.out wr HBr.out).2.2.1
     clear HK HE hmh
     by_cases hvl:v=m.vars.length
     case neg=>
      have k1:((v:Int)==(m.vars.length:Int))=false:=by simp;omega
      have HG:Hid (RR=false):=by show _=_;rw [<-HF.out,decide_eq_false hvl];rfl
      clear HF
      cases g
      all_goals
       go_wp2_with fail
       go_ret
       exact DeO.of HG.out HBW.out
     case pos=>
      have k1:((v:Int)==(m.vars.length:Int))=true:=by simp;omega
      by_cases hcl:c=m.cons.length
      case neg=>
       have k2:((c:Int)==(m.cons.length:Int))=false:=by simp;omega
       have HG:Hid (RR=false):=by show _=_;rw [<-HF.out,decide_eq_false hcl,Bool.and_false];rfl
       clear hvl HF
       cases g
       all_goals
        go_wp2_with fail
        go_ret
        exact DeO.of HG.out HBW.out
      case pos=>
       have k2:((c:Int)==(m.cons.length:Int))=true:=by simp;omega
       have HG:Hid (RR=(g==mh)):=by show _=_;rw [<-HF.out,decide_eq_true hvl,decide_eq_true hcl];rfl
       clear hvl hcl
       cases g <;> cases mh
       all_goals
        go_wp2_with fail
        go_ret
        exact DeO.of (HG.out.trans rfl) HBW.out
    case pos=>
     have hiI:(i:Int)<(T.length:Int):=by omega
     have h0n:=HNe.out _ (List.getElem_mem hil)
     obtain ⟨ra,gu,uc,rfl,hra,hgu,x0,x1,hrow⟩:=y6a (HK.out wr HBr.out).2.1 i hil h0n
     have HD2:Hid (yX m (T[i] :: T.drop (i+1)) v c g=RR):=by
      show _=_
      rw [<-List.drop_eq_getElem_cons hil]
      exact HD.out
     have HM0:Hid (MoAt wr m (.slice va m.vars.length vp) (.slice ca m.cons.length cp) (.slice ga m.goal.length gp)/\Below w.heap.size w wr):=⟨(HK.out wr HBr.out).2.2.2,(HK.out wr HBr.out).2.2.1⟩
     have hbox:=(HK.out wr HBr.out).1
     obtain ⟨ws,hws⟩:∃ ws,T[i]=ws:=⟨_,rfl⟩
     rw [hws] at x0 x1 hrow HD2 h0n
     obtain ⟨f0,hhd⟩:∃ f0,ws.headD []=f0:=⟨_,rfl⟩
     rw [hhd] at x1
     obtain ⟨F0,hF0⟩:∃ F0,yc f0=F0:=⟨_,rfl⟩
     have hbe:∀ x:List UInt8,(F0.toList==x)=decide (f0=x):=fun x=>by
      rw [<-hF0,ByteArray.toList_eq,zD]
      by_cases h:f0=x
      ·rw [h];simp
      ·simp [h]
     rw [hF0] at x1
     have HFt:Hid (∀ w',Below wr.heap.size wr w'->(w'.cell? ⟨N0,0,none⟩=some (.slice va m.vars.length vp)/\w'.cell? ⟨N0,1,none⟩=some (.slice ca m.cons.length cp)/\w'.cell? ⟨N0,2,none⟩=some (.bool m.has)/\w'.cell? ⟨N0,3,none⟩=some (.slice ga m.goal.length gp))/\w'.cell? ⟨ra,i,none⟩=some (.slice (some ⟨gu,0,none⟩) ws.length uc)/\w'.cell? ⟨gu,0,none⟩=some (.string F0)):=fun w' hb=>
      ⟨yP hbox hb,(hb.cell (p:=⟨ra,i,none⟩) hra).trans x0,(hb.cell (p:=⟨gu,0,none⟩) hgu).trans x1⟩
     obtain ⟨P,hP⟩:∃ P,wr.heap.size=P:=⟨_,rfl⟩
     obtain ⟨W1,hW1⟩:∃ W1,wr.alloc (.cells #[.slice va m.vars.length vp,.slice ca m.cons.length cp,.bool m.has,.slice ga m.goal.length gp,.slice none 0 0,.int .i64 (-1)] 97)=W1:=⟨_,rfl⟩
     have HWM:Hid (WrM wr P P m (.slice va m.vars.length vp) (.slice ca m.cons.length cp) (.slice ga m.goal.length gp) [] (-1) W1):=by
      have hb1:Below wr.heap.size wr W1:=by rw [<-hW1];exact zk _ _
      refine ⟨⟨.slice none 0 0,by rw [<-hW1,<-hP];exact heap_alloc_new wr _,yG _ _ _ _,Nat.le_refl _⟩,HM0.out.1,by omega,Ofw.of_below hb1⟩
     have HRow:Hid (∀ w',Below wr.heap.size wr w'->w'.ownsRow w1.heap.size 9 1 (.slice (some ⟨gu,0,none⟩) ws.length uc) ws.length (strs ws)):=fun w' hb=>yC (S:=fun _=>False) hrow (fun _ _ f=>f) (Ofw.of_below hb)
     obtain ⟨⟨p0,p1,p2,p3⟩,y0,y1⟩:=HFt.out wr (Below.refl _ _)
     have hN0l:N0<wr.heap.size:=(Array.getElem?_eq_some_iff.1 hbox).1
     rw [hP] at hN0l hra hgu
     clear hbox x0 x1 hrow hws hF0 HD HK HE
     have HBW1:Hid (Below w.heap.size w W1):=by
      show Below _ _ _
      rw [<-hW1]
      exact yi HM0.out.2 (zk _ _)
     obtain ⟨mh,hmh⟩:∃ b,m.has=b:=⟨_,rfl⟩
     rw [hmh] at p2 hW1 HFt
     obtain ⟨⟨r0,r1,r2,r3⟩,s0,s1⟩:=HFt.out W1 HWM.out.at
     have HMh:Hid (m.has=mh):=hmh
     clear hmh
     by_cases hfv:f0=wVar
     case pos=>
      have hd:ws.headD []=wVar:=hhd.trans hfv
      have e1:(F0.toList==([118,97,114]:List UInt8))=true:=(hbe [118,97,114]).trans (decide_eq_true hfv)
      have HD3:Hid ((if h:v<m.vars.length then decide (ws=varW m.vars[v])&&yX m (T.drop (i+1)) (v+1) c g else false)=RR):=by
       show _=_
       rw [<-y6b hd]
       exact HD2.out
      clear HD2 hd hfv hbe hhd
      by_cases hvl:v<m.vars.length
      case neg=>
       have hve:v=m.vars.length:=by omega
       have k1:((v:Int)==(m.vars.length:Int))=true:=by simp;omega
       have HG:Hid (RR=false):=by have:=HD3.out;rw [dif_neg hvl] at this;exact this.symm
       clear HD3
       generalize (if g=true then (1:Int) else 0)=gi
       go_wp2_with fail
       go_ret
       exact DeO.of HG.out HBW1.out
      case pos=>
       have hvn:¬ v=m.vars.length:=by omega
       have k1:((v:Int)==(m.vars.length:Int))=false:=by simp;omega
       have hvI:(v:Int)<(m.vars.length:Int):=by omega
       obtain ⟨bv,ov,cv,hvv,hbv,z0,z1,z2⟩:=y6g HM0.out.1.v hvl
       injection hvv with e2 _ e4
       subst e2 e4
       have HVc:Hid (∀ w',Below wr.heap.size wr w'->w'.cell? ⟨bv,ov+v * 3,none⟩=some (.string m.vars[v].name)/\w'.cell? ⟨bv,ov+v * 3+1,none⟩=some (.int .i64 m.vars[v].lo)/\w'.cell? ⟨bv,ov+v * 3+2,none⟩=some (.int .i64 m.vars[v].hi)):=fun w' hb=>
        ⟨(hb.cell (p:=⟨bv,ov+v * 3,none⟩) hbv).trans z0,(hb.cell (p:=⟨bv,ov+v * 3+1,none⟩) hbv).trans z1,(hb.cell (p:=⟨bv,ov+v * 3+2,none⟩) hbv).trans z2⟩
       have hbds:=HO.out.bd _ (List.getElem_mem hvl)
       obtain ⟨hb1,hb2,_⟩:=Md.bounds_of hbds
       have hNm:yc m.vars[v].name.data.toList=m.vars[v].name:=Ya _
       have HD4:Hid ((decide (ws=varW m.vars[v])&&yX m (T.drop (i+1)) (v+1) c g)=RR):=by have:=HD3.out;rw [dif_pos hvl] at this;exact this
       have HVW:Hid (varW m.vars[v]=[]++[[118,97,114]]++[m.vars[v].name.data.toList]++[Lib.itoa m.vars[v].lo]++[Lib.itoa m.vars[v].hi]):=rfl
       obtain ⟨X1,hX1⟩:∃ X1,m.vars[v].name=X1:=⟨_,rfl⟩
       obtain ⟨lo,hlo⟩:∃ lo,m.vars[v].lo=lo:=⟨_,rfl⟩
       obtain ⟨hi',hhi⟩:∃ hi',m.vars[v].hi=hi':=⟨_,rfl⟩
       obtain ⟨VW,hVW⟩:∃ VW,varW m.vars[v]=VW:=⟨_,rfl⟩
       rw [hX1,hlo,hhi] at HVc
       rw [hX1] at hNm
       rw [hVW,hX1,hlo,hhi] at HVW
       rw [hVW] at HD4
       rw [hlo] at hb1
       rw [hhi] at hb2
       clear z0 z1 z2 hbds hX1 hlo hhi hVW HD3 hbv
       have HS1:Hid (∀ w',WrM wr P P m (.slice (some ⟨bv,ov,none⟩) m.vars.length vp) (.slice ca m.cons.length cp) (.slice ga m.goal.length gp) ([]) (-1) w'->Calls Tryz.prog 37 #[.pointer (some ⟨P,0,none⟩),.string ⟨#[118,97,114]⟩] w' (WrMO wr P P m (.slice (some ⟨bv,ov,none⟩) m.vars.length vp) (.slice ca m.cons.length cp) (.slice ga m.goal.length gp) ([]++[[118,97,114]]) (-1) w')):=fun w' h'=>(show _ from zN h' (by simp) [118,97,114])
       have HS2:Hid (∀ w',WrM wr P P m (.slice (some ⟨bv,ov,none⟩) m.vars.length vp) (.slice ca m.cons.length cp) (.slice ga m.goal.length gp) ([]++[[118,97,114]]) (-1) w'->Calls Tryz.prog 37 #[.pointer (some ⟨P,0,none⟩),.string X1] w' (WrMO wr P P m (.slice (some ⟨bv,ov,none⟩) m.vars.length vp) (.slice ca m.cons.length cp) (.slice ga m.goal.length gp) ([]++[[118,97,114]]++[X1.data.toList]) (-1) w')):=fun w' h'=>by have:=zN h' (by simp) X1.data.toList;rw [hNm] at this;exact this
       have HS3:Hid (∀ w',WrM wr P P m (.slice (some ⟨bv,ov,none⟩) m.vars.length vp) (.slice ca m.cons.length cp) (.slice ga m.goal.length gp) ([]++[[118,97,114]]++[X1.data.toList]) (-1) w'->Calls Tryz.prog 38 #[.pointer (some ⟨P,0,none⟩),.int .i64 lo] w' (WrMO wr P P m (.slice (some ⟨bv,ov,none⟩) m.vars.length vp) (.slice ca m.cons.length cp) (.slice ga m.goal.length gp) ([]++[[118,97,114]]++[X1.data.toList]++[Lib.itoa lo]) (-1) w')):=fun w' h'=>xG h' (by simp) lo hb1
       have HS4:Hid (∀ w',WrM wr P P m (.slice (some ⟨bv,ov,none⟩) m.vars.length vp) (.slice ca m.cons.length cp) (.slice ga m.goal.length gp) ([]++[[118,97,114]]++[X1.data.toList]++[Lib.itoa lo]) (-1) w'->Calls Tryz.prog 38 #[.pointer (some ⟨P,0,none⟩),.int .i64 hi'] w' (WrMO wr P P m (.slice (some ⟨bv,ov,none⟩) m.vars.length vp) (.slice ca m.cons.length cp) (.slice ga m.goal.length gp) ([]++[[118,97,114]]++[X1.data.toList]++[Lib.itoa lo]++[Lib.itoa hi']) (-1) w')):=fun w' h'=>xG h' (by simp) hi' hb2
       have HIs0:Hid (∀ w',WrM wr P P m (.slice (some ⟨bv,ov,none⟩) m.vars.length vp) (.slice ca m.cons.length cp) (.slice ga m.goal.length gp) ([]++[[118,97,114]]++[X1.data.toList]++[Lib.itoa lo]++[Lib.itoa hi']) (-1) w'->Calls Tryz.prog 41 #[.pointer (some ⟨P,0,none⟩),.slice (some ⟨gu,0,none⟩) ws.length uc,.int .i64 ((v:Int)+1)] w' (SmO (ws=VW/\(-1:Int)<((v+1:Nat):Int)) w')):=fun w' h'=>by
        obtain ⟨lv,hw⟩:=h'.wr
        rw [HVW.out]
        exact XC hw ws _ _ (HRow.out w' h'.at) (v+1)
       obtain ⟨z0,z1,z2⟩:=HVc.out wr (Below.refl _ _)
       obtain ⟨q0,q1,q2⟩:=HVc.out W1 HWM.out.at
       clear z0 z1 z2
       by_cases hq:ws=VW
       case pos=>
        have HIs:Hid (∀ w',WrM wr P P m (.slice (some ⟨bv,ov,none⟩) m.vars.length vp) (.slice ca m.cons.length cp) (.slice ga m.goal.length gp) ([]++[[118,97,114]]++[X1.data.toList]++[Lib.itoa lo]++[Lib.itoa hi']) (-1) w'->Calls Tryz.prog 41 #[.pointer (some ⟨P,0,none⟩),.slice (some ⟨gu,0,none⟩) ws.length uc,.int .i64 ((v:Int)+1)] w' fun e w3=>e=.returned (.bool true)/\Below w'.heap.size w' w3):=fun w' h'=>(HIs0.out w' h').mono fun e w3 hh=>hh.one ⟨hq,by omega⟩
        have HNx:Hid (yX m (T.drop (i+1)) (v+1) c g=RR):=by have:=HD4.out;rw [decide_eq_true hq] at this;exact this
        clear hq HIs0 HD4
        go_wp2_with (first
         | (go_at_call 37;refine cZ (HS1.out W1 HWM.out) ?_;rintro e v2 ⟨rfl,hj⟩;(have H2:Hid (WrM wr P P m (.slice (some ⟨bv,ov,none⟩) m.vars.length vp) (.slice ca m.cons.length cp) (.slice ga m.goal.length gp) ([]++[[118,97,114]]) (-1) v2):=hj.1);clear hj p0 p1 p2 p3 y0 y1 q0 q1 q2 r0 r1 r2 r3 s0 s1;obtain ⟨⟨p0,p1,p2,p3⟩,y0,y1⟩:=HFt.out v2 H2.out.at;obtain ⟨q0,q1,q2⟩:=HVc.out v2 H2.out.at)
         | (go_at_call 37;refine cZ (HS2.out v2 H2.out) ?_;rintro e v3 ⟨rfl,hj⟩;(have H3:Hid (WrM wr P P m (.slice (some ⟨bv,ov,none⟩) m.vars.length vp) (.slice ca m.cons.length cp) (.slice ga m.goal.length gp) ([]++[[118,97,114]]++[X1.data.toList]) (-1) v3):=hj.1);clear hj p0 p1 p2 p3 y0 y1 q0 q1 q2;obtain ⟨⟨p0,p1,p2,p3⟩,y0,y1⟩:=HFt.out v3 H3.out.at;obtain ⟨q0,q1,q2⟩:=HVc.out v3 H3.out.at)
         | (go_at_call 38;refine cZ (HS3.out v3 H3.out) ?_;rintro e v4 ⟨rfl,hj⟩;(have H4:Hid (WrM wr P P m (.slice (some ⟨bv,ov,none⟩) m.vars.length vp) (.slice ca m.cons.length cp) (.slice ga m.goal.length gp) ([]++[[118,97,114]]++[X1.data.toList]++[Lib.itoa lo]) (-1) v4):=hj.1);clear hj p0 p1 p2 p3 y0 y1 q0 q1 q2;obtain ⟨⟨p0,p1,p2,p3⟩,y0,y1⟩:=HFt.out v4 H4.out.at;obtain ⟨q0,q1,q2⟩:=HVc.out v4 H4.out.at)
         | (go_at_call 38;refine cZ (HS4.out v4 H4.out) ?_;rintro e v5 ⟨rfl,hj⟩;(have H5:Hid (WrM wr P P m (.slice (some ⟨bv,ov,none⟩) m.vars.length vp) (.slice ca m.cons.length cp) (.slice ga m.goal.length gp) ([]++[[118,97,114]]++[X1.data.toList]++[Lib.itoa lo]++[Lib.itoa hi']) (-1) v5):=hj.1);clear hj p0 p1 p2 p3 y0 y1 q0 q1 q2;obtain ⟨⟨p0,p1,p2,p3⟩,y0,y1⟩:=HFt.out v5 H5.out.at;obtain ⟨q0,q1,q2⟩:=HVc.out v5 H5.out.at)
         | (go_at_call 41;refine cZ (HIs.out v5 H5.out) ?_;rintro e v9 ⟨rfl,hj⟩;(have H9:Hid (Below wr.heap.size wr v9):=yi H5.out.at hj);clear hj))
        go_roundw
        case measure=>simp only [RowKit.intOf];omega
        case rel=>exact ⟨i+1,v+1,c,g,by go_num,rfl,rfl,by go_num,by omega,by omega,hc,HNx.out,yi HBr.out H9.out⟩
       case neg=>
        have HIs:Hid (∀ w',WrM wr P P m (.slice (some ⟨bv,ov,none⟩) m.vars.length vp) (.slice ca m.cons.length cp) (.slice ga m.goal.length gp) ([]++[[118,97,114]]++[X1.data.toList]++[Lib.itoa lo]++[Lib.itoa hi']) (-1) w'->Calls Tryz.prog 41 #[.pointer (some ⟨P,0,none⟩),.slice (some ⟨gu,0,none⟩) ws.length uc,.int .i64 ((v:Int)+1)] w' fun e w3=>e=.returned (.bool false)/\Below w'.heap.size w' w3):=fun w' h'=>(HIs0.out w' h').mono fun e w3 hh=>hh.none fun q=>hq q.1
        have HG:Hid (RR=false):=by have:=HD4.out;rw [decide_eq_false hq] at this;exact this.symm
        clear hq HIs0 HD4
        generalize (if g=true then (1:Int) else 0)=gi
        go_wp2_with (first
         | (go_at_call 37;refine cZ (HS1.out W1 HWM.out) ?_;rintro e v2 ⟨rfl,hj⟩;(have H2:Hid (WrM wr P P m (.slice (some ⟨bv,ov,none⟩) m.vars.length vp) (.slice ca m.cons.length cp) (.slice ga m.goal.length gp) ([]++[[118,97,114]]) (-1) v2):=hj.1);clear hj p0 p1 p2 p3 y0 y1 q0 q1 q2 r0 r1 r2 r3 s0 s1;obtain ⟨⟨p0,p1,p2,p3⟩,y0,y1⟩:=HFt.out v2 H2.out.at;obtain ⟨q0,q1,q2⟩:=HVc.out v2 H2.out.at)
         | (go_at_call 37;refine cZ (HS2.out v2 H2.out) ?_;rintro e v3 ⟨rfl,hj⟩;(have H3:Hid (WrM wr P P m (.slice (some ⟨bv,ov,none⟩) m.vars.length vp) (.slice ca m.cons.length cp) (.slice ga m.goal.length gp) ([]++[[118,97,114]]++[X1.data.toList]) (-1) v3):=hj.1);clear hj p0 p1 p2 p3 y0 y1 q0 q1 q2;obtain ⟨⟨p0,p1,p2,p3⟩,y0,y1⟩:=HFt.out v3 H3.out.at;obtain ⟨q0,q1,q2⟩:=HVc.out v3 H3.out.at)
         | (go_at_call 38;refine cZ (HS3.out v3 H3.out) ?_;rintro e v4 ⟨rfl,hj⟩;(have H4:Hid (WrM wr P P m (.slice (some ⟨bv,ov,none⟩) m.vars.length vp) (.slice ca m.cons.length cp) (.slice ga m.goal.length gp) ([]++[[118,97,114]]++[X1.data.toList]++[Lib.itoa lo]) (-1) v4):=hj.1);clear hj p0 p1 p2 p3 y0 y1 q0 q1 q2;obtain ⟨⟨p0,p1,p2,p3⟩,y0,y1⟩:=HFt.out v4 H4.out.at;obtain ⟨q0,q1,q2⟩:=HVc.out v4 H4.out.at)
         | (go_at_call 38;refine cZ (HS4.out v4 H4.out) ?_;rintro e v5 ⟨rfl,hj⟩;(have H5:Hid (WrM wr P P m (.slice (some ⟨bv,ov,none⟩) m.vars.length vp) (.slice ca m.cons.length cp) (.slice ga m.goal.length gp) ([]++[[118,97,114]]++[X1.data.toList]++[Lib.itoa lo]++[Lib.itoa hi']) (-1) v5):=hj.1);clear hj p0 p1 p2 p3 y0 y1 q0 q1 q2;obtain ⟨⟨p0,p1,p2,p3⟩,y0,y1⟩:=HFt.out v5 H5.out.at;obtain ⟨q0,q1,q2⟩:=HVc.out v5 H5.out.at)
         | (go_at_call 41;refine cZ (HIs.out v5 H5.out) ?_;rintro e v9 ⟨rfl,hj⟩;(have H9:Hid (Below wr.heap.size wr v9):=yi H5.out.at hj);clear hj))
        go_ret
        exact DeO.of HG.out (yi HM0.out.2 H9.out)
     case neg=>
      have e1:(F0.toList==([118,97,114]:List UInt8))=false:=(hbe [118,97,114]).trans (decide_eq_false hfv)
      by_cases hfm:f0=wMin
      case pos=>
       have e3:(F0.toList==([109,105,110,105,109,105,122,101]:List UInt8))=true:=(hbe [109,105,110,105,109,105,122,101]).trans (decide_eq_true hfm)
       have HD3:Hid ((!g&&(m.has&&(decide (ws=Ym m/\xh (m.goal.map (·.2))<(v:Int))&&yX m (T.drop (i+1)) v c true)))=RR):=by
        show _=_
        rw [<-y6c (by rw [hhd];exact hfv) (hhd.trans hfm)]
        exact HD2.out
       clear HD2 hfv hfm hbe hhd
       cases g
       case true=>
        have HG:Hid (RR=false):=HD3.out.symm
        clear HD3
        go_wp2_with fail
        go_ret
        exact DeO.of HG.out HBW1.out
       case false=>
        cases mh
        case false=>
         have HG:Hid (RR=false):=by have:=HD3.out;rw [HMh.out] at this;exact this.symm
         clear HD3
         go_wp2_with fail
         go_ret
         exact DeO.of HG.out HBW1.out
        case true=>
         have HD4:Hid ((decide (ws=Ym m/\xh (m.goal.map (·.2))<(v:Int))&&yX m (T.drop (i+1)) v c true)=RR):=by have:=HD3.out;rw [HMh.out] at this;exact this
         obtain ⟨hg1,hg2,hg3⟩:=HO.out.goal HMh.out
         obtain ⟨p,hp⟩:∃ p:Prop,(ws=Ym m/\xh (m.goal.map (·.2))<(v:Int))=p:=⟨_,rfl⟩
         clear HD3
         have HS1:Hid (∀ w',WrM wr P P m (.slice va m.vars.length vp) (.slice ca m.cons.length cp) (.slice ga m.goal.length gp) ([]) (-1) w'->Calls Tryz.prog 37 #[.pointer (some ⟨P,0,none⟩),.string ⟨#[109,105,110,105,109,105,122,101]⟩] w' (WrMO wr P P m (.slice va m.vars.length vp) (.slice ca m.cons.length cp) (.slice ga m.goal.length gp) ([]++[[109,105,110,105,109,105,122,101]]) (-1) w')):=fun w' h'=>(show _ from zN h' (by simp) [109,105,110,105,109,105,122,101])
         have HS2:Hid (∀ w',WrM wr P P m (.slice va m.vars.length vp) (.slice ca m.cons.length cp) (.slice ga m.goal.length gp) ([]++[[109,105,110,105,109,105,122,101]]) (-1) w'->Calls Tryz.prog 39 #[.pointer (some ⟨P,0,none⟩),.slice ga m.goal.length gp] w' (WrMO wr P P m (.slice va m.vars.length vp) (.slice ca m.cons.length cp) (.slice ga m.goal.length gp) ([]++[[109,105,110,105,109,105,122,101]]++sumW m.vars m.goal) ((m.goal.map (·.2)).foldl max (-1)) w')):=fun w' h'=>XB h' m.goal (.slice ga m.goal.length gp) HM0.out.1.g hg3 (by simp;omega)
         have HIs0:Hid (∀ w',WrM wr P P m (.slice va m.vars.length vp) (.slice ca m.cons.length cp) (.slice ga m.goal.length gp) ([]++[[109,105,110,105,109,105,122,101]]++sumW m.vars m.goal) ((m.goal.map (·.2)).foldl max (-1)) w'->Calls Tryz.prog 41 #[.pointer (some ⟨P,0,none⟩),.slice (some ⟨gu,0,none⟩) ws.length uc,.int .i64 (v:Int)] w' (SmO p w')):=fun w' h'=>by
          obtain ⟨lv,hw⟩:=h'.wr
          rw [<-hp]
          exact XC hw ws _ _ (HRow.out w' h'.at) v
         clear hg1 hg2 hg3
         by_cases hq:p
         case pos=>
          have HIs:Hid (∀ w',WrM wr P P m (.slice va m.vars.length vp) (.slice ca m.cons.length cp) (.slice ga m.goal.length gp) ([]++[[109,105,110,105,109,105,122,101]]++sumW m.vars m.goal) ((m.goal.map (·.2)).foldl max (-1)) w'->Calls Tryz.prog 41 #[.pointer (some ⟨P,0,none⟩),.slice (some ⟨gu,0,none⟩) ws.length uc,.int .i64 (v:Int)] w' fun e w3=>e=.returned (.bool true)/\Below w'.heap.size w' w3):=fun w' h'=>(HIs0.out w' h').mono fun e w3 hh=>hh.one hq
          have HNx:Hid (yX m (T.drop (i+1)) v c true=RR):=by have:=HD4.out;rw [decide_eq_true (hp.symm▸hq)] at this;exact this
          clear hq HIs0 HD4 hp
          go_wp2_with (first
           | (go_at_call 37;refine cZ (HS1.out W1 HWM.out) ?_;rintro e v2 ⟨rfl,hj⟩;(have H2:Hid (WrM wr P P m (.slice va m.vars.length vp) (.slice ca m.cons.length cp) (.slice ga m.goal.length gp) ([]++[[109,105,110,105,109,105,122,101]]) (-1) v2):=hj.1);clear hj p0 p1 p2 p3 y0 y1 r0 r1 r2 r3 s0 s1;obtain ⟨⟨p0,p1,p2,p3⟩,y0,y1⟩:=HFt.out v2 H2.out.at)
           | (go_at_call 39;refine cZ (HS2.out v2 H2.out) ?_;rintro e v3 ⟨rfl,hj⟩;(have H3:Hid (WrM wr P P m (.slice va m.vars.length vp) (.slice ca m.cons.length cp) (.slice ga m.goal.length gp) ([]++[[109,105,110,105,109,105,122,101]]++sumW m.vars m.goal) ((m.goal.map (·.2)).foldl max (-1)) v3):=hj.1);clear hj p0 p1 p2 p3 y0 y1;obtain ⟨⟨p0,p1,p2,p3⟩,y0,y1⟩:=HFt.out v3 H3.out.at)
           | (go_at_call 41;refine cZ (HIs.out v3 H3.out) ?_;rintro e v9 ⟨rfl,hj⟩;(have H9:Hid (Below wr.heap.size wr v9):=yi H3.out.at hj);clear hj))
          go_roundw
          case measure=>simp only [RowKit.intOf];omega
          case rel=>exact ⟨i+1,v,c,true,rfl,rfl,rfl,by go_num,by omega,hv,hc,HNx.out,yi HBr.out H9.out⟩
         case neg=>
          have HIs:Hid (∀ w',WrM wr P P m (.slice va m.vars.length vp) (.slice ca m.cons.length cp) (.slice ga m.goal.length gp) ([]++[[109,105,110,105,109,105,122,101]]++sumW m.vars m.goal) ((m.goal.map (·.2)).foldl max (-1)) w'->Calls Tryz.prog 41 #[.pointer (some ⟨P,0,none⟩),.slice (some ⟨gu,0,none⟩) ws.length uc,.int .i64 (v:Int)] w' fun e w3=>e=.returned (.bool false)/\Below w'.heap.size w' w3):=fun w' h'=>(HIs0.out w' h').mono fun e w3 hh=>hh.none hq
          have HG:Hid (RR=false):=by have:=HD4.out;rw [decide_eq_false (hp.symm▸hq)] at this;exact this.symm
          clear hq HIs0 HD4 hp
          go_wp2_with (first
           | (go_at_call 37;refine cZ (HS1.out W1 HWM.out) ?_;rintro e v2 ⟨rfl,hj⟩;(have H2:Hid (WrM wr P P m (.slice va m.vars.length vp) (.slice ca m.cons.length cp) (.slice ga m.goal.length gp) ([]++[[109,105,110,105,109,105,122,101]]) (-1) v2):=hj.1);clear hj p0 p1 p2 p3 y0 y1 r0 r1 r2 r3 s0 s1;obtain ⟨⟨p0,p1,p2,p3⟩,y0,y1⟩:=HFt.out v2 H2.out.at)
           | (go_at_call 39;refine cZ (HS2.out v2 H2.out) ?_;rintro e v3 ⟨rfl,hj⟩;(have H3:Hid (WrM wr P P m (.slice va m.vars.length vp) (.slice ca m.cons.length cp) (.slice ga m.goal.length gp) ([]++[[109,105,110,105,109,105,122,101]]++sumW m.vars m.goal) ((m.goal.map (·.2)).foldl max (-1)) v3):=hj.1);clear hj p0 p1 p2 p3 y0 y1;obtain ⟨⟨p0,p1,p2,p3⟩,y0,y1⟩:=HFt.out v3 H3.out.at)
           | (go_at_call 41;refine cZ (HIs.out v3 H3.out) ?_;rintro e v9 ⟨rfl,hj⟩;(have H9:Hid (Below wr.heap.size wr v9):=yi H3.out.at hj);clear hj))
          go_ret
          exact DeO.of HG.out (yi HM0.out.2 H9.out)
      case neg=>
       have e3:(F0.toList==([109,105,110,105,109,105,122,101]:List UInt8))=false:=(hbe [109,105,110,105,109,105,122,101]).trans (decide_eq_false hfm)
       have HD3:Hid ((if h:c<m.cons.length then decide (ws=conW m.vars m.cons[c]/\xh (yM m.cons[c])<(v:Int))&&yX m (T.drop (i+1)) v (c+1) g else false)=RR):=by
        show _=_
        rw [<-y6d (by rw [hhd];exact hfv) (by rw [hhd];exact hfm)]
        exact HD2.out
       clear HD2 hfv hfm hbe hhd
       obtain ⟨gi,hgi⟩:∃ gi:Int,(if g=true then (1:Int) else 0)=gi:=⟨_,rfl⟩
       rw [hgi]
       have HGi:Hid ((if g=true then (1:Int) else 0)=gi):=hgi
       clear hgi
       by_cases hcl:c<m.cons.length
       case neg=>
        have k1:((c:Int)==(m.cons.length:Int))=true:=by simp;omega
        have HG:Hid (RR=false):=by have:=HD3.out;rw [dif_neg hcl] at this;exact this.symm
        clear hcl HD3
        go_wp2_with fail
        go_ret
        exact DeO.of HG.out HBW1.out
       case pos=>
        have hcn:¬ c=m.cons.length:=by omega
        have k1:((c:Int)==(m.cons.length:Int))=false:=by simp;omega
        have hcI:(c:Int)<(m.cons.length:Int):=by omega
        have HD4:Hid ((decide (ws=conW m.vars m.cons[c]/\xh (yM m.cons[c])<(v:Int))&&yX m (T.drop (i+1)) v (c+1) g)=RR):=by have:=HD3.out;rw [dif_pos hcl] at this;exact this
        obtain ⟨bc,oc,cc,ct,cx,cb,cr,hvv,hbc,hcn0,hcc⟩:=y6h HM0.out.1.c hcl
        injection hvv with e2 _ e4
        subst e2 e4
        have hfl:=HO.out.con _ (List.getElem_mem hcl)
        obtain ⟨cn,hcnE⟩:∃ cn,m.cons[c]=cn:=⟨_,rfl⟩
        rw [hcnE] at HD4 hcn0 hcc hfl
        obtain ⟨p,hp⟩:∃ p:Prop,(ws=conW m.vars cn/\xh (yM cn)<(v:Int))=p:=⟨_,rfl⟩
        have HS1a:∀ w',WrM wr P P m (.slice va m.vars.length vp) (.slice (some ⟨bc,oc,none⟩) m.cons.length cp) (.slice ga m.goal.length gp) ([]) (-1) w'->Calls Tryz.prog 40 #[.pointer (some ⟨P,0,none⟩),yv cn ct cx cb cr] w' (WrMO wr P P m (.slice va m.vars.length vp) (.slice (some ⟨bc,oc,none⟩) m.cons.length cp) (.slice ga m.goal.length gp) ([]++conW m.vars cn) ((yM cn).foldl max (-1)) w'):=fun w' h'=>y68 h' (by simp) cn ct cx cb cr hcn0 hfl
        obtain ⟨ta,tc,rfl,_⟩:=hcn0.t.form
        obtain ⟨xa,xc,rfl,_⟩:=hcn0.x.form
        obtain ⟨ba,bcc,rfl,_⟩:=hcn0.b.form
        obtain ⟨rra,rrc,rfl,_⟩:=hcn0.r.form
        have HCc:Hid (∀ w',Below wr.heap.size wr w'->CnCells w' bc (oc+c * 10) cn (.slice ta cn.terms.length tc) (.slice xa cn.xs.length xc) (.slice ba cn.table.length bcc) (.slice rra cn.rows.length rrc)):=fun w' hb=>hcc.below_at hb hbc
        unfold yv at HS1a
        unfold CnCells at HCc
        have HS1:Hid (∀ w',WrM wr P P m (.slice va m.vars.length vp) (.slice (some ⟨bc,oc,none⟩) m.cons.length cp) (.slice ga m.goal.length gp) ([]) (-1) w'->Calls Tryz.prog 40 #[.pointer (some ⟨P,0,none⟩),.agg #[.int .i64 cn.kind,.int .i64 cn.op,.slice ta cn.terms.length tc,.int .i64 cn.k,.int .i64 cn.v,.int .i64 cn.x,.int .i64 cn.y,.slice xa cn.xs.length xc,.slice ba cn.table.length bcc,.slice rra cn.rows.length rrc]] w' (WrMO wr P P m (.slice va m.vars.length vp) (.slice (some ⟨bc,oc,none⟩) m.cons.length cp) (.slice ga m.goal.length gp) ([]++conW m.vars cn) ((yM cn).foldl max (-1)) w')):=HS1a
        have HIs0:Hid (∀ w',WrM wr P P m (.slice va m.vars.length vp) (.slice (some ⟨bc,oc,none⟩) m.cons.length cp) (.slice ga m.goal.length gp) ([]++conW m.vars cn) ((yM cn).foldl max (-1)) w'->Calls Tryz.prog 41 #[.pointer (some ⟨P,0,none⟩),.slice (some ⟨gu,0,none⟩) ws.length uc,.int .i64 (v:Int)] w' (SmO p w')):=fun w' h'=>by
         obtain ⟨lv,hw⟩:=h'.wr
         rw [<-hp]
         exact XC hw ws _ _ (HRow.out w' h'.at) v
        obtain ⟨q0,q1,q2,q3,q4,q5,q6,q7,q8,q9⟩:=HCc.out W1 HWM.out.at
        clear HS1a hcn0 hcc hfl hcnE HD3 hbc
        by_cases hq:p
        case pos=>
         have HIs:Hid (∀ w',WrM wr P P m (.slice va m.vars.length vp) (.slice (some ⟨bc,oc,none⟩) m.cons.length cp) (.slice ga m.goal.length gp) ([]++conW m.vars cn) ((yM cn).foldl max (-1)) w'->Calls Tryz.prog 41 #[.pointer (some ⟨P,0,none⟩),.slice (some ⟨gu,0,none⟩) ws.length uc,.int .i64 (v:Int)] w' fun e w3=>e=.returned (.bool true)/\Below w'.heap.size w' w3):=fun w' h'=>(HIs0.out w' h').mono fun e w3 hh=>hh.one hq
         have HNx:Hid (yX m (T.drop (i+1)) v (c+1) g=RR):=by have:=HD4.out;rw [decide_eq_true (hp.symm▸hq)] at this;exact this
         clear hq HIs0 HD4 hp
         go_wp2_with (first
          | (go_at_call 40;refine cZ (HS1.out W1 HWM.out) ?_;rintro e v2 ⟨rfl,hj⟩;(have H2:Hid (WrM wr P P m (.slice va m.vars.length vp) (.slice (some ⟨bc,oc,none⟩) m.cons.length cp) (.slice ga m.goal.length gp) ([]++conW m.vars cn) ((yM cn).foldl max (-1)) v2):=hj.1);clear hj p0 p1 p2 p3 y0 y1 q0 q1 q2 q3 q4 q5 q6 q7 q8 q9 r0 r1 r2 r3 s0 s1;obtain ⟨⟨p0,p1,p2,p3⟩,y0,y1⟩:=HFt.out v2 H2.out.at)
          | (go_at_call 41;refine cZ (HIs.out v2 H2.out) ?_;rintro e v9 ⟨rfl,hj⟩;(have H9:Hid (Below wr.heap.size wr v9):=yi H2.out.at hj);clear hj))
         go_roundw
         case measure=>simp only [RowKit.intOf];omega
         case rel=>exact ⟨i+1,v,c+1,g,rfl,by go_num,congrArg (Value.int .i64) HGi.out.symm,by go_num,by omega,hv,by omega,HNx.out,yi HBr.out H9.out⟩
        case neg=>
         have HIs:Hid (∀ w',WrM wr P P m (.slice va m.vars.length vp) (.slice (some ⟨bc,oc,none⟩) m.cons.length cp) (.slice ga m.goal.length gp) ([]++conW m.vars cn) ((yM cn).foldl max (-1)) w'->Calls Tryz.prog 41 #[.pointer (some ⟨P,0,none⟩),.slice (some ⟨gu,0,none⟩) ws.length uc,.int .i64 (v:Int)] w' fun e w3=>e=.returned (.bool false)/\Below w'.heap.size w' w3):=fun w' h'=>(HIs0.out w' h').mono fun e w3 hh=>hh.none hq
         have HG:Hid (RR=false):=by have:=HD4.out;rw [decide_eq_false (hp.symm▸hq)] at this;exact this.symm
         clear hq HIs0 HD4 hp
         go_wp2_with (first
          | (go_at_call 40;refine cZ (HS1.out W1 HWM.out) ?_;rintro e v2 ⟨rfl,hj⟩;(have H2:Hid (WrM wr P P m (.slice va m.vars.length vp) (.slice (some ⟨bc,oc,none⟩) m.cons.length cp) (.slice ga m.goal.length gp) ([]++conW m.vars cn) ((yM cn).foldl max (-1)) v2):=hj.1);clear hj p0 p1 p2 p3 y0 y1 q0 q1 q2 q3 q4 q5 q6 q7 q8 q9 r0 r1 r2 r3 s0 s1;obtain ⟨⟨p0,p1,p2,p3⟩,y0,y1⟩:=HFt.out v2 H2.out.at)
          | (go_at_call 41;refine cZ (HIs.out v2 H2.out) ?_;rintro e v9 ⟨rfl,hj⟩;(have H9:Hid (Below wr.heap.size wr v9):=yi H2.out.at hj);clear hj))
         go_ret
         exact DeO.of HG.out (yi HM0.out.2 H9.out)
end Go.Proofs.YthohnmplbjhjaaaGreatDoor

namespace Go.Proofs.YthohnmplbjhjaaaGreatDoor
open Go Go.RowKit Go.Shelf Go.Lib RegT
attribute [local go_sem] Oper.semAt_some
theorem ZL {w w':World} {N P:Nat} {c:Array Value} {t:TypeId} (h:w.heap[N]?=some (.cells c t (0,0))) (hg:w.grownBy w' (some P)) (hP:N<P):w'.heap[N]?=some (.cells c t (0,0)):=
 (hg.block N (Array.getElem?_eq_some_iff.1 h).1 (by intro h;injection h with h;omega)).trans h
set_option maxRecDepth 100000 in
set_option maxHeartbeats 8000000 in
theorem textOne_any (s:List UInt8) (m n:Md.Mo) (vv vc vg uv uc ug:Value) (w:World) (hM:MoAt w m vv vc vg) (hN:MoAt w n uv uc ug) (hw:Way w w) (hkn:∀ w,Way w w->Calls Tryz.prog 11 #[] w (KnO w)):Calls Tryz.prog 7 #[.string (yc s),.agg #[vv,vc,.bool m.has,vg],.agg #[uv,uc,.bool n.has,ug]] w (KnO w):=by
 have hsz:(yc s).size=s.length:=zL s
 obtain ⟨va,vp,rfl,_⟩:=hM.v.form
 obtain ⟨ca,cp,rfl,_⟩:=hM.c.form
 obtain ⟨ga,gp,rfl,_⟩:=hM.g.form
 obtain ⟨xa,xp,rfl,_⟩:=hN.v.form
 obtain ⟨ya,yp,rfl,_⟩:=hN.c.form
 obtain ⟨za,zp,rfl,_⟩:=hN.g.form
 have HW:Hid (Way w w):=hw
 have HKn:Hid (∀ w,Way w w->Calls Tryz.prog 11 #[] w (KnO w)):=hkn
 obtain ⟨W1,hW1⟩:∃ W,w.alloc (.cells #[.slice va m.vars.length vp,.slice ca m.cons.length cp,.bool m.has,.slice ga m.goal.length gp] 26)=W:=⟨_,rfl⟩
 obtain ⟨W2,hW2⟩:∃ W,W1.alloc (.cells #[.slice xa n.vars.length xp,.slice ya n.cons.length yp,.bool n.has,.slice za n.goal.length zp] 26)=W:=⟨_,rfl⟩
 obtain ⟨N1,hN1⟩:∃ N1,w.heap.size=N1:=⟨_,rfl⟩
 obtain ⟨N2,hN2⟩:∃ N2,W1.heap.size=N2:=⟨_,rfl⟩
 have hb1:Below w.heap.size w W1:=by rw [<-hW1];exact zk _ _
 have hb12:Below W1.heap.size W1 W2:=by rw [<-hW2];exact zk _ _
 have g1:W1.heap[N1]?=some (.cells #[.slice va m.vars.length vp,.slice ca m.cons.length cp,.bool m.has,.slice ga m.goal.length gp] 26 (0,0)):=by rw [<-hW1,<-hN1];exact heap_alloc_new w _
 have g1':=ZK g1 hb12
 have g2:W2.heap[N2]?=some (.cells #[.slice xa n.vars.length xp,.slice ya n.cons.length yp,.bool n.has,.slice za n.goal.length zp] 26 (0,0)):=by rw [<-hW2,<-hN2];exact heap_alloc_new W1 _
 obtain ⟨W3,hW3⟩:∃ W3,W2.alloc (.cells #[.int .i64 20000] 53)=W3:=⟨_,rfl⟩
 obtain ⟨N3,hN3⟩:∃ N3,W2.heap.size=N3:=⟨_,rfl⟩
 have hb23:Below W2.heap.size W2 W3:=by rw [<-hW3];exact zk _ _
 have hlt1:N1<N3:=by rw [<-hN3];exact (Array.getElem?_eq_some_iff.1 g1').1
 have hlt2:N2<N3:=by rw [<-hN3];exact (Array.getElem?_eq_some_iff.1 g2).1
 have hcnt:CountAt W3 N3 20000:=by rw [<-hW3,<-hN3];exact heap_alloc_new W2 _
 have hb3:Below w.heap.size w W3:=yi (yi hb1 hb12) hb23
 have G1:=ZK g1' hb23
 have G2:=ZK g2 hb23
 have H8:Hid (Calls Tryz.prog 8 #[.int .i64 20000] W2 fun e w'=>e=.returned (.pointer (some ⟨N3,0,none⟩))/\w'=W3):=by
  have:=y15 20000 W2
  rw [hW3,hN3] at this;exact this
 have HP:Hid (w.heap.size<=N3/\N1<N3/\N2<N3):=⟨by omega,hlt1,hlt2⟩
 have H9a:Hid (Calls Tryz.prog 9 #[.pointer (some ⟨N3,0,none⟩),.agg #[.slice va m.vars.length vp,.slice ca m.cons.length cp,.bool m.has,.slice ga m.goal.length gp]] W3 fun e w'=>e=.returned (.tuple #[])/\Took N3 20000 (Y8 m) W3 w'):=
  XR N3 20000 m _ _ _ W3 hcnt (by decide) (by decide) w hM hb3 HP.out.1
 have H9b:Hid (∀ w4 l,CountAt w4 N3 l->l<=20000->-9223372036854775807<=l->Below w.heap.size w w4->Calls Tryz.prog 9 #[.pointer (some ⟨N3,0,none⟩),.agg #[.slice xa n.vars.length xp,.slice ya n.cons.length yp,.bool n.has,.slice za n.goal.length zp]] w4 fun e w'=>e=.returned (.tuple #[])/\Took N3 l (Y8 n) w4 w'):=
  fun w4 l h h1 h2 h3=>XR N3 l n _ _ _ w4 h h1 h2 w hN h3 HP.out.1
 have HMM:Hid (MoAt w m (.slice va m.vars.length vp) (.slice ca m.cons.length cp) (.slice ga m.goal.length gp)):=hM
 have HNN:Hid (MoAt w n (.slice xa n.vars.length xp) (.slice ya n.cons.length yp) (.slice za n.goal.length zp)):=hN
 have HB3:Hid (Below w.heap.size w W3):=hb3
 have HG3:Hid (W3.heap[N1]?=some (.cells #[.slice va m.vars.length vp,.slice ca m.cons.length cp,.bool m.has,.slice ga m.goal.length gp] 26 (0,0))/\W3.heap[N2]?=some (.cells #[.slice xa n.vars.length xp,.slice ya n.cons.length yp,.bool n.has,.slice za n.goal.length zp] 26 (0,0))):=⟨G1,G2⟩
 obtain ⟨p0,p1,p2,p3⟩:=yP HG3.out.1 (Below.refl _ _)
 obtain ⟨q0,q1,q2,q3⟩:=yP HG3.out.2 (Below.refl _ _)
 clear hM hN hw hkn hb1 hb12 g1 g1' g2 hW3 hN3 hb23 hlt1 hlt2 hcnt hb3 G1 G2
 obtain ⟨X,hX⟩:∃ X,yc s=X:=⟨_,rfl⟩
 have HX:Hid (yc s=X/\X.size=s.length):=⟨hX,by rw [<-hX];exact hsz⟩
 rw [hX]
 clear hX hsz
 go_enter Tryz.func7,Tryz.ntmps7
 go_upto_region 4 with (first
  | (go_at_call 8;refine cZ H8.out ?_;rintro e w' ⟨rfl,hww⟩;rw [hww];clear hww)
  | (go_at_call 9;refine cZ H9a.out ?_;rintro e w4 ⟨rfl,⟨⟨l2,hC2,h21,h22,hT2⟩,hG2⟩⟩;(have HC2:Hid (CountAt w4 N3 l2/\l2<=20000/\-9223372036854775807<=l2):=⟨hC2,h21,h22⟩);(have HB4:Hid (Below w.heap.size w w4):=ZR HB3.out hG2 HP.out.1);(have HG4:Hid (w4.heap[N1]?=some (.cells #[.slice va m.vars.length vp,.slice ca m.cons.length cp,.bool m.has,.slice ga m.goal.length gp] 26 (0,0))/\w4.heap[N2]?=some (.cells #[.slice xa n.vars.length xp,.slice ya n.cons.length yp,.bool n.has,.slice za n.goal.length zp] 26 (0,0))):=⟨ZL HG3.out.1 hG2 HP.out.2.1,ZL HG3.out.2 hG2 HP.out.2.2⟩);obtain ⟨p0,p1,p2,p3⟩:=yP HG4.out.1 (Below.refl _ _);obtain ⟨q0,q1,q2,q3⟩:=yP HG4.out.2 (Below.refl _ _);clear hC2 h21 h22 hT2 hG2)
  | (go_at_call 9;refine cZ (H9b.out w4 l2 HC2.out.1 HC2.out.2.1 HC2.out.2.2 HB4.out) ?_;rintro e w5 ⟨rfl,⟨⟨l3,hC3,_,_,_⟩,hG3⟩⟩;(have HC3:Hid (CountAt w5 N3 l3):=hC3);(have HB5:Hid (Below w.heap.size w w5):=ZR HB4.out hG3 HP.out.1);(have HG5:Hid (w5.heap[N1]?=some (.cells #[.slice va m.vars.length vp,.slice ca m.cons.length cp,.bool m.has,.slice ga m.goal.length gp] 26 (0,0))/\w5.heap[N2]?=some (.cells #[.slice xa n.vars.length xp,.slice ya n.cons.length yp,.bool n.has,.slice za n.goal.length zp] 26 (0,0))):=⟨ZL HG4.out.1 hG3 HP.out.2.1,ZL HG4.out.2 hG3 HP.out.2.2⟩);clear hC3 hG3))
 clear HC2 HB4 HG4 HG3 HB3 H8 H9a H9b hW1 hW2 hN1 hN2 HP
 try clear p0 p1 p2 p3
 try clear q0 q1 q2 q3
 have H10:Hid (Calls Tryz.prog 10 #[.pointer (some ⟨N3,0,none⟩)] w5 fun e w'=>e=.returned (.bool (decide (0<=l3)))/\w'=w5):=xI N3 l3 w5 HC3.out
 clear HC3
 obtain ⟨bl,hbl⟩:∃ bl,decide (0<=l3)=bl:=⟨_,rfl⟩
 rw [hbl] at H10
 clear hbl
 cases bl
 case false=>
  go_wp2_with (go_at_call 10;refine cZ H10.out ?_;rintro e w' ⟨rfl,hww⟩;rw [hww];clear hww)
  go_ret
  exact Yn HB5.out
 case true=>
  by_cases hs:70000<s.length
  ·have h1:decide (70000<(X.size:Int))=true:=decide_eq_true (by have:=HX.out.2;omega)
   clear hs
   go_wp2_with (go_at_call 10;refine cZ H10.out ?_;rintro e w' ⟨rfl,hww⟩;rw [hww];clear hww)
   go_ret
   exact Yn HB5.out
  ·have h1:decide (70000<(X.size:Int))=false:=decide_eq_false (by have:=HX.out.2;omega)
   obtain ⟨hpp,_,_⟩:=y0i (s:=s) (by omega)
   have HPs:Hid (∀ w',Way w' w'->Calls Tryz.prog 13 #[.string X] w' (PoA (yJ s) w')):=fun w' h'=>by
    have:=y6j s w' h' (by omega)
    rw [HX.out.1] at this
    exact this
   have HX:Hid (yc s=X/\X.size=s.length/\s.length<=70000):=⟨HX.out.1,HX.out.2,by omega⟩
   obtain ⟨da,hda⟩:∃ b,derT s m=b:=⟨_,rfl⟩
   obtain ⟨db,hdb⟩:∃ b,derT s n=b:=⟨_,rfl⟩
   have HDa:Hid (derT s m=da):=hda
   have HDb:Hid (derT s n=db):=hdb
   obtain ⟨r,hr⟩:∃ r,yJ s=r:=⟨_,rfl⟩
   have HR:Hid (yJ s=r):=hr
   rw [hr] at HPs hpp
   obtain ⟨q,r0,e0⟩:=r
   simp only at HPs hpp
   have HPp:Hid ((r0=0/\e0=0)∨(e0≠0/\q=zm)):=hpp
   clear hpp hr hda hdb hs
   go_upto_region 8 with (first
    | (go_at_call 10;refine cZ H10.out ?_;rintro e w' ⟨rfl,hww⟩;rw [hww];clear hww)
    | (go_at_call 11;refine cZ (HKn.out w5 (xm HW.out HB5.out)) ?_;rintro e w6 ⟨rfl,hb6⟩;(have HB6:Hid (Below w5.heap.size w5 w6):=hb6);clear hb6))
   have HB6w:Hid (Below w.heap.size w w6):=yi HB5.out HB6.out
   have HHd:Hid (∀ w',Below w6.heap.size w6 w'->(w'.cell? ⟨N1,0,none⟩=some (.slice va m.vars.length vp)/\w'.cell? ⟨N1,1,none⟩=some (.slice ca m.cons.length cp)/\w'.cell? ⟨N1,2,none⟩=some (.bool m.has)/\w'.cell? ⟨N1,3,none⟩=some (.slice ga m.goal.length gp))/\w'.cell? ⟨N2,0,none⟩=some (.slice xa n.vars.length xp)/\w'.cell? ⟨N2,1,none⟩=some (.slice ya n.cons.length yp)/\w'.cell? ⟨N2,2,none⟩=some (.bool n.has)/\w'.cell? ⟨N2,3,none⟩=some (.slice za n.goal.length zp)):=fun w' hb=>⟨yP HG5.out.1 (yi HB6.out hb),yP HG5.out.2 (yi HB6.out hb)⟩
   have HDm:Hid (∀ w',Below w6.heap.size w6 w'->Calls Tryz.prog 19 #[.string X,.agg #[.slice va m.vars.length vp,.slice ca m.cons.length cp,.bool m.has,.slice ga m.goal.length gp]] w' fun e w2=>e=.returned (.bool da)/\Below w'.heap.size w' w2):=fun w' hb=>by
    have:=YP s m _ _ _ w' (HMM.out.below (yi HB6w.out hb)) HX.out.2.2
    rw [HX.out.1,HDa.out] at this
    exact this
   have HDn:Hid (∀ w',Below w6.heap.size w6 w'->Calls Tryz.prog 19 #[.string X,.agg #[.slice xa n.vars.length xp,.slice ya n.cons.length yp,.bool n.has,.slice za n.goal.length zp]] w' fun e w2=>e=.returned (.bool db)/\Below w'.heap.size w' w2):=fun w' hb=>by
    have:=YP s n _ _ _ w' (HNN.out.below (yi HB6w.out hb)) HX.out.2.2
    rw [HX.out.1,HDb.out] at this
    exact this
   clear H10 h1
   have HBd:Hid (Below w6.heap.size w6 w6.drew):=(Below.refl _ _).drew
   refine YK (fun w'=>(w'.cell? ⟨N1,0,none⟩=some (.slice va m.vars.length vp)/\w'.cell? ⟨N1,1,none⟩=some (.slice ca m.cons.length cp)/\w'.cell? ⟨N1,2,none⟩=some (.bool m.has)/\w'.cell? ⟨N1,3,none⟩=some (.slice ga m.goal.length gp))/\w'.cell? ⟨N2,0,none⟩=some (.slice xa n.vars.length xp)/\w'.cell? ⟨N2,1,none⟩=some (.slice ya n.cons.length yp)/\w'.cell? ⟨N2,2,none⟩=some (.bool n.has)/\w'.cell? ⟨N2,3,none⟩=some (.slice za n.goal.length zp)) (fun _=>True) [99] rfl ⟨HHd.out _ HBd.out,trivial⟩ (fun hHeld=>?_)
   generalize w6.drew=U at HBd hHeld ⊢
   refine yg (i:=0) (oi:=⟨some 29,.move (.tmp 0),_,_,_,_⟩) (v:=?v_aa) rfl (by kernel_rfl) (by kernel_rfl) (by kernel_rfl) (by kernel_rfl) (fun _ _ _ h=>h) (Or.inl ⟨by rfl,?hy_aa⟩) (by assumption) ?rest_aa
   case hy_aa=>(intro w hSw;(try dsimp only at hSw);go_simp;try (with_reducible rfl))
   try simp only [Act.put,List.setIfInBounds_toArray,List.set_cons_zero,List.set_cons_succ]
   refine yg (i:=1) (oi:=⟨some 30,.load 26 (.tmp 4),_,_,_,_⟩) (v:=?v_ab) rfl (by kernel_rfl) (by kernel_rfl) (by kernel_rfl) (by kernel_rfl) (fun _ _ _ h=>h) (Or.inl ⟨by rfl,?hy_ab⟩) (by assumption) ?rest_ab
   case hy_ab=>(intro w hSw;(try dsimp only at hSw);go_simp;try (with_reducible rfl))
   try simp only [Act.put,List.setIfInBounds_toArray,List.set_cons_zero,List.set_cons_succ]
   refine yg (i:=3) (oi:=⟨some 32,.move (.tmp 0),_,_,_,_⟩) (v:=?v_ac) rfl (by kernel_rfl) (by kernel_rfl) (by kernel_rfl) (by kernel_rfl) (fun _ _ _ h=>h) (Or.inl ⟨by rfl,?hy_ac⟩) (by assumption) ?rest_ac
   case hy_ac=>(intro w hSw;(try dsimp only at hSw);go_simp;try (with_reducible rfl))
   try simp only [Act.put,List.setIfInBounds_toArray,List.set_cons_zero,List.set_cons_succ]
   refine yg (i:=4) (oi:=⟨some 33,.load 26 (.tmp 5),_,_,_,_⟩) (v:=?v_ad) rfl (by kernel_rfl) (by kernel_rfl) (by kernel_rfl) (by kernel_rfl) (fun _ _ _ h=>h) (Or.inl ⟨by rfl,?hy_ad⟩) (by assumption) ?rest_ad
   case hy_ad=>(intro w hSw;(try dsimp only at hSw);go_simp;try (with_reducible rfl))
   try simp only [Act.put,List.setIfInBounds_toArray,List.set_cons_zero,List.set_cons_succ]
   refine zw (i:=2) (o:=⟨some 31,.call { callee:=.value (.func 19),args:=#[(.tmp 29),(.tmp 30)],argTypes:=#[9,26] },_,_,_,_⟩) (by kernel_rfl) rfl (fun K hK=>?_)
   go_simp
   refine cZ (HDm.out _ HBd.out) ?_
   rintro e w20 ⟨rfl,hbw20⟩
   go_wp2_with fail
   have HB20:Hid (Below w6.heap.size w6 w20):=yi HBd.out hbw20
   clear hbw20 hHeld
   have hHeld:=(⟨HHd.out _ HB20.out,trivial⟩:_/\True)
   refine hK.out _ _ ⟨hHeld.1,fun _=>trivial⟩ ?_
   clear hK K
   refine zw (i:=5) (o:=⟨some 34,.call { callee:=.value (.func 19),args:=#[(.tmp 32),(.tmp 33)],argTypes:=#[9,26] },_,_,_,_⟩) (by kernel_rfl) rfl (fun K hK=>?_)
   go_simp
   refine cZ (HDn.out _ HB20.out) ?_
   rintro e w21 ⟨rfl,hbw21⟩
   go_wp2_with fail
   have HB21:Hid (Below w6.heap.size w6 w21):=yi HB20.out hbw21
   clear hbw21 hHeld
   have hHeld:=(⟨HHd.out _ HB21.out,trivial⟩:_/\True)
   refine hK.out _ _ ⟨hHeld.1,fun _=>trivial⟩ ?_
   clear hK K
   refine yg (i:=6) (oi:=⟨some 8,.assign (.tmp 31),_,_,_,_⟩) (v:=?v_ae) rfl (by kernel_rfl) (by kernel_rfl) (by kernel_rfl) (by kernel_rfl) (fun _ _ _ h=>h) (Or.inl ⟨by rfl,?hy_ae⟩) (by assumption) ?rest_ae
   case hy_ae=>(intro w hSw;(try dsimp only at hSw);go_simp;try (with_reducible rfl))
   try simp only [Act.put,List.setIfInBounds_toArray,List.set_cons_zero,List.set_cons_succ]
   refine yg (i:=7) (oi:=⟨some 9,.assign (.tmp 34),_,_,_,_⟩) (v:=?v_af) rfl (by kernel_rfl) (by kernel_rfl) (by kernel_rfl) (by kernel_rfl) (fun _ _ _ h=>h) (Or.inl ⟨by rfl,?hy_af⟩) (by assumption) ?rest_af
   case hy_af=>(intro w hSw;(try dsimp only at hSw);go_simp;try (with_reducible rfl))
   try simp only [Act.put,List.setIfInBounds_toArray,List.set_cons_zero,List.set_cons_succ]
   refine YL (by kernel_rfl) ?_ _
   clear hHeld HDm HDn HBd
   by_cases h9:e0=0
   ·have H0:Hid (e0=0):=h9
    have hr0:r0=0:=by
     rcases HPp.out with h | h
     ·exact h.1
     ·exact absurd h9 h.1
    have hq:yJ s=(q,(0,0)):=by rw [HR.out,hr0,h9]
    have HQ:Hid (derT s q=true):=der_iff.2 hq
    have HQm:Hid (derT s m=true->q=m):=fun e=>congrArg Prod.fst (hq.symm.trans (der_iff.1 e))
    have HQn:Hid (derT s n=true->q=n):=fun e=>congrArg Prod.fst (hq.symm.trans (der_iff.1 e))
    clear h9 hr0 hq HPp HR
    cases da
    case false=>
     cases db
     case false=>
      go_upto_region 10 with (first
       | (go_at_call 13;refine cZ (HPs.out w21 (xm HW.out (yi HB6w.out HB21.out))) ?_;rintro e w9 ⟨x1,y1,x2,y2,x3,y3,it2,j0,rfl,hM,hb9,hit,_⟩;(have hit':it2=.nilIface:=hit.elim (fun h=>h.2) (fun h=>absurd H0.out h.1));subst hit';(have H9:Hid (MoAt w9 q (.slice x1 q.vars.length y1) (.slice x2 q.cons.length y2) (.slice x3 q.goal.length y3)/\Below w6.heap.size w6 w9):=⟨hM,yi HB21.out hb9⟩);clear hM hb9 hit)
       | (refine wpList_store_row rfl 26 _ _ rfl w9.heap.size _ rfl rfl 26 _ (heap_alloc_new _ _) (zO _ _ _ _) (by rfl) (by kernel_rfl) ?_;rw [xL]))
      obtain ⟨W10,hW10⟩:∃ W10,w9.alloc (.cells #[.slice x1 q.vars.length y1,.slice x2 q.cons.length y2,.bool q.has,.slice x3 q.goal.length y3] 26)=W10:=⟨_,rfl⟩
      obtain ⟨G2,hG2⟩:∃ G2,w9.heap.size=G2:=⟨_,rfl⟩
      try rw [hW10]
      try rw [hG2]
      have H10':Hid (Below w9.heap.size w9 W10/\W10.heap[G2]?=some (.cells #[.slice x1 q.vars.length y1,.slice x2 q.cons.length y2,.bool q.has,.slice x3 q.goal.length y3] 26 (0,0))):=⟨by rw [<-hW10];exact zk _ _,by rw [<-hW10,<-hG2];exact heap_alloc_new w9 _⟩
      clear hW10 hG2
      have HB10:Hid (Below w6.heap.size w6 W10):=yi H9.out.2 H10'.out.1
      have HB10w:Hid (Below w.heap.size w W10):=yi HB6w.out HB10.out
      obtain ⟨⟨p0,p1,p2,p3⟩,q0,q1,q2,q3⟩:=HHd.out W10 HB10.out
      obtain ⟨z0,z1,z2,z3⟩:=yP H10'.out.2 (Below.refl _ _)
      have HDp:Hid (∀ w',Below W10.heap.size W10 w'->Calls Tryz.prog 19 #[.string X,.agg #[.slice x1 q.vars.length y1,.slice x2 q.cons.length y2,.bool q.has,.slice x3 q.goal.length y3]] w' fun e w2=>e=.returned (.bool true)/\Below w'.heap.size w' w2):=fun w' hb=>by
       have:=YP s q _ _ _ w' (H9.out.1.below (yi H10'.out.1 hb)) HX.out.2.2
       rw [HX.out.1,HQ.out] at this
       exact this
      go_wp2_with (go_at_call 19;refine cZ (HDp.out _ (Below.refl _ _)) ?_;rintro e w12 ⟨rfl,hb12⟩;(have HB12:Hid (Below w.heap.size w w12):=yi HB10w.out hb12);clear hb12)
      go_ret
      exact Yn HB12.out
     case true=>
      go_upto_region 10 with (first
       | (go_at_call 13;refine cZ (HPs.out w21 (xm HW.out (yi HB6w.out HB21.out))) ?_;rintro e w9 ⟨x1,y1,x2,y2,x3,y3,it2,j0,rfl,hM,hb9,hit,_⟩;(have hit':it2=.nilIface:=hit.elim (fun h=>h.2) (fun h=>absurd H0.out h.1));subst hit';(have H9:Hid (MoAt w9 q (.slice x1 q.vars.length y1) (.slice x2 q.cons.length y2) (.slice x3 q.goal.length y3)/\Below w6.heap.size w6 w9):=⟨hM,yi HB21.out hb9⟩);clear hM hb9 hit)
       | (refine wpList_store_row rfl 26 _ _ rfl w9.heap.size _ rfl rfl 26 _ (heap_alloc_new _ _) (zO _ _ _ _) (by rfl) (by kernel_rfl) ?_;rw [xL]))
      obtain ⟨W10,hW10⟩:∃ W10,w9.alloc (.cells #[.slice x1 q.vars.length y1,.slice x2 q.cons.length y2,.bool q.has,.slice x3 q.goal.length y3] 26)=W10:=⟨_,rfl⟩
      obtain ⟨G2,hG2⟩:∃ G2,w9.heap.size=G2:=⟨_,rfl⟩
      try rw [hW10]
      try rw [hG2]
      have H10':Hid (Below w9.heap.size w9 W10/\W10.heap[G2]?=some (.cells #[.slice x1 q.vars.length y1,.slice x2 q.cons.length y2,.bool q.has,.slice x3 q.goal.length y3] 26 (0,0))):=⟨by rw [<-hW10];exact zk _ _,by rw [<-hW10,<-hG2];exact heap_alloc_new w9 _⟩
      clear hW10 hG2
      have HB10:Hid (Below w6.heap.size w6 W10):=yi H9.out.2 H10'.out.1
      have HB10w:Hid (Below w.heap.size w W10):=yi HB6w.out HB10.out
      obtain ⟨⟨p0,p1,p2,p3⟩,q0,q1,q2,q3⟩:=HHd.out W10 HB10.out
      obtain ⟨z0,z1,z2,z3⟩:=yP H10'.out.2 (Below.refl _ _)
      have HDp:Hid (∀ w',Below W10.heap.size W10 w'->Calls Tryz.prog 19 #[.string X,.agg #[.slice x1 q.vars.length y1,.slice x2 q.cons.length y2,.bool q.has,.slice x3 q.goal.length y3]] w' fun e w2=>e=.returned (.bool true)/\Below w'.heap.size w' w2):=fun w' hb=>by
       have:=YP s q _ _ _ w' (H9.out.1.below (yi H10'.out.1 hb)) HX.out.2.2
       rw [HX.out.1,HQ.out] at this
       exact this
      go_wp2_with (go_at_call 19;refine cZ (HDp.out _ (Below.refl _ _)) ?_;rintro e w12 ⟨rfl,hb12⟩;(have HB12:Hid (Below w.heap.size w w12):=yi HB10w.out hb12);clear hb12)
      go_ret
      exact Yn HB12.out
    case true=>
     cases db
     case false=>
      go_upto_region 10 with (first
       | (go_at_call 13;refine cZ (HPs.out w21 (xm HW.out (yi HB6w.out HB21.out))) ?_;rintro e w9 ⟨x1,y1,x2,y2,x3,y3,it2,j0,rfl,hM,hb9,hit,_⟩;(have hit':it2=.nilIface:=hit.elim (fun h=>h.2) (fun h=>absurd H0.out h.1));subst hit';(have H9:Hid (MoAt w9 q (.slice x1 q.vars.length y1) (.slice x2 q.cons.length y2) (.slice x3 q.goal.length y3)/\Below w6.heap.size w6 w9):=⟨hM,yi HB21.out hb9⟩);clear hM hb9 hit)
       | (refine wpList_store_row rfl 26 _ _ rfl w9.heap.size _ rfl rfl 26 _ (heap_alloc_new _ _) (zO _ _ _ _) (by rfl) (by kernel_rfl) ?_;rw [xL]))
      obtain ⟨W10,hW10⟩:∃ W10,w9.alloc (.cells #[.slice x1 q.vars.length y1,.slice x2 q.cons.length y2,.bool q.has,.slice x3 q.goal.length y3] 26)=W10:=⟨_,rfl⟩
      obtain ⟨G2,hG2⟩:∃ G2,w9.heap.size=G2:=⟨_,rfl⟩
      try rw [hW10]
      try rw [hG2]
      have H10':Hid (Below w9.heap.size w9 W10/\W10.heap[G2]?=some (.cells #[.slice x1 q.vars.length y1,.slice x2 q.cons.length y2,.bool q.has,.slice x3 q.goal.length y3] 26 (0,0))):=⟨by rw [<-hW10];exact zk _ _,by rw [<-hW10,<-hG2];exact heap_alloc_new w9 _⟩
      clear hW10 hG2
      have HB10:Hid (Below w6.heap.size w6 W10):=yi H9.out.2 H10'.out.1
      have HB10w:Hid (Below w.heap.size w W10):=yi HB6w.out HB10.out
      obtain ⟨⟨p0,p1,p2,p3⟩,q0,q1,q2,q3⟩:=HHd.out W10 HB10.out
      obtain ⟨z0,z1,z2,z3⟩:=yP H10'.out.2 (Below.refl _ _)
      have HDp:Hid (∀ w',Below W10.heap.size W10 w'->Calls Tryz.prog 19 #[.string X,.agg #[.slice x1 q.vars.length y1,.slice x2 q.cons.length y2,.bool q.has,.slice x3 q.goal.length y3]] w' fun e w2=>e=.returned (.bool true)/\Below w'.heap.size w' w2):=fun w' hb=>by
       have:=YP s q _ _ _ w' (H9.out.1.below (yi H10'.out.1 hb)) HX.out.2.2
       rw [HX.out.1,HQ.out] at this
       exact this
      go_wp2_with (go_at_call 19;refine cZ (HDp.out _ (Below.refl _ _)) ?_;rintro e w12 ⟨rfl,hb12⟩;(have HB12:Hid (Below w.heap.size w w12):=yi HB10w.out hb12);clear hb12)
      go_ret
      exact Yn HB12.out
     case true=>
      go_upto_region 10 with (first
       | (go_at_call 13;refine cZ (HPs.out w21 (xm HW.out (yi HB6w.out HB21.out))) ?_;rintro e w9 ⟨x1,y1,x2,y2,x3,y3,it2,j0,rfl,hM,hb9,hit,_⟩;(have hit':it2=.nilIface:=hit.elim (fun h=>h.2) (fun h=>absurd H0.out h.1));subst hit';(have H9:Hid (MoAt w9 q (.slice x1 q.vars.length y1) (.slice x2 q.cons.length y2) (.slice x3 q.goal.length y3)/\Below w6.heap.size w6 w9):=⟨hM,yi HB21.out hb9⟩);clear hM hb9 hit)
       | (refine wpList_store_row rfl 26 _ _ rfl w9.heap.size _ rfl rfl 26 _ (heap_alloc_new _ _) (zO _ _ _ _) (by rfl) (by kernel_rfl) ?_;rw [xL]))
      obtain ⟨W10,hW10⟩:∃ W10,w9.alloc (.cells #[.slice x1 q.vars.length y1,.slice x2 q.cons.length y2,.bool q.has,.slice x3 q.goal.length y3] 26)=W10:=⟨_,rfl⟩
      obtain ⟨G2,hG2⟩:∃ G2,w9.heap.size=G2:=⟨_,rfl⟩
      try rw [hW10]
      try rw [hG2]
      have H10':Hid (Below w9.heap.size w9 W10/\W10.heap[G2]?=some (.cells #[.slice x1 q.vars.length y1,.slice x2 q.cons.length y2,.bool q.has,.slice x3 q.goal.length y3] 26 (0,0))):=⟨by rw [<-hW10];exact zk _ _,by rw [<-hW10,<-hG2];exact heap_alloc_new w9 _⟩
      clear hW10 hG2
      have HB10:Hid (Below w6.heap.size w6 W10):=yi H9.out.2 H10'.out.1
      have HB10w:Hid (Below w.heap.size w W10):=yi HB6w.out HB10.out
      obtain ⟨⟨p0,p1,p2,p3⟩,q0,q1,q2,q3⟩:=HHd.out W10 HB10.out
      obtain ⟨z0,z1,z2,z3⟩:=yP H10'.out.2 (Below.refl _ _)
      have HDp:Hid (∀ w',Below W10.heap.size W10 w'->Calls Tryz.prog 19 #[.string X,.agg #[.slice x1 q.vars.length y1,.slice x2 q.cons.length y2,.bool q.has,.slice x3 q.goal.length y3]] w' fun e w2=>e=.returned (.bool true)/\Below w'.heap.size w' w2):=fun w' hb=>by
       have:=YP s q _ _ _ w' (H9.out.1.below (yi H10'.out.1 hb)) HX.out.2.2
       rw [HX.out.1,HQ.out] at this
       exact this
      have HMN:Hid (m=n):=(HQm.out HDa.out).symm.trans (HQn.out HDb.out)
      have HSa:Hid (Calls Tryz.prog 14 #[.agg #[.slice va m.vars.length vp,.slice ca m.cons.length cp,.bool m.has,.slice ga m.goal.length gp],.agg #[.slice xa n.vars.length xp,.slice ya n.cons.length yp,.bool n.has,.slice za n.goal.length zp]] W10 fun e w2=>e=.returned (.bool true)/\Below W10.heap.size W10 w2):=(y5S m n _ _ _ _ _ _ W10 (HMM.out.below HB10w.out) (HNN.out.below HB10w.out)).mono fun e w2 hh=>hh.one HMN.out
      go_wp2_with (first
       | (go_at_call 14;refine cZ HSa.out ?_;rintro e w11 ⟨rfl,hb11⟩;(have HB11:Hid (Below W10.heap.size W10 w11):=hb11);clear hb11;obtain ⟨z0,z1,z2,z3⟩:=yP H10'.out.2 HB11.out)
       | (go_at_call 19;refine cZ (HDp.out _ HB11.out) ?_;rintro e w12 ⟨rfl,hb12⟩;(have HB12:Hid (Below w.heap.size w w12):=yi (yi HB10w.out HB11.out) hb12);clear hb12))
      go_ret
      exact Yn HB12.out
   ·have H0:Hid (e0≠0):=h9
    have ha:da=false:=by
     rw [<-HDa.out,Bool.eq_false_iff]
     intro e
     exact h9 (congrArg (fun z=>z.2.2) (HR.out.symm.trans (der_iff.1 e)))
    have hb:db=false:=by
     rw [<-HDb.out,Bool.eq_false_iff]
     intro e
     exact h9 (congrArg (fun z=>z.2.2) (HR.out.symm.trans (der_iff.1 e)))
    subst ha hb
    clear h9 HPp HR
    go_upto_region 10 with (first
     | (go_at_call 13;refine cZ (HPs.out w21 (xm HW.out (yi HB6w.out HB21.out))) ?_;rintro e w9 ⟨x1,y1,x2,y2,x3,y3,it2,j0,rfl,hM,hb9,hit,_⟩;obtain ⟨F,hit'⟩:=(hit.resolve_left (fun h=>H0.out h.1)).2;subst hit';(have H9:Hid (MoAt w9 q (.slice x1 q.vars.length y1) (.slice x2 q.cons.length y2) (.slice x3 q.goal.length y3)/\Below w6.heap.size w6 w9):=⟨hM,yi HB21.out hb9⟩);clear hM hb9 hit)
     | (refine wpList_store_row rfl 26 _ _ rfl w9.heap.size _ rfl rfl 26 _ (heap_alloc_new _ _) (zO _ _ _ _) (by rfl) (by kernel_rfl) ?_;rw [xL]))
    obtain ⟨W10,hW10⟩:∃ W10,w9.alloc (.cells #[.slice x1 q.vars.length y1,.slice x2 q.cons.length y2,.bool q.has,.slice x3 q.goal.length y3] 26)=W10:=⟨_,rfl⟩
    obtain ⟨G2,hG2⟩:∃ G2,w9.heap.size=G2:=⟨_,rfl⟩
    try rw [hW10]
    try rw [hG2]
    have H10':Hid (Below w9.heap.size w9 W10/\W10.heap[G2]?=some (.cells #[.slice x1 q.vars.length y1,.slice x2 q.cons.length y2,.bool q.has,.slice x3 q.goal.length y3] 26 (0,0))):=⟨by rw [<-hW10];exact zk _ _,by rw [<-hW10,<-hG2];exact heap_alloc_new w9 _⟩
    clear hW10 hG2
    have HB10:Hid (Below w6.heap.size w6 W10):=yi H9.out.2 H10'.out.1
    have HB10w:Hid (Below w.heap.size w W10):=yi HB6w.out HB10.out
    obtain ⟨⟨p0,p1,p2,p3⟩,q0,q1,q2,q3⟩:=HHd.out W10 HB10.out
    obtain ⟨z0,z1,z2,z3⟩:=yP H10'.out.2 (Below.refl _ _)
    go_wp2_with fail
    go_ret
    exact Yn HB10w.out
end Go.Proofs.YthohnmplbjhjaaaGreatDoor
