import Derived.Test.YtjnckfchgcmmpaaGreatDoorJ05
import Derived.Test.YtjnckfchgcmmpaaGreatDoorJ40
import Derived.Test.YtjnckfchgcmmpaaGreatDoorJ34
import Derived.Test.YtjnckfchgcmmpaaGreatDoorJ39
namespace Go.Proofs.YtjnckfchgcmmpaaGreatDoor
open Go.RowKit
set_option maxRecDepth 10000
set_option maxHeartbeats 8000000
theorem own_max {w:World} {B:Nat} {e:TypeId} {size:Nat} {v:Value} {n:Nat} {xs:List Value} (h:w.ownsRow B e size v n xs):n<=9223372036854775807:=by
  rcases h.2 with ⟨_,hn⟩ | ⟨g,cap,cur,_,_,_,h1,h2,_⟩
  · omega
  · unfold maxLen at h2
    omega
theorem LfAt.tmax {B lp g p:Nat} {nv mv:Value} {s:St} {S:List Sv} {w:World} (h:LfAt B lp g p nv mv s S w):∀ q∈S,q.ts.length<=9223372036854775807:=fun q hq=>by
  obtain ⟨x,hx,rfl⟩:=List.mem_iff_getElem.1 hq;obtain ⟨fs,h1,_⟩:=h.tests x hx;exact own_max h1
def cutR (D:List Dm) (c:Md.Cn):List Ct × Bool:=
  if (Md.check (stM c D.length)).2=0 then (match ruleQ D c (List.replicate D.length sqA) with | none=>([],false) | some Q=>(cutsUpto Q D D.length,true)) else ([],true)
theorem LfQ.leftCuts {B lp g p:Nat} {nv mv:Value} {s:St} {Q:List Sq} {w:World} (h:LfQ B lp g p nv mv s Q w):Calls Tryz.prog 117 #[.pointer (Option.some ⟨lp,0,none⟩)] w (CsOut (cutsUpto Q s.now s.now.length) w):=by
  obtain ⟨S,h1,rfl⟩:=h;rw [<-h1.len];exact leftCuts_any B lp g p nv mv s S w h1 h1.tmax
theorem cn_cells {w:World} {N:Nat} {a0 a1 a2 a3 a4 a5 a6 a7 a8 a9:Value} (h:w.heap[N]?=some (.cells #[a0,a1,a2,a3,a4,a5,a6,a7,a8,a9] 56 (0,0))):w.cell? ⟨N,0,none⟩=some a0/\w.cell? ⟨N,1,none⟩=some a1/\w.cell? ⟨N,2,none⟩=some a2/\w.cell? ⟨N,3,none⟩=some a3/\w.cell? ⟨N,4,none⟩=some a4/\w.cell? ⟨N,5,none⟩=some a5/\w.cell? ⟨N,6,none⟩=some a6/\w.cell? ⟨N,7,none⟩=some a7/\w.cell? ⟨N,8,none⟩=some a8/\w.cell? ⟨N,9,none⟩=some a9:=
  ⟨cell_of h 0,cell_of h 1,cell_of h 2,cell_of h 3,cell_of h 4,cell_of h 5,cell_of h 6,cell_of h 7,cell_of h 8,cell_of h 9⟩
theorem own_base {w:World} {B B':Nat} {e:TypeId} {size:Nat} {v:Value} {n:Nat} {xs:List Value} (h:w.ownsRow B e size v n xs) (hB:B'<=B):w.ownsRow B' e size v n xs:=by
  obtain ⟨h1,h2⟩:=h;refine ⟨h1,?_⟩;rcases h2 with h2 | ⟨g,cap,cur,e1,e2,e3⟩
  · exact .inl h2
  · exact .inr ⟨g,cap,cur,e1,Nat.le_trans hB e2,e3⟩
def CuOut (D:List Dm) (c:Md.Cn) (w:World) (e:Ending) (w':World):Prop:=∃ v,e=.returned (.tuple #[v,.bool (cutR D c).2])/\w'.ownsRow w.heap.size 41 3 v (cutR D c).1.length (cts (cutR D c).1)/\Below w.heap.size w w'
theorem cuts_any (p:Nat) (nv mv:Value) (s:St) (w:World) (hst:∃ Bs,StAt Bs w p nv mv s) (hown:∀ k,Own p nv mv k->k<w.heap.size) (htz:Tz w) (c:Md.Cn) (vt vx vb vr:Value) (hC:CnAt w c vt vx vb vr):Calls Tryz.prog 102 #[cnVal c vt vx vb vr,.pointer (some ⟨p,0,none⟩)] w (CuOut s.now c w):=by
  obtain ⟨Bs,hS⟩:=hst;have hn:=hS.n32;have hp:0<w.heap.size:=Nat.lt_of_le_of_lt (Nat.zero_le p) (hown p (.inl rfl));obtain ⟨W,hW⟩:∃ W,w.alloc (.cells #[.int .i64 c.kind,.int .i64 c.op,vt,.int .i64 c.k,.int .i64 c.v,.int .i64 c.x,.int .i64 c.y,vx,vb,vr] 56)=W:=⟨_,rfl⟩;have hb0:Below w.heap.size w W:=bAe hW;have g0:W.heap[w.heap.size]?=some (.cells #[.int .i64 c.kind,.int .i64 c.op,vt,.int .i64 c.k,.int .i64 c.v,.int .i64 c.x,.int .i64 c.y,vx,vb,vr] 56 (0,0)):=hAe hW;have hlt:=(hLt g0);have HB0:Hid (Below w.heap.size w W):=hb0;have HWs:Hid (∀ w',Below W.heap.size W w'->Below w.heap.size w w'):=fun w' hb=>hb0.trans (hb.mono hb0.size)
  have HG:Hid (∀ w',Below W.heap.size W w'->w'.heap[w.heap.size]?=some (.cells #[.int .i64 c.kind,.int .i64 c.op,vt,.int .i64 c.k,.int .i64 c.v,.int .i64 c.x,.int .i64 c.y,vx,vb,vr] 56 (0,0))):=fun w' hb=>(hb.block _ hlt).trans g0
  have HVr:Hid (∀ w',Below W.heap.size W w'->Calls Tryz.prog 28 #[.pointer (some ⟨p,0,none⟩)] w' fun e w2=>e=.returned (.int .i64 (s.now.length:Int))/\w2=w'):=fun w' hb=>vars_any Bs p nv mv s w' (hS.keep fun k _ ho=>(HWs.out w' hb).block k (hown k ho))
  have HMs:Hid (∀ w',Below W.heap.size W w'->Calls Tryz.prog 114 #[.agg #[.int .i64 c.kind,.int .i64 c.op,vt,.int .i64 c.k,.int .i64 c.v,.int .i64 c.x,.int .i64 c.y,vx,vb,vr],.int .i64 (s.now.length:Int)] w' fun e w2=>e=.returned (.bool (decide ((Md.check (stM c s.now.length)).2=0)))/\Below w'.heap.size w' w2):=fun w' hb=>mayStand_any c vt vx vb vr s.now.length w' (hC.below (HWs.out w' hb)) hn
  have HAl:Hid (∀ w',Below W.heap.size W w'->Calls Tryz.prog 115 #[.pointer (some ⟨p,0,none⟩)] w' (AlOut p nv mv s w')):=fun w' hb=>all_any p nv mv s w' ⟨Bs,hS.keep fun k _ ho=>(HWs.out w' hb).block k (hown k ho)⟩ (fun k ho=>Nat.lt_of_lt_of_le (hown k ho) (HWs.out w' hb).size) (htz.below (HWs.out w' hb) hp)
  have HRl:Hid (∀ w':World,Calls Tryz.prog 116 #[] w' fun e w2=>e=.returned rulesV/\Below w'.heap.size w' w2):=fun w'=>allRules_any w'
  have HCu:Hid (∀ B w',Below w.heap.size w w'->w.heap.size<=B->CnU B w' c vt vx vb vr):=fun B w' hb hB=>⟨w,hC,hB,hb⟩
  have HRu:Hid (∀ (fn B lp g:Nat) (w':World),(fn:Int)=130+c.kind->(Md.check (stM c s.now.length)).2=0->LfQ B lp g p nv mv s (List.replicate s.now.length sqA) w'->CnU B w' c vt vx vb vr->Calls Tryz.prog fn #[.pointer (some ⟨lp,0,none⟩),.agg #[.int .i64 c.kind,.int .i64 c.op,vt,.int .i64 c.k,.int .i64 c.v,.int .i64 c.x,.int .i64 c.y,vx,vb,vr]] w' (RlOut B lp g p nv mv s (ruleQ s.now c (List.replicate s.now.length sqA)) w')):=fun fn B lp g w' h1 h2 h3 h4=>rule_any B lp g p nv mv s _ w' h3 (fun q hq=>by rw [List.eq_of_mem_replicate hq];exact Nat.zero_le _) c vt vx vb vr h4 (fit_check h2) fn h1
  have HKd:Hid ((Md.check (stM c s.now.length)).2=0->1<=c.kind/\c.kind<=9):=fun h=>by
    have:=(fit_check h).kind;rw [(c0_k c).1] at this;exact this
  have HR:Hid (cutR s.now c=if (Md.check (stM c s.now.length)).2=0 then (match ruleQ s.now c (List.replicate s.now.length sqA) with | none=>([],false) | some Q=>(cutsUpto Q s.now s.now.length,true)) else ([],true)):=rfl;have HO:Hid (∀ v w' L b,cutR s.now c=(L,b)->w'.ownsRow w.heap.size 41 3 v L.length (cts L)->Below w.heap.size w w'->CuOut s.now c w (.returned (.tuple #[v,.bool b])) w'):=fun v w' L b h1 h2 h3=>⟨v,by rw [h1],by rw [h1];exact h2,h3⟩
  have hcv:cnVal c vt vx vb vr=.agg #[.int .i64 c.kind,.int .i64 c.op,vt,.int .i64 c.k,.int .i64 c.v,.int .i64 c.x,.int .i64 c.y,vx,vb,vr]:=rfl;rw [hcv];clear hown htz hC hS hb0 g0 hlt hcv hp;go_enter Tryz.func102,Tryz.ntmps102;go_upto_region 1 with fail
  obtain ⟨b,hbe⟩:∃ b,decide ((Md.check (stM c s.now.length)).2=0)=b:=⟨_,rfl⟩;rw [hbe] at HMs;have HBe:Hid (decide ((Md.check (stM c s.now.length)).2=0)=b):=hbe;clear hbe;try rw [hW]
  clear hW;go_cut [11] from 7 to 24 (fun s11 wx=>s11=.bool (!b)/\Hid (Below W.heap.size W wx))
  case first=>
    have HS:Hid (∀ w',Below W.heap.size W w'->w'.cell? ⟨w.heap.size,0,none⟩=some (.int .i64 c.kind)/\w'.cell? ⟨w.heap.size,1,none⟩=some (.int .i64 c.op)/\w'.cell? ⟨w.heap.size,2,none⟩=some vt/\w'.cell? ⟨w.heap.size,3,none⟩=some (.int .i64 c.k)/\w'.cell? ⟨w.heap.size,4,none⟩=some (.int .i64 c.v)/\w'.cell? ⟨w.heap.size,5,none⟩=some (.int .i64 c.x)/\w'.cell? ⟨w.heap.size,6,none⟩=some (.int .i64 c.y)/\w'.cell? ⟨w.heap.size,7,none⟩=some vx/\w'.cell? ⟨w.heap.size,8,none⟩=some vb/\w'.cell? ⟨w.heap.size,9,none⟩=some vr):=fun w' hb=>cn_cells (HG.out w' hb)
    have HBd:Hid (Below W.heap.size W W.drew):=(Below.refl _ _).drew;go_region_held3 (fun w'=>w'.cell? ⟨w.heap.size,0,none⟩=some (.int .i64 c.kind)/\w'.cell? ⟨w.heap.size,1,none⟩=some (.int .i64 c.op)/\w'.cell? ⟨w.heap.size,2,none⟩=some vt/\w'.cell? ⟨w.heap.size,3,none⟩=some (.int .i64 c.k)/\w'.cell? ⟨w.heap.size,4,none⟩=some (.int .i64 c.v)/\w'.cell? ⟨w.heap.size,5,none⟩=some (.int .i64 c.x)/\w'.cell? ⟨w.heap.size,6,none⟩=some (.int .i64 c.y)/\w'.cell? ⟨w.heap.size,7,none⟩=some vx/\w'.cell? ⟨w.heap.size,8,none⟩=some vb/\w'.cell? ⟨w.heap.size,9,none⟩=some vr)
      (first | exact HS.out _ HB5.out | exact HS.out _ HB4.out | exact HS.out _ HBd.out)
      (first | (go_at_call 28;refine cA (HVr.out _ HBd.out) ?_;rintro e w4 ⟨rfl,h4⟩;(have HB4:Hid (Below W.heap.size W w4):=(by rw [h4];exact HBd.out));clear h4) | (go_at_call 114;refine cA (HMs.out _ HB4.out) ?_;rintro e w5 ⟨rfl,hb5⟩;(have HB5:Hid (Below W.heap.size W w5):=bl_next HB4.out hb5);clear hb5))
    go_wp2_with fail
    go_meet;exact ⟨rfl,HB5⟩
  case rest=>
  obtain ⟨rfl,HBx⟩:=hcut;rename World=>wx
  cases b with
  | false =>
    go_wp2_with fail
    go_ret2;exact HO.out _ _ [] true (by rw [HR.out,if_neg (of_decide_eq_false HBe.out)]) (World.ownsRow_nil _ _ _ _) (HWs.out _ HBx.out)
  | true =>
    have hck:(Md.check (stM c s.now.length)).2=0:=of_decide_eq_true HBe.out;obtain ⟨hk1,hk2⟩:=HKd.out hck;obtain ⟨fn,hfn,hen,hidx⟩:=rule_at c.kind hk1 hk2;have hfld:=rule_fld fn;have HAx:Hid (Calls Tryz.prog 115 #[.pointer (some ⟨p,0,none⟩)] wx (AlOut p nv mv s wx)):=HAl.out wx HBx.out;have HRf:=fun (B lp g:Nat) (w':World)=>HRu.out fn B lp g w' hfn hck
    have HRc:Hid (cutR s.now c=(match ruleQ s.now c (List.replicate s.now.length sqA) with | none=>([],false) | some Q=>(cutsUpto Q s.now s.now.length,true))):=by show _=_;rw [HR.out,if_pos hck]
    obtain ⟨R,hR⟩:∃ R,ruleQ s.now c (List.replicate s.now.length sqA)=R:=⟨_,rfl⟩;rw [hR] at HRf HRc;have HRg:Hid (∀ (B lp g:Nat) (w':World),LfQ B lp g p nv mv s (List.replicate s.now.length sqA) w'->CnU B w' c vt vx vb vr->Calls Tryz.prog fn #[.pointer (some ⟨lp,0,none⟩),.agg #[.int .i64 c.kind,.int .i64 c.op,vt,.int .i64 c.k,.int .i64 c.v,.int .i64 c.x,.int .i64 c.y,vx,vb,vr]] w' (RlOut B lp g p nv mv s R w')):=HRf;have HWx:Hid (w.heap.size<wx.heap.size):=Nat.lt_of_lt_of_le (Array.getElem?_eq_some_iff.1 (HG.out wx HBx.out)).1 (Nat.le_refl _);clear HR HRf hR hck hk1 hk2 hfn HBe HMs HVr HAl HRu HKd;unfold Enters at hen;go_upto_region 4 with (go_at_call 115;refine cA HAx.out ?_;rintro e w3 ⟨rfl,hL3,hb3⟩);have HL3:Hid (LfQ wx.heap.size (wx.heap.size+1) wx.heap.size p nv mv s (List.replicate s.now.length sqA) w3):=hL3
    have HB3:Hid (Below wx.heap.size wx w3):=hb3;have HS:Hid (∀ w',Below wx.heap.size w3 w'->w'.cell? ⟨w.heap.size,0,none⟩=some (.int .i64 c.kind)/\w'.cell? ⟨w.heap.size,1,none⟩=some (.int .i64 c.op)/\w'.cell? ⟨w.heap.size,2,none⟩=some vt/\w'.cell? ⟨w.heap.size,3,none⟩=some (.int .i64 c.k)/\w'.cell? ⟨w.heap.size,4,none⟩=some (.int .i64 c.v)/\w'.cell? ⟨w.heap.size,5,none⟩=some (.int .i64 c.x)/\w'.cell? ⟨w.heap.size,6,none⟩=some (.int .i64 c.y)/\w'.cell? ⟨w.heap.size,7,none⟩=some vx/\w'.cell? ⟨w.heap.size,8,none⟩=some vb/\w'.cell? ⟨w.heap.size,9,none⟩=some vr):=fun w' hb=>cn_cells (((HB3.out.trans hb).block _ HWx.out).trans (HG.out wx HBx.out))
    clear hL3 hb3;have HBs:Hid (wx.heap.size<=w3.heap.size):=HB3.out.size;have HCu3:Hid (∀ w',Below wx.heap.size w3 w'->CnU wx.heap.size w' c vt vx vb vr):=fun w' hb=>HCu.out _ _ ((HWs.out _ HBx.out).trans ((HB3.out.trans hb).mono (Nat.le_of_lt HWx.out))) (Nat.le_of_lt HWx.out)
    go_cut [22] from 14 to 24 (fun s22 wy=>s22=.bool (!R.isSome)/\Hid (∀ Q',R=some Q'->LfQ wx.heap.size (wx.heap.size+1) wx.heap.size p nv mv s Q' wy)/\Hid (Kq wx.heap.size w3 wy))
    case first=>
      have HBd:Hid (Below w3.heap.size w3 w3.drew):=(Below.refl _ _).drew;go_region_held3 (fun w'=>w'.cell? ⟨w.heap.size,0,none⟩=some (.int .i64 c.kind)/\w'.cell? ⟨w.heap.size,1,none⟩=some (.int .i64 c.op)/\w'.cell? ⟨w.heap.size,2,none⟩=some vt/\w'.cell? ⟨w.heap.size,3,none⟩=some (.int .i64 c.k)/\w'.cell? ⟨w.heap.size,4,none⟩=some (.int .i64 c.v)/\w'.cell? ⟨w.heap.size,5,none⟩=some (.int .i64 c.x)/\w'.cell? ⟨w.heap.size,6,none⟩=some (.int .i64 c.y)/\w'.cell? ⟨w.heap.size,7,none⟩=some vx/\w'.cell? ⟨w.heap.size,8,none⟩=some vb/\w'.cell? ⟨w.heap.size,9,none⟩=some vr)
        (first | exact HS.out _ HK5.out.below | exact HS.out _ (HB4.out.mono HBs.out) | exact HS.out _ (HBd.out.mono HBs.out))
        (first | (go_at_call 116;refine cA (HRl.out _) ?_;rintro e w4 ⟨rfl,hb4⟩;(have HB4:Hid (Below w3.heap.size w3 w4):=bl_next HBd.out hb4);clear hb4) | (go_at_fn fn;refine cA (HRg.out wx.heap.size (wx.heap.size+1) wx.heap.size w4 (HL3.out.below HB4.out) (HCu3.out w4 (HB4.out.mono HBs.out))) ?_;rintro e w5 ⟨rfl,hq5,hk5⟩;(have HQ5:Hid (∀ Q',R=some Q'->LfQ wx.heap.size (wx.heap.size+1) wx.heap.size p nv mv s Q' w5):=hq5);(have HK5:Hid (Kq wx.heap.size w3 w5):=(Kq.of_below HB4.out HBs.out).trans hk5);clear hq5 hk5))
      go_wp2_with fail
      go_meet
      exact ⟨by cases R <;> rfl,HQ5,HK5⟩
    case rest=>
    obtain ⟨rfl,HQy,HKy⟩:=hcut;rename World=>wy;have HBy:Hid (Below w.heap.size w wy):=(HWs.out _ HBx.out).trans ((HB3.out.trans HKy.out.below).mono (Nat.le_of_lt HWx.out))
    cases R with
    | none =>
      go_wp2_with fail
      go_ret2;exact HO.out _ _ [] false HRc.out (World.ownsRow_nil _ _ _ _) HBy.out
    | some Q' =>
      have HCt:Hid (Calls Tryz.prog 117 #[.pointer (some ⟨wx.heap.size+1,0,none⟩)] wy (CsOut (cutsUpto Q' s.now s.now.length) wy)):=(HQy.out Q' rfl).leftCuts;go_wp2_with (go_at_call 117;refine cA HCt.out ?_;rintro e w7 ⟨v,rfl,ho7,hb7⟩);go_ret2;exact HO.out _ _ _ true HRc.out (own_base ho7 HBy.out.size) (HBy.out.trans (hb7.mono HBy.out.size))
end Go.Proofs.YtjnckfchgcmmpaaGreatDoor
namespace Go.Proofs.YtjnckfchgcmmpaaGreatDoor
theorem Dm.Fine.le {d:Dm} (h:d.Fine):d.lo<=d.hi:=h.least _ h.hiIn
theorem Dm.Fine.bd {d:Dm} (h:d.Fine) {v:Int} (hv:d.has v=true):-1000000000<=v/\v<=2000000000:=⟨Int.le_trans h.b1 (h.least v hv),Int.le_trans (h.most v hv) h.b2⟩
theorem Dm.Fine.only {d:Dm} (h:d.Fine) (h1:d.one=true) {v:Int} (hv:d.has v=true):v=d.lo:=by
  have e:=h.one.1 h1;have a:=h.least v hv;have b:=h.most v hv;omega
def qH (Q:List Sq) (x:Nat) (v:Int):Prop:=∃ q,Q[x]?=some q/\q.has v=true
def sg (t:Bool) (v:Int):Int:=if t then -v else v
theorem qH_set {Q:List Sq} {y:Nat} {s s':Sq} (hs:Q[y]?=some s) (C:Int->Prop) (h:∀ v,s'.has v=true↔s.has v=true/\C v) (x:Nat) (v:Int):qH (Q.set y s') x v↔qH Q x v/\(x=y->C v):=by
  have hy:y<Q.length:=(List.getElem?_eq_some_iff.1 hs).1;unfold qH
  by_cases e:x=y
  · subst e
    rw [List.getElem?_set_self hy,hs];simp [h v]
  · rw [List.getElem?_set_ne (fun e2=>e e2.symm)]
    simp [e]
theorem qH_none {Q:List Sq} {y:Nat} (hs:Q[y]?=none) (C:Prop) (x:Nat) (v:Int):qH Q x v↔qH Q x v/\(x=y->C):=by
  constructor
  · intro h
    refine ⟨h,fun e=>?_⟩;subst e;obtain ⟨q,h1,_⟩:=h;rw [hs] at h1
    cases h1
  · exact fun h=>h.1
theorem qH_keep (Q:List Sq) (y:Nat) (a b:Int) (x:Nat) (v:Int):qH (keepQ Q y a b) x v↔qH Q x v/\(x=y->a<=v/\v<=b):=by
  unfold keepQ
  split
  · rename_i s hs
    refine qH_set hs (fun v=>a<=v/\v<=b) (fun v=>?_) x v;unfold Sq.has inB;simp only [Bool.and_eq_true,decide_eq_true_eq]
    constructor
    · rintro ⟨h1,h2,h3⟩
      exact ⟨⟨h1,by omega,by omega⟩,by omega,by omega⟩
    · rintro ⟨⟨h1,h2,h3⟩,h4,h5⟩
      exact ⟨h1,by omega,by omega⟩
  · rename_i hs
    exact qH_none hs _ x v
theorem qH_some (Q:List Sq) (y:Nat) (t:Int->Bool) (x:Nat) (v:Int):qH (someQ Q y t) x v↔qH Q x v/\(x=y->t v=true):=by
  unfold someQ
  split
  · rename_i s hs
    refine qH_set hs (fun v=>t v=true) (fun v=>?_) x v;unfold Sq.has;simp only [Bool.and_eq_true,List.all_append,List.all_cons,List.all_nil]
    constructor
    · rintro ⟨⟨h1,h2,_⟩,h3⟩
      exact ⟨⟨h1,h3⟩,h2⟩
    · rintro ⟨⟨h1,h2⟩,h3⟩
      exact ⟨⟨h1,h3,trivial⟩,h2⟩
  · rename_i hs
    exact qH_none hs _ x v
theorem qH_sKeep (t:Bool) (Q:List Sq) (y:Nat) (a b:Int) (x:Nat) (v:Int):qH (sKeepQ t Q y a b) x v↔qH Q x v/\(x=y->a<=sg t v/\sg t v<=b):=by
  unfold sKeepQ sg
  cases t
  · simp only [Bool.false_eq_true,if_false]
    exact qH_keep Q y a b x v
  · simp only [if_true]
    rw [qH_keep]
    constructor
    · rintro ⟨h1,h2⟩
      exact ⟨h1,fun e=>by have:=h2 e;omega⟩
    · rintro ⟨h1,h2⟩
      exact ⟨h1,fun e=>by have:=h2 e;omega⟩
def Sml (v:Int):Prop:=-9223372036854775807<=v/\v<=9223372036854775807
theorem Sml.sg {v:Int} (h:Sml v) (t:Bool):Sml (sg t v):=by
  unfold Sml Go.Proofs.YtjnckfchgcmmpaaGreatDoor.sg at *
  cases t <;> simp <;> omega
theorem Dm.Fine.sml {d:Dm} (h:d.Fine) {v:Int} (hv:d.has v=true):Sml v:=by
  have:=h.bd hv;unfold Sml;omega
def amC (t:Bool) (sp:Int) (z:Int × Dm) (v:Int):Prop:=(0<z.1->sg t v<=spLo t z.2+sp / z.1)/\(z.1<0->spHi t z.2-sp / (-z.1)<=sg t v)
theorem qH_am (t:Bool) (sp:Int) (zs:List (Int × Dm)) (Q:List Sq) (n:Nat) (x:Nat) (v:Int) (hv:Sml v):qH (amQ t sp zs Q n) x v↔qH Q x v/\(x<n->∀ z,zs[x]?=some z->amC t sp z v):=by
  have hs:=hv.sg t;unfold Sml at hs
  induction n with
  | zero=>simp [amQ]
  | succ n ih =>
    unfold amQ;have key:∀ z,zs[n]?=some z->(qH (amStep t sp (amQ t sp zs Q n) n z) x v↔qH (amQ t sp zs Q n) x v/\(x=n->amC t sp z v)):=by
      intro z _;unfold amStep amC
      split
      · rename_i h0
        rw [qH_sKeep]
        constructor
        · rintro ⟨h1,h2⟩
          exact ⟨h1,fun e=>⟨fun _=>(h2 e).2,fun h=>absurd h (by omega)⟩⟩
        · rintro ⟨h1,h2⟩
          exact ⟨h1,fun e=>⟨hs.1,(h2 e).1 h0⟩⟩
      · split
        · rename_i h0
          rw [qH_sKeep]
          constructor
          · rintro ⟨h1,h2⟩
            exact ⟨h1,fun e=>⟨fun h=>absurd h (by omega),fun _=>(h2 e).1⟩⟩
          · rintro ⟨h1,h2⟩
            exact ⟨h1,fun e=>⟨(h2 e).2 h0,hs.2⟩⟩
        · constructor
          · exact fun h=>⟨h,fun _=>⟨fun h=>absurd h (by omega),fun h=>absurd h (by omega)⟩⟩
          · exact fun h=>h.1
    split
    · rename_i z hz
      refine (key z hz).trans ?_
      constructor
      · rintro ⟨h12,h3⟩
        obtain ⟨h1,h2⟩:=ih.1 h12;refine ⟨h1,fun hx z' hz'=>?_⟩
        by_cases e:x=n
        · subst e
          rw [hz] at hz';injection hz' with hz';rw [<-hz'];exact h3 rfl
        · exact h2 (by omega) z' hz'
      · rintro ⟨h1,h2⟩
        exact ⟨ih.2 ⟨h1,fun hx=>h2 (by omega)⟩,fun e=>h2 (by omega) z (by rw [e];exact hz)⟩
    · rename_i hz
      constructor
      · intro h12
        obtain ⟨h1,h2⟩:=ih.1 h12;refine ⟨h1,fun hx z' hz'=>?_⟩
        by_cases e:x=n
        · subst e
          rw [hz] at hz'
          cases hz'
        · exact h2 (by omega) z' hz'
      · rintro ⟨h1,h2⟩
        exact ih.2 ⟨h1,fun hx=>h2 (by omega)⟩
theorem atMost_is (t:Bool) (D:List Dm) (cs:List Int) (k:Int) (Q:List Sq):(spareL t (cs.zip D) k<0->atMostQ t D cs k Q=none)/\(0<=spareL t (cs.zip D) k->∃ Q',atMostQ t D cs k Q=some Q'/\∀ x v,Sml v->(qH Q' x v↔qH Q x v/\∀ z,(cs.zip D)[x]?=some z->amC t (spareL t (cs.zip D) k) z v)):=by
  unfold atMostQ
  constructor
  · intro h
    rw [if_pos h]
  · intro h
    rw [if_neg (by omega)];refine ⟨_,rfl,fun x v hv=>?_⟩;rw [qH_am _ _ _ _ _ _ _ hv]
    constructor
    · rintro ⟨h1,h2⟩
      exact ⟨h1,fun z hz=>h2 (List.getElem?_eq_some_iff.1 hz).1 z hz⟩
    · rintro ⟨h1,h2⟩
      exact ⟨h1,fun _ z hz=>h2 z hz⟩
def Lies:List Dm->List Int->Prop
  | [],[]=>True
  | d :: D,v :: vs=>d.has v=true/\Lies D vs
  | _,_=>False
def Fewer:List Dm->List Dm->Prop
  | [],[]=>True
  | d' :: D',d :: D=>(∀ v,d'.has v=true->d.has v=true)/\Fewer D' D
  | _,_=>False
def Fines:List Dm->Prop
  | []=>True
  | d :: D=>d.Fine/\Fines D
theorem Lies.len:∀ {D:List Dm} {vs:List Int},Lies D vs->vs.length=D.length
  | [],[],_=>rfl
  | _ :: D,_ :: vs,h=>by simp [Lies.len (D:=D) (vs:=vs) h.2]
  | [],_ :: _,h=>h.elim
  | _ :: _,[],h=>h.elim
theorem Fewer.len:∀ {D' D:List Dm},Fewer D' D->D'.length=D.length
  | [],[],_=>rfl
  | _ :: D',_ :: D,h=>by simp [Fewer.len (D':=D') (D:=D) h.2]
  | [],_ :: _,h=>h.elim
  | _ :: _,[],h=>h.elim
theorem Lies.get:∀ {D:List Dm} {vs:List Int},Lies D vs->∀ (x:Nat) (d:Dm),D[x]?=some d->∃ v,vs[x]?=some v/\d.has v=true
  | [],[],_,x,d,h=>by simp at h
  | e :: D,v :: vs,h,0,d,hd=>by simp at hd;subst hd;exact ⟨v,rfl,h.1⟩
  | e :: D,v :: vs,h,x+1,d,hd=>by simpa using Lies.get (D:=D) (vs:=vs) h.2 x d (by simpa using hd)
  | [],_ :: _,h,_,_,_=>h.elim
  | _ :: _,[],h,_,_,_=>h.elim
theorem Fewer.get:∀ {D' D:List Dm},Fewer D' D->∀ (x:Nat) (d' d:Dm),D'[x]?=some d'->D[x]?=some d->∀ v,d'.has v=true->d.has v=true
  | [],[],_,x,d',d,h,_=>by simp at h
  | e' :: D',e :: D,h,0,d',d,h1,h2=>by simp at h1 h2;subst h1;subst h2;exact h.1
  | e' :: D',e :: D,h,x+1,d',d,h1,h2=>Fewer.get (D':=D') (D:=D) h.2 x d' d (by simpa using h1) (by simpa using h2)
  | [],_ :: _,h,_,_,_,_,_=>h.elim
  | _ :: _,[],h,_,_,_,_,_=>h.elim
theorem Fines.get:∀ {D:List Dm},Fines D->∀ (x:Nat) (d:Dm),D[x]?=some d->d.Fine
  | [],_,x,d,h=>by simp at h
  | e :: D,h,0,d,hd=>by simp at hd;subst hd;exact h.1
  | e :: D,h,x+1,d,hd=>Fines.get (D:=D) h.2 x d (by simpa using hd)
theorem fines_of {D:List Dm} (h:∀ d∈D,d.Fine):Fines D:=by
  induction D with
  | nil=>trivial
  | cons d D ih=>exact ⟨h d (by simp),ih fun e he=>h e (by simp [he])⟩
theorem sp_of {t:Bool} {d:Dm} (h:d.Fine) {v:Int} (hv:d.has v=true):spLo t d<=sg t v/\sg t v<=spHi t d:=by
  have a:=h.least v hv;have b:=h.most v hv;unfold spLo spHi sg
  cases t <;> simp <;> omega
theorem sp_fewer {t:Bool} {d' d:Dm} (h':d'.Fine) (h:d.Fine) (hs:∀ v,d'.has v=true->d.has v=true):spLo t d<=spLo t d'/\spHi t d'<=spHi t d/\spLo t d'<=spHi t d':=by
  have a:=h.least _ (hs _ h'.loIn);have b:=h.most _ (hs _ h'.hiIn);have c:=h'.le;unfold spLo spHi
  cases t <;> simp <;> omega
theorem mul_mono {c a b:Int} (h:0<=c) (hab:a<=b):c*a<=c*b:=Int.mul_le_mul_of_nonneg_left hab h
theorem mul_anti {c a b:Int} (h:c<=0) (hab:a<=b):c*b<=c*a:=Int.mul_le_mul_of_nonpos_left h hab
theorem lst_le {t:Bool} {c:Int} {d:Dm} (h:d.Fine) {v:Int} (hv:d.has v=true):lst t (c,d)<=c*sg t v:=by
  obtain ⟨a,b⟩:=sp_of (t:=t) h hv;unfold lst;rcases Int.le_total 0 c with hc | hc
  · have:=mul_mono hc a
    show min (c*spLo t d) (c*spHi t d)<=_;omega
  · have:=mul_anti hc b
    show min (c*spLo t d) (c*spHi t d)<=_;omega
theorem lst_pos {t:Bool} {z:Int × Dm} (h:z.2.Fine) (hc:0<=z.1):lst t z=z.1*spLo t z.2:=by
  obtain ⟨_,_,hle⟩:=sp_fewer (t:=t) h h (fun v hv=>hv);have:=mul_mono hc hle;unfold lst;omega
theorem lst_neg {t:Bool} {z:Int × Dm} (h:z.2.Fine) (hc:z.1<=0):lst t z=z.1*spHi t z.2:=by
  obtain ⟨_,_,hle⟩:=sp_fewer (t:=t) h h (fun v hv=>hv);have:=mul_anti hc hle;unfold lst;omega
def dot:List Int->List Int->Int
  | c :: cs,v :: vs=>c*v+dot cs vs
  | _,_=>0
theorem leastZ_cons (t:Bool) (z:Int × Dm) (l:List (Int × Dm)):leastZ t (z :: l)=lst t z+leastZ t l:=by
  unfold leastZ;simp
theorem sg_mul (t:Bool) (c v:Int):sg t (c*v)=c*sg t v:=by
  unfold sg
  cases t
  · rfl
  · exact (Int.mul_neg c v).symm
theorem sg_add (t:Bool) (a b:Int):sg t (a+b)=sg t a+sg t b:=by
  unfold sg
  cases t <;> simp <;> omega
theorem sg_zero (t:Bool):sg t 0=0:=by cases t <;> rfl
theorem least_le (t:Bool):∀ (cs:List Int) {D:List Dm} {vs:List Int},Fines D->Lies D vs->leastZ t (cs.zip D)<=sg t (dot cs vs)
  | [],D,vs,_,_=>by simp [leastZ,dot,sg_zero]
  | c :: cs,[],[],_,_=>by simp [leastZ,dot,sg_zero]
  | c :: cs, d :: D, v :: vs, hf, hl => by
    rw [List.zip_cons_cons,leastZ_cons];unfold dot;rw [sg_add,sg_mul];have:=lst_le (t:=t) (c:=c) hf.1 hl.1;have:=least_le t cs hf.2 hl.2;omega
  | _ :: _,[],_ :: _,_,h=>h.elim
  | _ :: _,_ :: _,[],_,h=>h.elim
theorem least_at (t:Bool):∀ (cs:List Int) {D:List Dm} {vs:List Int} (x:Nat) (z:Int × Dm) (v:Int),Fines D->Lies D vs->(cs.zip D)[x]?=some z->vs[x]?=some v->leastZ t (cs.zip D)-lst t z+z.1*sg t v<=sg t (dot cs vs)
  | [],D,vs,x,z,v,_,_,h,_=>by simp at h
  | c :: cs,[],[],x,z,v,_,_,h,_=>by simp at h
  | c :: cs, d :: D, u :: vs, 0, z, v, hf, hl, h, hv => by
    simp at h hv;subst h hv;rw [List.zip_cons_cons,leastZ_cons];unfold dot;rw [sg_add,sg_mul];have:=least_le t cs hf.2 hl.2;show lst t (c,d)+leastZ t (cs.zip D)-lst t (c,d)+c*sg t u<=_;omega
  | c :: cs, d :: D, u :: vs, x + 1, z, v, hf, hl, h, hv => by
    rw [List.zip_cons_cons,leastZ_cons];unfold dot;rw [sg_add,sg_mul];have:=lst_le (t:=t) (c:=c) hf.1 hl.1;have:=least_at t cs x z v hf.2 hl.2 (by simpa using h) (by simpa using hv);omega
  | _ :: _,[],_ :: _,_,_,_,_,h,_,_=>h.elim
  | _ :: _,_ :: _,[],_,_,_,_,h,_,_=>h.elim
theorem amC_is {t:Bool} {sp:Int} {z:Int × Dm} {v:Int} (h:z.2.Fine):amC t sp z v↔(z.1=0∨z.1*sg t v<=sp+lst t z):=by
  unfold amC
  constructor
  · rintro ⟨h1,h2⟩
    rcases Int.lt_trichotomy z.1 0 with hc | hc | hc
    · right
      rw [lst_neg h (Int.le_of_lt hc)];have h3:=h2 hc;have h4:spHi t z.2-sg t v<=sp / (-z.1):=by omega
      rw [Int.le_ediv_iff_mul_le (by omega)] at h4;have e:(spHi t z.2-sg t v)*-z.1=z.1*sg t v-z.1*spHi t z.2:=by
        rw [Int.mul_neg,Int.sub_mul,Int.mul_comm (sg t v),Int.mul_comm (spHi t z.2)];omega
      omega
    · exact .inl hc
    · right
      rw [lst_pos h (Int.le_of_lt hc)];have h3:=h1 hc;have h4:sg t v-spLo t z.2<=sp / z.1:=by omega
      rw [Int.le_ediv_iff_mul_le hc] at h4;have e:(sg t v-spLo t z.2)*z.1=z.1*sg t v-z.1*spLo t z.2:=by
        rw [Int.sub_mul,Int.mul_comm (sg t v),Int.mul_comm (spLo t z.2)]
      omega
  · intro h3
    constructor
    · intro hc
      have h4:z.1*sg t v<=sp+lst t z:=h3.resolve_left (by omega);rw [lst_pos h (Int.le_of_lt hc)] at h4;have e:(sg t v-spLo t z.2)*z.1=z.1*sg t v-z.1*spLo t z.2:=by
        rw [Int.sub_mul,Int.mul_comm (sg t v),Int.mul_comm (spLo t z.2)]
      have h5:sg t v-spLo t z.2<=sp / z.1:=by
        rw [Int.le_ediv_iff_mul_le hc];omega
      omega
    · intro hc
      have h4:z.1*sg t v<=sp+lst t z:=h3.resolve_left (by omega);rw [lst_neg h (Int.le_of_lt hc)] at h4;have e:(spHi t z.2-sg t v)*-z.1=z.1*sg t v-z.1*spHi t z.2:=by
        rw [Int.mul_neg,Int.sub_mul,Int.mul_comm (sg t v),Int.mul_comm (spHi t z.2)];omega
      have h5:spHi t z.2-sg t v<=sp / (-z.1):=by
        rw [Int.le_ediv_iff_mul_le (by omega)];omega
      omega
theorem zip_get {cs:List Int} {D:List Dm} {x:Nat} {z:Int × Dm} (h:(cs.zip D)[x]?=some z):D[x]?=some z.2/\cs[x]?=some z.1:=by
  rw [List.getElem?_zip_eq_some] at h;exact ⟨h.2,h.1⟩
theorem atMost_safe {t:Bool} {D:List Dm} {cs vs:List Int} {k:Int} (Q:List Sq) (hf:Fines D) (hl:Lies D vs) (h:sg t (dot cs vs)<=turnK t k):∃ Q',atMostQ t D cs k Q=some Q'/\∀ x v,vs[x]?=some v->qH Q x v->qH Q' x v:=by
  have h0:=least_le t cs hf hl;have hsp:0<=spareL t (cs.zip D) k:=by unfold spareL;omega
  obtain ⟨Q',e,hq⟩:=(atMost_is t D cs k Q).2 hsp;refine ⟨Q',e,fun x v hv hx=>?_⟩;have hxl:x<D.length:=by
    rw [<-hl.len];exact (List.getElem?_eq_some_iff.1 hv).1
  obtain ⟨v',hv',hd⟩:=hl.get x D[x] (List.getElem?_eq_getElem hxl);rw [hv] at hv';injection hv' with hv';subst hv';refine (hq x v ((hf.get x _ (List.getElem?_eq_getElem hxl)).sml hd)).2 ⟨hx,fun z hz=>?_⟩;rw [amC_is (hf.get x _ (zip_get hz).1)]
  right
  have:=least_at t cs x z v hf hl hz hv;unfold spareL;omega
theorem atMost_some {t:Bool} {D:List Dm} {cs:List Int} {k:Int} {Q Q':List Sq} (h:atMostQ t D cs k Q=some Q'):leastZ t (cs.zip D)<=turnK t k/\∀ x v,Sml v->(qH Q' x v↔qH Q x v/\∀ z,(cs.zip D)[x]?=some z->amC t (spareL t (cs.zip D) k) z v):=by
  by_cases hs:spareL t (cs.zip D) k<0
  · rw [(atMost_is t D cs k Q).1 hs] at h
    cases h
  · obtain ⟨Q2,e,hq⟩:=(atMost_is t D cs k Q).2 (by omega)
    rw [h] at e;injection e with e;subst e;refine ⟨?_,hq⟩;unfold spareL at hs;omega
def Ones (D:List Dm):Prop:=∀ (x:Nat) (d:Dm),D[x]?=some d->d.one=true
theorem dAt_is {D:List Dm} {x:Int} (h:0<=x/\x<(D.length:Int)):D[x.toNat]?=some (dAt D x):=by
  have hx:x.toNat<D.length:=by omega
  unfold dAt;rw [List.getD_eq_getElem?_getD,List.getElem?_eq_getElem hx];rfl
theorem Lies.at {D:List Dm} {vs:List Int} (hf:Fines D) (hl:Lies D vs) {x:Int} (h:0<=x/\x<(D.length:Int)):(dAt D x).Fine/\(dAt D x).has (Md.val vs x)=true/\vs[x.toNat]?=some (Md.val vs x):=by
  have hd:=dAt_is h;obtain ⟨v,hv,h1⟩:=hl.get _ _ hd;have e:Md.val vs x=v:=by
    unfold Md.val;rw [List.getD_eq_getElem?_getD,hv];rfl
  rw [e];exact ⟨hf.get _ _ hd,h1,hv⟩
def Safe (R:List Dm->List Sq->Option (List Sq)) (n:Nat) (C:List Int->Prop):Prop:=∀ D vs Q,D.length=n->Fines D->Lies D vs->C vs->∃ Q',R D Q=some Q'/\∀ x v,vs[x]?=some v->qH Q x v->qH Q' x v
def Tells (R:List Dm->List Sq->Option (List Sq)) (n:Nat) (C:List Int->Prop):Prop:=∀ D vs Q Q',D.length=n->Fines D->Lies D vs->Ones D->R D Q=some Q'->(∀ x v,vs[x]?=some v->qH Q' x v)->C vs
def dotF:(Nat->Int)->List Int->Int
  | _,[]=>0
  | f,v :: vs=>f 0*v+dotF (fun x=>f (x+1)) vs
theorem dot_range (f:Nat->Int) (vs:List Int):dot ((List.range vs.length).map f) vs=dotF f vs:=by
  induction vs generalizing f with
  | nil=>rfl
  | cons v vs ih =>
    rw [List.length_cons,List.range_succ_eq_map,List.map_cons,List.map_map];show f 0*v+dot ((List.range vs.length).map (f ∘ Nat.succ)) vs=f 0*v+dotF (fun x=>f (x+1)) vs;rw [ih];rfl
theorem dotF_zero (vs:List Int):dotF (fun _=>0) vs=0:=by
  induction vs with
  | nil=>rfl
  | cons v vs ih=>show 0*v+dotF (fun _=>0) vs=0;rw [ih];simp
theorem dotF_add (f g:Nat->Int) (vs:List Int):dotF (fun x=>f x+g x) vs=dotF f vs+dotF g vs:=by
  induction vs generalizing f g with
  | nil=>rfl
  | cons v vs ih =>
    show (f 0+g 0)*v+dotF (fun x=>f (x+1)+g (x+1)) vs=(f 0*v+dotF (fun x=>f (x+1)) vs)+(g 0*v+dotF (fun x=>g (x+1)) vs);rw [ih (fun x=>f (x+1)) (fun x=>g (x+1)),Int.add_mul];omega
theorem dotF_one (c:Int) (m:Nat) (vs:List Int):dotF (fun x=>if m=x then c else 0) vs=c*vs.getD m 0:=by
  induction vs generalizing m with
  | nil=>simp [dotF]
  | cons v vs ih =>
    show (if m=0 then c else 0)*v+dotF (fun x=>if m=x+1 then c else 0) vs=_
    cases m with
    | zero =>
      have e:(fun x:Nat=>if 0=x+1 then c else 0)=fun _=>0:=by funext x;simp
      rw [e,dotF_zero];simp
    | succ m =>
      have e:(fun x:Nat=>if m+1=x+1 then c else 0)=fun x=>if m=x then c else 0:=by funext x;simp
      rw [e,ih];simp
def csum:List (Int × Int)->Nat->Int
  | [],_=>0
  | q :: t,x=>(if q.2=(x:Int) then q.1 else 0)+csum t x
theorem csum_cons (q:Int × Int) (t:List (Int × Int)) (x:Nat):csum (q :: t) x=(if q.2=(x:Int) then q.1 else 0)+csum t x:=rfl
theorem coef_fold (t:List (Int × Int)) (x:Nat) (a:Int):t.foldl (fun (c:Int) (q:Int × Int)=>if q.2=(x:Int) then c+q.1 else c) a=a+csum t x:=by
  induction t generalizing a with
  | nil=>simp [csum]
  | cons q t ih =>
    rw [List.foldl_cons,ih,csum_cons]
    split <;> omega
theorem sum_fold (t:List (Int × Int)) (vs:List Int) (a:Int):t.foldl (fun n t=>n+t.1*Md.val vs t.2) a=a+Md.sum t vs:=by
  unfold Md.sum
  induction t generalizing a with
  | nil=>simp
  | cons q t ih =>
    rw [List.foldl_cons,List.foldl_cons,ih,ih (0+q.1*Md.val vs q.2)];omega
theorem sum_cons (q:Int × Int) (t:List (Int × Int)) (vs:List Int):Md.sum (q :: t) vs=q.1*Md.val vs q.2+Md.sum t vs:=by
  have:=sum_fold t vs (0+q.1*Md.val vs q.2);show (q :: t).foldl _ 0=_;rw [List.foldl_cons,this];omega
theorem dot_coef (t:List (Int × Int)) (vs:List Int) (n:Nat) (hn:vs.length=n) (ht:∀ q∈t,0<=q.2):dot (coefL t n) vs=Md.sum t vs:=by
  have e:coefL t n=(List.range n).map (csum t):=by
    unfold coefL
    apply List.map_congr_left
    intro x _;rw [coef_fold];omega
  rw [e,<-hn,dot_range];clear e hn
  induction t with
  | nil=>exact dotF_zero vs
  | cons q t ih =>
    have e:csum (q :: t)=fun x=>(fun x:Nat=>if q.2.toNat=x then q.1 else 0) x+csum t x:=by
      funext x
      have h0:=ht q (by simp);rw [csum_cons];show _=(if q.2.toNat=x then q.1 else 0)+csum t x
      by_cases h:q.2=(x:Int)
      · have h2:q.2.toNat=x:=by omega
        rw [if_pos h,if_pos h2]
      · have h2:¬ q.2.toNat=x:=by omega
        rw [if_neg h,if_neg h2]
    rw [e,dotF_add (fun x:Nat=>if q.2.toNat=x then q.1 else 0) (csum t),dotF_one,ih (fun p hp=>ht p (by simp [hp])),sum_cons];rfl
theorem least_one (t:Bool):∀ (cs:List Int) {D:List Dm} {vs:List Int},Fines D->Lies D vs->Ones D->sg t (dot cs vs)<=leastZ t (cs.zip D)
  | [],D,vs,_,_,_=>by simp [leastZ,dot,sg_zero]
  | c :: cs,[],[],_,_,_=>by simp [leastZ,dot,sg_zero]
  | c :: cs, d :: D, v :: vs, hf, hl, ho => by
    rw [List.zip_cons_cons,leastZ_cons];unfold dot;rw [sg_add,sg_mul];have h1:=hf.1.only (ho 0 d rfl) hl.1;have h2:=hf.1.one.1 (ho 0 d rfl);have e:lst t (c,d)=c*sg t v:=by
      unfold lst spLo spHi sg;rw [<-h2,<-h1]
      cases t <;> simp
    have:=least_one t cs hf.2 hl.2 (fun x d' h=>ho (x+1) d' (by simpa using h));omega
  | _ :: _,[],_ :: _,_,h,_=>h.elim
  | _ :: _,_ :: _,[],_,h,_=>h.elim
theorem clampK_in_l {k:Int} (h:-1000000000<=k/\k<=1000000001):clampK k=k:=by unfold clampK;omega
theorem turnK_in_l {t:Bool} {k:Int} (h:-1000000000<=k/\k<=1000000001):turnK t k=sg t k:=by
  unfold turnK sg;rw [clampK_in_l h]
theorem lin_safe (c:Md.Cn) (n:Nat) (hk:-1000000000<=c.k/\c.k<=1000000000) (ho:1<=c.op/\c.op<=3) (ht:∀ q∈c.terms,0<=q.2/\q.2<(n:Int)):Safe (fun D Q=>linQ D c Q) n (fun vs=>Md.linB c vs=true):=by
  intro D vs Q hn hf hl hc;have hd:=dot_coef c.terms vs D.length hl.len (fun q hq=>(ht q hq).1);have hc':(c.op=3∨Md.sum c.terms vs<=c.k)/\(c.op=1∨c.k<=Md.sum c.terms vs):=by
    unfold Md.linB Md.cmpB at hc
    split at hc
    · exact ⟨.inr (by simpa using hc),.inl (by assumption)⟩
    · split at hc
      · have:Md.sum c.terms vs=c.k:=by simpa using hc
        exact ⟨.inr (by omega),.inr (by omega)⟩
      · exact ⟨.inl (by omega),.inr (by simpa using hc)⟩
  have step1:∃ Q1,(if c.op=3 then some Q else atMostQ false D (coefL c.terms D.length) c.k Q)=some Q1/\∀ x v,vs[x]?=some v->qH Q x v->qH Q1 x v:=by
    split
    · exact ⟨Q,rfl,fun _ _ _ h=>h⟩
    · refine atMost_safe Q hf hl ?_
      rw [hd,turnK_in_l (by omega)];show Md.sum c.terms vs<=c.k;omega
  obtain ⟨Q1,e1,h1⟩:=step1;show ∃ Q',linQ D c Q=some Q'/\_;unfold linQ;rw [e1];show ∃ Q',(if c.op=1 then some Q1 else atMostQ true D (coefL c.terms D.length) c.k Q1)=some Q'/\_
  split
  · exact ⟨Q1,rfl,h1⟩
  · obtain ⟨Q2,e2,h2⟩:=atMost_safe (t:=true) (k:=c.k) (cs:=coefL c.terms D.length) Q1 hf hl (by
      rw [hd,turnK_in_l (by omega)];show -Md.sum c.terms vs<=-c.k
      omega)
    exact ⟨Q2,e2,fun x v hv hx=>h2 x v hv (h1 x v hv hx)⟩
theorem lin_tells (c:Md.Cn) (n:Nat) (hk:-1000000000<=c.k/\c.k<=1000000000) (ho:1<=c.op/\c.op<=3) (ht:∀ q∈c.terms,0<=q.2/\q.2<(n:Int)):Tells (fun D Q=>linQ D c Q) n (fun vs=>Md.linB c vs=true):=by
  intro D vs Q Q' hn hf hl h1 h _;have hd:=dot_coef c.terms vs D.length hl.len (fun q hq=>(ht q hq).1);have h:linQ D c Q=some Q':=h;unfold linQ at h;obtain ⟨P,hP,h2⟩:∃ P,(if c.op=3 then some Q else atMostQ false D (coefL c.terms D.length) c.k Q)=some P/\(if c.op=1 then some P else atMostQ true D (coefL c.terms D.length) c.k P)=some Q':=by
    generalize hg:(if c.op=3 then some Q else atMostQ false D (coefL c.terms D.length) c.k Q)=g at h
    cases g with
    | none=>cases h
    | some P'=>exact ⟨P',rfl,h⟩
  have a:c.op=3∨Md.sum c.terms vs<=c.k:=by
    split at hP
    · exact .inl (by assumption)
    · right
      have:=(atMost_some hP).1;rw [turnK_in_l (by omega)] at this;have h3:=least_one false (coefL c.terms D.length) hf hl h1;rw [hd] at h3;exact Int.le_trans h3 this
  have b:c.op=1∨c.k<=Md.sum c.terms vs:=by
    split at h2
    · exact .inl (by assumption)
    · right
      have:=(atMost_some h2).1;rw [turnK_in_l (by omega)] at this;have h3:=least_one true (coefL c.terms D.length) hf hl h1;rw [hd] at h3;have h4:-Md.sum c.terms vs<=-c.k:=Int.le_trans h3 this;omega
  show Md.linB c vs=true;unfold Md.linB Md.cmpB
  split
  · simp;omega
  · split
    · simp;omega
    · simp;omega
theorem qH_if (b:Bool) (Q:List Sq) (y:Nat) (t:Int->Bool) (x:Nat) (v:Int):qH (if b=true then someQ Q y t else Q) x v↔qH Q x v/\(b=true->x=y->t v=true):=by
  split
  · rename_i hb
    rw [qH_some];exact ⟨fun h=>⟨h.1,fun _=>h.2⟩,fun h=>⟨h.1,h.2 hb⟩⟩
  · rename_i hb
    exact ⟨fun h=>⟨h,fun h2=>absurd h2 hb⟩,fun h=>h.1⟩
def neC (D:List Dm) (c:Md.Cn) (x:Nat) (v:Int):Prop:=((dAt D c.y).one=true->x=c.x.toNat->v≠(dAt D c.y).lo+c.k)/\((dAt D c.x).one=true->x=c.y.toNat->v≠(dAt D c.x).lo-c.k)
theorem ne_is (D:List Dm) (c:Md.Cn) (Q:List Sq) (h:c.x≠c.y):∃ Q',neQ D c Q=some Q'/\∀ x v,qH Q' x v↔qH Q x v/\neC D c x v:=by
  unfold neQ;rw [if_neg h];refine ⟨_,rfl,fun x v=>?_⟩;have h1:=qH_if (dAt D c.y).one Q c.x.toNat (fun v=>v != (dAt D c.y).lo+c.k) x v;have h2:=qH_if (dAt D c.x).one (if (dAt D c.y).one=true then someQ Q c.x.toNat (fun v=>v != (dAt D c.y).lo+c.k) else Q) c.y.toNat (fun v=>v != (dAt D c.x).lo-c.k) x v;rw [h2,h1];unfold neC;simp only [bne_iff_ne];exact ⟨fun h=>⟨h.1.1,h.1.2,h.2⟩,fun h=>⟨⟨h.1,h.2.1⟩,h.2.2⟩⟩
theorem ne_safe (c:Md.Cn) (n:Nat) (hx:0<=c.x/\c.x<(n:Int)) (hy:0<=c.y/\c.y<(n:Int)):Safe (fun D Q=>neQ D c Q) n (fun vs=>Md.neB c vs=true):=by
  intro D vs Q hn hf hl hc;have hc:Md.val vs c.x≠Md.val vs c.y+c.k:=by simpa [Md.neB] using hc
  rw [<-hn] at hx hy;obtain ⟨fx,lx,vx⟩:=hl.at hf hx;obtain ⟨fy,ly,vy⟩:=hl.at hf hy
  by_cases e:c.x=c.y
  · show ∃ Q',neQ D c Q=some Q'/\_
    unfold neQ;rw [if_pos e];rw [e] at hc;rw [if_neg (by omega)];exact ⟨Q,rfl,fun _ _ _ h=>h⟩
  · obtain ⟨Q',e1,h1⟩:=ne_is D c Q e
    refine ⟨Q',e1,fun x v hv hq=>(h1 x v).2 ⟨hq,fun ho hxe=>?_,fun ho hxe=>?_⟩⟩
    · subst hxe
      rw [vx] at hv;injection hv with hv;have:=fy.only ho ly;omega
    · subst hxe
      rw [vy] at hv;injection hv with hv;have:=fx.only ho lx;omega
theorem ne_tells (c:Md.Cn) (n:Nat) (hx:0<=c.x/\c.x<(n:Int)) (hy:0<=c.y/\c.y<(n:Int)):Tells (fun D Q=>neQ D c Q) n (fun vs=>Md.neB c vs=true):=by
  intro D vs Q Q' hn hf hl h1 h hq;rw [<-hn] at hx hy;obtain ⟨fx,lx,vx⟩:=hl.at hf hx;obtain ⟨fy,ly,vy⟩:=hl.at hf hy;have h:neQ D c Q=some Q':=h;show Md.neB c vs=true;unfold Md.neB;rw [decide_eq_true_eq]
  by_cases e:c.x=c.y
  · unfold neQ at h
    rw [if_pos e] at h
    split at h
    · cases h
    · rw [e]
      omega
  · obtain ⟨P',e1,h2⟩:=ne_is D c Q e
    rw [h] at e1;injection e1 with e1;subst e1;have h3:=((h2 _ _).1 (hq _ _ vx)).2.1 (h1 _ _ (dAt_is hy)) rfl;have:=fy.only (h1 _ _ (dAt_is hy)) ly;omega
theorem elem_is (D:List Dm) (c:Md.Cn) (Q:List Sq) (x:Nat) (v:Int):qH (elemQ D c Q) x v↔(qH Q x v/\(x=c.x.toNat->elB1 D c v=true))/\(x=c.y.toNat->elB2 D c v=true):=by
  unfold elemQ;rw [qH_some,qH_some]
theorem elB1_is (D:List Dm) (c:Md.Cn) (v:Int):elB1 D c v=true↔0<=v/\v<(c.table.length:Int)/\(dAt D c.y).has (c.table.getD v.toNat 0)=true:=by
  unfold elB1;simp only [Bool.and_eq_true,decide_eq_true_eq]
theorem elB2_is (D:List Dm) (c:Md.Cn) (v:Int):elB2 D c v=true↔∃ k:Nat,k<c.table.length/\c.table.getD k 0=v/\(dAt D c.x).has (k:Int)=true:=by
  unfold elB2 el2B;rw [List.any_eq_true];simp only [List.mem_range,Bool.and_eq_true,beq_iff_eq]
theorem elem_safe (c:Md.Cn) (n:Nat) (hx:0<=c.x/\c.x<(n:Int)) (hy:0<=c.y/\c.y<(n:Int)):Safe (fun D Q=>some (elemQ D c Q)) n (fun vs=>Md.elB c vs=true):=by
  intro D vs Q hn hf hl hc;have hc:0<=Md.val vs c.x/\Md.val vs c.x<c.table.length/\Md.val vs c.y=c.table.getD (Md.val vs c.x).toNat 0:=by unfold Md.elB at hc;exact of_decide_eq_true hc
  obtain ⟨c1,c2,c3⟩:=hc;rw [<-hn] at hx hy;obtain ⟨fx,lx,vx⟩:=hl.at hf hx;obtain ⟨fy,ly,vy⟩:=hl.at hf hy;refine ⟨_,rfl,fun x v hv hq=>(elem_is D c Q x v).2 ⟨⟨hq,fun e=>?_⟩,fun e=>?_⟩⟩
  · subst e
    rw [vx] at hv;injection hv with hv;subst hv;rw [elB1_is,<-c3];exact ⟨c1,c2,ly⟩
  · subst e
    rw [vy] at hv;injection hv with hv;subst hv;rw [elB2_is];refine ⟨(Md.val vs c.x).toNat,by omega,c3.symm,?_⟩;rw [Int.toNat_of_nonneg c1];exact lx
theorem elem_tells (c:Md.Cn) (n:Nat) (hx:0<=c.x/\c.x<(n:Int)) (hy:0<=c.y/\c.y<(n:Int)):Tells (fun D Q=>some (elemQ D c Q)) n (fun vs=>Md.elB c vs=true):=by
  intro D vs Q Q' hn hf hl h1 h hq;rw [<-hn] at hx hy;obtain ⟨fx,lx,vx⟩:=hl.at hf hx;obtain ⟨fy,ly,vy⟩:=hl.at hf hy;injection h with h;subst h;obtain ⟨⟨_,a⟩,_⟩:=(elem_is _ _ _ _ _).1 (hq _ _ vx);obtain ⟨b1,b2,b3⟩:=(elB1_is _ _ _).1 (a rfl);have e1:=fy.only (h1 _ _ (dAt_is hy)) ly;have e2:=fy.only (h1 _ _ (dAt_is hy)) b3;show Md.elB c vs=true;unfold Md.elB;rw [decide_eq_true_eq];exact ⟨b1,b2,by rw [e1,e2]⟩
theorem foldmax_le (f:Int->Int) (l:List Int) (a b:Int):l.foldl (fun m x=>max m (f x)) a<=b↔a<=b/\∀ x∈l,f x<=b:=by
  induction l generalizing a with
  | nil=>simp
  | cons y l ih =>
    rw [List.foldl_cons,ih]
    constructor
    · rintro ⟨h1,h2⟩
      refine ⟨by omega,fun x hx=>?_⟩;rcases List.mem_cons.1 hx with rfl | hx
      · omega
      · exact h2 x hx
    · rintro ⟨h1,h2⟩
      have:=h2 y (by simp);exact ⟨by omega,fun x hx=>h2 x (by simp [hx])⟩
theorem le_foldmax (f:Int->Int) (l:List Int) (a b:Int):b<=l.foldl (fun m x=>max m (f x)) a↔b<=a∨∃ x∈l,b<=f x:=by
  induction l generalizing a with
  | nil=>simp
  | cons y l ih =>
    rw [List.foldl_cons,ih]
    constructor
    · rintro (h | ⟨x,hx,h⟩)
      · by_cases h2:b<=a
        · exact .inl h2
        · exact .inr ⟨y,by simp,by omega⟩
      · exact .inr ⟨x,by simp [hx],h⟩
    · rintro (h | ⟨x,hx,h⟩)
      · exact .inl (by omega)
      · rcases List.mem_cons.1 hx with rfl | hx
        · exact .inl (by omega)
        · exact .inr ⟨x,hx,h⟩
theorem canLo_le {t:Bool} {D:List Dm} {xs:List Int} {b:Int} (hx:0<xs.length):canLo t D (xs.headD 0) xs<=b↔∀ x∈xs,spLo t (dAt D x)<=b:=by
  unfold canLo;rw [foldmax_le]
  constructor
  · exact fun h=>h.2
  · refine fun h=>⟨?_,h⟩
    cases xs with
    | nil=>simp at hx
    | cons a l=>exact h a (by simp)
theorem le_canHi {t:Bool} {D:List Dm} {xs:List Int} {b:Int} (hx:0<xs.length):b<=canHi t D (xs.headD 0) xs↔∃ x∈xs,b<=spHi t (dAt D x):=by
  unfold canHi;rw [le_foldmax]
  constructor
  · rintro (h | h)
    · cases xs with
      | nil=>simp at hx
      | cons a l=>exact ⟨a,by simp,h⟩
    · exact h
  · exact fun h=>.inr h
def grC (t:Bool) (D:List Dm) (xs:List Int) (a b:Int) (o:Int) (v:Int):Prop:=sg t v<=b/\((∀ p∈xs,p≠o->spHi t (dAt D p)<a)->a<=sg t v)
theorem rch_is {t:Bool} {D:List Dm} {xs:List Int} {a o:Int}:xs.any (rchB t D o a)=true↔∃ p∈xs,p≠o/\a<=spHi t (dAt D p):=by
  rw [List.any_eq_true];unfold rchB;simp only [Bool.and_eq_true,bne_iff_ne,decide_eq_true_eq]
theorem qH_gr {t:Bool} {D:List Dm} {xs:List Int} {a b:Int} (Q:List Sq) (o:Int) (x:Nat) (v:Int) (hv:Sml v):qH (grStep t D xs a b Q o) x v↔qH Q x v/\(x=o.toNat->grC t D xs a b o v):=by
  have hs:=hv.sg t;unfold Sml at hs;unfold grStep grC
  split
  · rename_i h
    obtain ⟨p,hp,h1,h2⟩:=rch_is.1 h;rw [qH_sKeep]
    constructor
    · rintro ⟨h3,h4⟩
      refine ⟨h3,fun e=>⟨(h4 e).2,fun h5=>?_⟩⟩;have:=h5 p hp h1;omega
    · rintro ⟨h3,h4⟩
      exact ⟨h3,fun e=>⟨hs.1,(h4 e).1⟩⟩
  · rename_i h
    have h5:∀ p∈xs,p≠o->spHi t (dAt D p)<a:=fun p hp h1=>by
      rcases Int.lt_or_le (spHi t (dAt D p)) a with h2 | h2
      · exact h2
      · exact absurd (rch_is.2 ⟨p,hp,h1,h2⟩) h
    rw [qH_sKeep,qH_sKeep]
    constructor
    · rintro ⟨⟨h3,h4⟩,h6⟩
      exact ⟨h3,fun e=>⟨(h4 e).2,fun _=>(h6 e).1⟩⟩
    · rintro ⟨h3,h4⟩
      exact ⟨⟨h3,fun e=>⟨hs.1,(h4 e).1⟩⟩,fun e=>⟨(h4 e).2 h5,hs.2⟩⟩
theorem qH_grs {t:Bool} {D:List Dm} {xs:List Int} {a b:Int} (ys:List Int) (Q:List Sq) (x:Nat) (v:Int) (hv:Sml v):qH (ys.foldl (grStep t D xs a b) Q) x v↔qH Q x v/\∀ o∈ys,x=o.toNat->grC t D xs a b o v:=by
  induction ys generalizing Q with
  | nil=>simp
  | cons y ys ih =>
    rw [List.foldl_cons,ih,qH_gr _ _ _ _ hv]
    constructor
    · rintro ⟨⟨h1,h2⟩,h3⟩
      refine ⟨h1,fun o ho=>?_⟩;rcases List.mem_cons.1 ho with rfl | ho
      · exact h2
      · exact h3 o ho
    · rintro ⟨h1,h2⟩
      exact ⟨⟨h1,h2 y (by simp)⟩,fun o ho=>h2 o (by simp [ho])⟩
def mxOk (t:Bool) (D:List Dm) (c:Md.Cn):Prop:=(∃ x∈c.xs,spLo t (dAt D c.y)<=spHi t (dAt D x))/\∀ x∈c.xs,spLo t (dAt D x)<=spHi t (dAt D c.y)
def mxC (t:Bool) (D:List Dm) (c:Md.Cn) (x:Nat) (v:Int):Prop:=(x=c.y.toNat->(∀ o∈c.xs,spLo t (dAt D o)<=sg t v)/\∃ o∈c.xs,sg t v<=spHi t (dAt D o))/\∀ o∈c.xs,x=o.toNat->grC t D c.xs (spLo t (dAt D c.y)) (spHi t (dAt D c.y)) o v
theorem max_is_l (t:Bool) (D:List Dm) (c:Md.Cn) (Q:List Sq) (hx:0<c.xs.length):(¬ mxOk t D c->maxQ t D c Q=none)/\(mxOk t D c->∃ Q',maxQ t D c Q=some Q'/\∀ x v,Sml v->(qH Q' x v↔qH Q x v/\mxC t D c x v)):=by
  have hok:(canHi t D (c.xs.headD 0) c.xs<spLo t (dAt D c.y)∨spHi t (dAt D c.y)<canLo t D (c.xs.headD 0) c.xs)↔¬ mxOk t D c:=by
    unfold mxOk;rw [<-le_canHi hx,<-canLo_le hx];omega
  unfold maxQ greatQ
  constructor
  · intro h
    rw [if_pos (hok.2 h)]
  · intro h
    rw [if_neg (fun h2=>hok.1 h2 h)];refine ⟨_,rfl,fun x v hv=>?_⟩;rw [qH_grs _ _ _ _ hv,qH_sKeep,canLo_le hx,le_canHi hx];unfold mxC;exact ⟨fun h=>⟨h.1.1,h.1.2,h.2⟩,fun h=>⟨⟨h.1,h.2.1⟩,h.2.2⟩⟩
def mxV (t:Bool) (c:Md.Cn) (vs:List Int):Prop:=(∀ x∈c.xs,sg t (Md.val vs x)<=sg t (Md.val vs c.y))/\∃ x∈c.xs,sg t (Md.val vs x)=sg t (Md.val vs c.y)
theorem max_safe (t:Bool) (c:Md.Cn) (n:Nat) (hp:0<c.xs.length) (hy:0<=c.y/\c.y<(n:Int)) (hx:∀ x∈c.xs,0<=x/\x<(n:Int)):Safe (fun D Q=>maxQ t D c Q) n (mxV t c):=by
  intro D vs Q hn hf hl hc;rw [<-hn] at hy hx;obtain ⟨fy,ly,vy⟩:=hl.at hf hy;have sy:=sp_of (t:=t) fy ly;have sx:∀ x∈c.xs,spLo t (dAt D x)<=sg t (Md.val vs x)/\sg t (Md.val vs x)<=spHi t (dAt D x):=fun x h=>sp_of (hl.at hf (hx x h)).1 (hl.at hf (hx x h)).2.1
  obtain ⟨h1,m,hm,h2⟩:=hc;have hmm:=sx m hm;obtain ⟨Q',e,hq⟩:=(max_is_l t D c Q hp).2 ⟨⟨m,hm,by omega⟩,fun x h=>by have:=sx x h;have:=h1 x h;omega⟩;refine ⟨Q',e,fun x v hv hq0=>?_⟩;have hxl:x<D.length:=by
    rw [<-hl.len];exact (List.getElem?_eq_some_iff.1 hv).1
  obtain ⟨v',hv',hd⟩:=hl.get x D[x] (List.getElem?_eq_getElem hxl);rw [hv] at hv';injection hv' with hv';subst hv';refine (hq x v ((hf.get x _ (List.getElem?_eq_getElem hxl)).sml hd)).2 ⟨hq0,fun ex=>?_,fun o ho ex=>⟨?_,fun h3=>?_⟩⟩
  · subst ex
    rw [vy] at hv;injection hv with hv;subst hv;exact ⟨fun o ho=>by have:=sx o ho;have:=h1 o ho;omega,m,hm,by omega⟩
  · subst ex
    rw [(hl.at hf (hx o ho)).2.2] at hv;injection hv with hv;subst hv;have:=h1 o ho;omega
  · subst ex
    rw [(hl.at hf (hx o ho)).2.2] at hv;injection hv with hv;subst hv
    by_cases e2:m=o
    · subst e2
      omega
    · have:=h3 m hm e2
      omega
theorem max_tells (t:Bool) (c:Md.Cn) (n:Nat) (hp:0<c.xs.length) (hy:0<=c.y/\c.y<(n:Int)) (hx:∀ x∈c.xs,0<=x/\x<(n:Int)):Tells (fun D Q=>maxQ t D c Q) n (mxV t c):=by
  intro D vs Q Q' hn hf hl h1 h hq;rw [<-hn] at hy hx;have h:maxQ t D c Q=some Q':=h;have one:∀ x:Int,0<=x/\x<(D.length:Int)->spLo t (dAt D x)=sg t (Md.val vs x)/\spHi t (dAt D x)=sg t (Md.val vs x):=fun x hx=>by
    obtain ⟨f,l,_⟩:=hl.at hf hx;have ho:=h1 _ _ (dAt_is hx);have e1:=f.only ho l;have e2:=f.one.1 ho;unfold spLo spHi sg
    cases t <;> simp <;> omega
  have hok:mxOk t D c:=by
    apply Classical.byContradiction
    intro hno;rw [(max_is_l t D c Q hp).1 hno] at h
    cases h
  obtain ⟨⟨m,hm,o1⟩,o2⟩:=hok;have ym:=one c.y hy;have mm:=one m (hx m hm);refine ⟨fun x hh=>?_,m,hm,?_⟩
  · have:=o2 x hh
    have:=one x (hx x hh);omega
  · have:=o2 m hm
    omega
theorem mx_v (c:Md.Cn) (vs:List Int):Md.mxB c vs=true↔mxV false c vs:=by
  unfold Md.mxB mxV sg;rw [Bool.and_eq_true,List.all_eq_true,List.any_eq_true];simp
theorem mn_v (c:Md.Cn) (vs:List Int):Md.mnB c vs=true↔mxV true c vs:=by
  unfold Md.mnB mxV sg;rw [Bool.and_eq_true,List.all_eq_true,List.any_eq_true];simp only [decide_eq_true_eq,if_true]
  constructor
  · rintro ⟨h1,x,hx,h2⟩
    exact ⟨fun y hy=>by have:=h1 y hy;omega,x,hx,by omega⟩
  · rintro ⟨h1,x,hx,h2⟩
    exact ⟨fun y hy=>by have:=h1 y hy;omega,x,hx,by omega⟩
def rfC (D:List Dm) (cs:List Int) (k:Int) (v:Int):Prop:=(0<=v/\v<=1)/\(-(leastZ true (cs.zip D))<=k->v=1)/\(k<leastZ false (cs.zip D)->v=0)
theorem rf3_is (D:List Dm) (cs:List Int) (k:Int) (y:Nat) (Q:List Sq) (x:Nat) (v:Int):qH (rf3Q D cs k y Q) x v↔qH Q x v/\(x=y->rfC D cs k v):=by
  have h1:qH (if -(leastZ true (cs.zip D))<=k then keepQ (keepQ Q y 0 1) y 1 1 else keepQ Q y 0 1) x v↔qH Q x v/\(x=y->(0<=v/\v<=1)/\(-(leastZ true (cs.zip D))<=k->v=1)):=by
    split
    · rename_i h
      rw [qH_keep,qH_keep]
      constructor
      · rintro ⟨⟨a,b⟩,e⟩
        exact ⟨a,fun hx=>⟨b hx,fun _=>by have:=e hx;omega⟩⟩
      · rintro ⟨a,b⟩
        exact ⟨⟨a,fun hx=>(b hx).1⟩,fun hx=>by have:=(b hx).2 h;omega⟩
    · rename_i h
      rw [qH_keep]
      constructor
      · rintro ⟨a,b⟩
        exact ⟨a,fun hx=>⟨b hx,fun h2=>absurd h2 h⟩⟩
      · rintro ⟨a,b⟩
        exact ⟨a,fun hx=>(b hx).1⟩
  unfold rf3Q rfC
  split
  · rename_i h
    rw [qH_keep,h1]
    constructor
    · rintro ⟨⟨a,b⟩,e⟩
      exact ⟨a,fun hx=>⟨(b hx).1,(b hx).2,fun _=>by have:=e hx;omega⟩⟩
    · rintro ⟨a,b⟩
      exact ⟨⟨a,fun hx=>⟨(b hx).1,(b hx).2.1⟩⟩,fun hx=>by have:=(b hx).2.2 h;omega⟩
  · rename_i h
    rw [h1]
    constructor
    · rintro ⟨a,b⟩
      exact ⟨a,fun hx=>⟨(b hx).1,(b hx).2,fun h2=>absurd h2 h⟩⟩
    · rintro ⟨a,b⟩
      exact ⟨a,fun hx=>⟨(b hx).1,(b hx).2.1⟩⟩
theorem rf_v (c:Md.Cn) (vs:List Int):Md.rfB c vs=true↔(Md.sum c.terms vs<=c.k/\Md.val vs c.x=1)∨(c.k<Md.sum c.terms vs/\Md.val vs c.x=0):=by
  unfold Md.rfB
  split
  · simp only [decide_eq_true_eq]
    omega
  · simp only [decide_eq_true_eq]
    omega
theorem reif_safe (c:Md.Cn) (n:Nat) (hk:-1000000000<=c.k/\c.k<=1000000000) (hx:0<=c.x/\c.x<(n:Int)) (ht:∀ q∈c.terms,0<=q.2/\q.2<(n:Int)):Safe (fun D Q=>reifQ D c Q) n (fun vs=>Md.rfB c vs=true):=by
  intro D vs Q hn hf hl hc;rw [<-hn] at hx;have hc:=(rf_v c vs).1 hc;have hd:=dot_coef c.terms vs D.length hl.len (fun q hq=>(ht q hq).1);obtain ⟨fx,lx,vx⟩:=hl.at hf hx;have l0:=least_le false (coefL c.terms D.length) hf hl;have l1:=least_le true (coefL c.terms D.length) hf hl;rw [hd] at l0 l1;have l0:leastZ false ((coefL c.terms D.length).zip D)<=Md.sum c.terms vs:=l0;have l1:leastZ true ((coefL c.terms D.length).zip D)<=-Md.sum c.terms vs:=l1;have hr:∀ x v,vs[x]?=some v->qH Q x v->qH (rf3Q D (coefL c.terms D.length) c.k c.x.toNat Q) x v:=fun x v hv hq=>by
    refine (rf3_is _ _ _ _ _ _ _).2 ⟨hq,fun e=>?_⟩;subst e;rw [vx] at hv;injection hv with hv;subst hv;unfold rfC;omega
  show ∃ Q',reifQ D c Q=some Q'/\_;unfold reifQ
  rw [if_neg (by
    rintro ⟨h0,h1⟩;rcases hc with ⟨_,e⟩ | ⟨_,e⟩
    · rw [e,h1] at lx;cases lx
    · rw [e,h0] at lx;cases lx)]
  split
  · exact ⟨_,rfl,hr⟩
  · rename_i h1
    have ho:(dAt D c.x).one=true:=by simpa using h1
    have e:=fx.only ho lx
    split
    · obtain ⟨Q2,e2,h2⟩:=atMost_safe (t:=false) (k:=c.k) (cs:=coefL c.terms D.length) (rf3Q D (coefL c.terms D.length) c.k c.x.toNat Q) hf hl (by
        rw [hd,turnK_in_l (by omega)];show Md.sum c.terms vs<=c.k
        omega)
      exact ⟨Q2,e2,fun x v hv hx=>h2 x v hv (hr x v hv hx)⟩
    · obtain ⟨Q2,e2,h2⟩:=atMost_safe (t:=true) (k:=c.k+1) (cs:=coefL c.terms D.length) (rf3Q D (coefL c.terms D.length) c.k c.x.toNat Q) hf hl (by
        rw [hd,turnK_in_l (by omega)];show -Md.sum c.terms vs<=-(c.k+1)
        omega)
      exact ⟨Q2,e2,fun x v hv hx=>h2 x v hv (hr x v hv hx)⟩
theorem reif_tells (c:Md.Cn) (n:Nat) (hk:-1000000000<=c.k/\c.k<=1000000000) (hx:0<=c.x/\c.x<(n:Int)) (ht:∀ q∈c.terms,0<=q.2/\q.2<(n:Int)):Tells (fun D Q=>reifQ D c Q) n (fun vs=>Md.rfB c vs=true):=by
  intro D vs Q Q' hn hf hl h1 h hq;rw [<-hn] at hx;have hd:=dot_coef c.terms vs D.length hl.len (fun q hq=>(ht q hq).1);obtain ⟨fx,lx,vx⟩:=hl.at hf hx;have ho:=h1 _ _ (dAt_is hx);have e:=fx.only ho lx;have l0:=least_one false (coefL c.terms D.length) hf hl h1;have l1:=least_one true (coefL c.terms D.length) hf hl h1;rw [hd] at l0 l1;have l0:Md.sum c.terms vs<=leastZ false ((coefL c.terms D.length).zip D):=l0;have l1:-Md.sum c.terms vs<=leastZ true ((coefL c.terms D.length).zip D):=l1;have h:reifQ D c Q=some Q':=h;show Md.rfB c vs=true;rw [rf_v];unfold reifQ at h
  split at h
  · cases h
  rename_i h01
  rw [if_neg (by rw [ho];simp)] at h
  split at h
  · have:=(atMost_some h).1
    rw [turnK_in_l (by omega)] at this;have this:leastZ false ((coefL c.terms D.length).zip D)<=c.k:=this;omega
  · rename_i hlo
    have:=(atMost_some h).1;rw [turnK_in_l (by omega)] at this;have this:leastZ true ((coefL c.terms D.length).zip D)<=-(c.k+1):=this;have:(dAt D c.x).lo=0:=by
      by_cases h0:(dAt D c.x).has 0=true
      · exact (fx.only ho h0).symm
      · by_cases h3:(dAt D c.x).has 1=true
        · exact absurd (fx.only ho h3).symm hlo
        · exact absurd ⟨by simpa using h0,by simpa using h3⟩ h01
    omega
theorem tab_is (D:List Dm) (c:Md.Cn) (Q:List Sq) (n:Nat) (x:Nat) (v:Int):qH (tabF D c Q n) x v↔qH Q x v/\∀ k,k<n->x=(c.xs.getD k 0).toNat->(aliveL D c).any (rowB k v)=true:=by
  unfold tabF
  induction n with
  | zero=>simp
  | succ n ih =>
    rw [List.range_succ,List.foldl_append];show qH (someQ _ _ _) x v↔_;rw [qH_some,ih]
    constructor
    · rintro ⟨⟨h1,h2⟩,h3⟩
      refine ⟨h1,fun k hk e=>?_⟩
      by_cases hkn:k=n
      · subst hkn
        exact h3 e
      · exact h2 k (by omega) e
    · rintro ⟨h1,h2⟩
      exact ⟨⟨h1,fun k hk=>h2 k (by omega)⟩,fun e=>h2 n (by omega) e⟩
theorem alive_is {D:List Dm} {c:Md.Cn} {r:List Int}:r∈aliveL D c↔r∈c.rows/\∀ k,k<c.xs.length->(dAt D (c.xs.getD k 0)).has (r.getD k 0)=true:=by
  unfold aliveL alB;rw [List.mem_filter,List.all_eq_true];simp only [List.mem_range]
theorem getD_in {l:List Int} {k:Nat} (h:k<l.length):l.getD k 0∈l:=by
  rw [List.getD_eq_getElem?_getD,List.getElem?_eq_getElem h];exact List.getElem_mem h
theorem getD_map {l:List Int} {k:Nat} (f:Int->Int) (h:k<l.length):(l.map f).getD k 0=f (l.getD k 0):=by
  rw [List.getD_eq_getElem?_getD,List.getD_eq_getElem?_getD,List.getElem?_map,List.getElem?_eq_getElem h];rfl
theorem table_safe (c:Md.Cn) (n:Nat) (hx:∀ x∈c.xs,0<=x/\x<(n:Int)):Safe (fun D Q=>tableQ D c Q) n (fun vs=>Md.tbB c vs=true):=by
  intro D vs Q hn hf hl hc;rw [<-hn] at hx;unfold Md.tbB at hc;obtain ⟨r,hr,e⟩:=List.any_eq_true.1 hc;have e:=of_decide_eq_true e
  have ha:r∈aliveL D c:=alive_is.2 ⟨hr,fun k hk=>by
    rw [<-e,getD_map _ hk]
    exact (hl.at hf (hx _ (getD_in hk))).2.1⟩
  show ∃ Q',tableQ D c Q=some Q'/\_;unfold tableQ;rw [if_pos (List.length_pos_of_mem ha)];refine ⟨_,rfl,fun x v hv hq=>(tab_is _ _ _ _ _ _).2 ⟨hq,fun k hk ex=>?_⟩⟩;subst ex;rw [(hl.at hf (hx _ (getD_in hk))).2.2] at hv;injection hv with hv;subst hv;refine List.any_eq_true.2 ⟨r,ha,?_⟩;unfold rowB;rw [<-e,getD_map _ hk];simp
theorem table_tells (c:Md.Cn) (n:Nat) (hx:∀ x∈c.xs,0<=x/\x<(n:Int)) (hr:∀ r∈c.rows,r.length=c.xs.length):Tells (fun D Q=>tableQ D c Q) n (fun vs=>Md.tbB c vs=true):=by
  intro D vs Q Q' hn hf hl h1 h hq;rw [<-hn] at hx;have h:tableQ D c Q=some Q':=h;unfold tableQ at h
  split at h
  · rename_i hp
    obtain ⟨r,hra⟩:=List.exists_mem_of_length_pos hp;obtain ⟨hr1,hr2⟩:=alive_is.1 hra;show Md.tbB c vs=true;unfold Md.tbB;refine List.any_eq_true.2 ⟨r,hr1,decide_eq_true ?_⟩;have hlen:=hr r hr1
    apply List.ext_getElem
    · rw [List.length_map,hlen]
    · intro k hk1 hk2
      have hk:k<c.xs.length:=by simpa using hk1
      have e1:=hr2 k hk;have hxk:=hx _ (getD_in hk);obtain ⟨f,l,_⟩:=hl.at hf hxk;have ho:=h1 _ _ (dAt_is hxk);have e2:=f.only ho l;have e3:=f.only ho e1;have g1:r.getD k 0=r[k]:=by rw [List.getD_eq_getElem?_getD,List.getElem?_eq_getElem hk2];rfl
      have g2:c.xs.getD k 0=c.xs[k]:=by rw [List.getD_eq_getElem?_getD,List.getElem?_eq_getElem hk];rfl
      rw [List.getElem_map,<-g1,<-g2,e2,e3]
  · cases h
def ctC (am al:Bool) (v k sure may:Int) (z:Int × Dm) (u:Int):Prop:=z.1≠0->z.2.has v=true->(al=true->may-z.1<k->u=v)/\(am=true->1<z.2.size->k<sure+z.1->u≠v)
theorem ctS_is {am al:Bool} {v k sure may:Int} (Q:List Sq) (n:Nat) (z:Int × Dm) (x:Nat) (u:Int):qH (ctStep am al v k sure may Q n z) x u↔qH Q x u/\(x=n->ctC am al v k sure may z u):=by
  have h1:qH (if (am&&decide (1<z.2.size)&&decide (k<sure+z.1))=true then someQ Q n (fun u=>u != v) else Q) x u↔qH Q x u/\(x=n->am=true->1<z.2.size->k<sure+z.1->u≠v):=by
    rw [qH_if];simp only [Bool.and_eq_true,decide_eq_true_eq,bne_iff_ne];exact ⟨fun h=>⟨h.1,fun e a b c=>h.2 ⟨⟨a,b⟩,c⟩ e⟩,fun h=>⟨h.1,fun a e=>h.2 e a.1.1 a.1.2 a.2⟩⟩
  unfold ctStep ctC
  split
  · rename_i h
    constructor
    · refine fun hq=>⟨hq,fun _ a b=>?_⟩
      rcases h with h | h
      · exact absurd h a
      · rw [h] at b;cases b
    · exact fun hq=>hq.1
  · rename_i h
    have hz:z.1≠0/\z.2.has v=true:=by
      constructor
      · exact fun e=>h (.inl e)
      · cases e:z.2.has v
        · exact absurd (.inr e) h
        · rfl
    split
    · rename_i h2
      have h2:al=true/\may-z.1<k:=by simpa using h2
      rw [qH_keep,h1]
      constructor
      · rintro ⟨⟨a,b⟩,e⟩
        exact ⟨a,fun hx _ _=>⟨fun _ _=>by have:=e hx;omega,b hx⟩⟩
      · rintro ⟨a,b⟩
        exact ⟨⟨a,fun hx=>(b hx hz.1 hz.2).2⟩,fun hx=>by have:=(b hx hz.1 hz.2).1 h2.1 h2.2;omega⟩
    · rename_i h2
      rw [h1]
      constructor
      · rintro ⟨a,b⟩
        exact ⟨a,fun hx _ _=>⟨fun p q=>absurd (by simpa using ⟨p,q⟩) h2,b hx⟩⟩
      · rintro ⟨a,b⟩
        exact ⟨a,fun hx=>(b hx hz.1 hz.2).2⟩
theorem ctQ_is {am al:Bool} {v k sure may:Int} (zs:List (Int × Dm)) (Q:List Sq) (n:Nat) (x:Nat) (u:Int):qH (ctQ am al v k sure may zs Q n) x u↔qH Q x u/\(x<n->∀ z,zs[x]?=some z->ctC am al v k sure may z u):=by
  induction n with
  | zero=>simp [ctQ]
  | succ n ih =>
    unfold ctQ
    split
    · rename_i z hz
      refine (ctS_is _ _ _ _ _).trans ?_
      constructor
      · rintro ⟨h12,h3⟩
        obtain ⟨h1,h2⟩:=ih.1 h12;refine ⟨h1,fun hx z' hz'=>?_⟩
        by_cases e:x=n
        · subst e
          rw [hz] at hz';injection hz' with hz';rw [<-hz'];exact h3 rfl
        · exact h2 (by omega) z' hz'
      · rintro ⟨h1,h2⟩
        exact ⟨ih.2 ⟨h1,fun hx=>h2 (by omega)⟩,fun e=>h2 (by omega) z (by rw [e];exact hz)⟩
    · rename_i hz
      constructor
      · intro h12
        obtain ⟨h1,h2⟩:=ih.1 h12;refine ⟨h1,fun hx z' hz'=>?_⟩
        by_cases e:x=n
        · subst e
          rw [hz] at hz'
          cases hz'
        · exact h2 (by omega) z' hz'
      · rintro ⟨h1,h2⟩
        exact ih.2 ⟨h1,fun hx=>h2 (by omega)⟩
def ind (v u:Int):Int:=if u=v then 1 else 0
theorem sumZ_cons (f:Int × Dm->Int) (z:Int × Dm) (l:List (Int × Dm)):sumZ f (z :: l)=f z+sumZ f l:=by
  unfold sumZ;simp
theorem one_between {v:Int} {p:Int} {d:Dm} {u:Int} (hp:0<=p) (hf:d.Fine) (hl:d.has u=true):sure1 v (p,d)<=p*ind v u/\p*ind v u<=may1 v (p,d):=by
  unfold sure1 may1 ind
  constructor
  · split
    · rename_i h
      have h:d.has v=true/\d.size=1:=by simpa using h
      have ho:d.one=true:=by unfold Dm.one;rw [decide_eq_true_eq];omega
      have e1:=hf.only ho hl;have e2:=hf.only ho h.1;rw [if_pos (by omega)];show p<=p*1;omega
    · split <;> simp [hp]
  · by_cases h:d.has v=true
    · rw [if_pos (show (p,d).2.has v=true from h)]
      show p*_<=p
      split <;> omega
    · rw [if_neg (show ¬ (p,d).2.has v=true from h),if_neg (fun e=>h (by rw [<-e];exact hl))]
      simp
theorem cnt_between (v:Int):∀ (ps:List Int) {D:List Dm} {vs:List Int},(∀ p∈ps,0<=p)->Fines D->Lies D vs->sumZ (sure1 v) (ps.zip D)<=dot ps (vs.map (ind v))/\dot ps (vs.map (ind v))<=sumZ (may1 v) (ps.zip D)
  | [],D,vs,_,_,_=>by simp [sumZ,dot]
  | c :: cs,[],[],_,_,_=>by simp [sumZ,dot]
  | c :: cs, d :: D, u :: vs, hp, hf, hl => by
    rw [List.zip_cons_cons,sumZ_cons,sumZ_cons,List.map_cons];unfold dot;have:=one_between (v:=v) (hp c (by simp)) hf.1 hl.1;have:=cnt_between v cs (fun p h=>hp p (by simp [h])) hf.2 hl.2;omega
  | _ :: _,[],_ :: _,_,_,h=>h.elim
  | _ :: _,_ :: _,[],_,_,h=>h.elim
theorem cnt_at (v:Int):∀ (ps:List Int) {D:List Dm} {vs:List Int} (x:Nat) (z:Int × Dm) (u:Int),(∀ p∈ps,0<=p)->Fines D->Lies D vs->(ps.zip D)[x]?=some z->vs[x]?=some u->sumZ (sure1 v) (ps.zip D)-sure1 v z+z.1*ind v u<=dot ps (vs.map (ind v))/\dot ps (vs.map (ind v))<=sumZ (may1 v) (ps.zip D)-may1 v z+z.1*ind v u
  | [],D,vs,x,z,u,_,_,_,h,_=>by simp at h
  | c :: cs,[],[],x,z,u,_,_,_,h,_=>by simp at h
  | c :: cs, d :: D, w :: vs, 0, z, u, hp, hf, hl, h, hv => by
    simp at h hv;subst h hv;rw [List.zip_cons_cons,sumZ_cons,sumZ_cons,List.map_cons];unfold dot;have:=cnt_between v cs (fun p h=>hp p (by simp [h])) hf.2 hl.2;show sure1 v (c,d)+sumZ (sure1 v) (cs.zip D)-sure1 v (c,d)+c*ind v w<=_/\_<=may1 v (c,d)+sumZ (may1 v) (cs.zip D)-may1 v (c,d)+c*ind v w;omega
  | c :: cs, d :: D, w :: vs, x + 1, z, u, hp, hf, hl, h, hv => by
    rw [List.zip_cons_cons,sumZ_cons,sumZ_cons,List.map_cons];unfold dot;have:=one_between (v:=v) (hp c (by simp)) hf.1 hl.1;have:=cnt_at v cs x z u (fun p h=>hp p (by simp [h])) hf.2 hl.2 (by simpa using h) (by simpa using hv);omega
  | _ :: _,[],_ :: _,_,_,_,_,_,h,_,_=>h.elim
  | _ :: _,_ :: _,[],_,_,_,_,_,h,_,_=>h.elim
theorem csum_nonneg (xs:List Int) (x:Nat):0<=csum (xs.map fun x=>((1:Int),x)) x:=by
  induction xs with
  | nil=>simp [csum]
  | cons y l ih =>
    rw [List.map_cons,csum_cons]
    split <;> omega
theorem plc_nonneg (xs:List Int) (n:Nat):∀ p∈plcL xs n,0<=p:=by
  intro p hp;unfold plcL coefL at hp;obtain ⟨x,_,rfl⟩:=List.mem_map.1 hp;rw [coef_fold];have:=csum_nonneg xs x;omega
theorem cnt_count (xs:List Int) (v:Int) (vs:List Int) (hx:∀ x∈xs,0<=x/\x<(vs.length:Int)):Md.sum (xs.map fun x=>((1:Int),x)) (vs.map (ind v))=((xs.countP fun x=>decide (Md.val vs x=v):Nat):Int):=by
  induction xs with
  | nil=>simp [Md.sum]
  | cons y l ih =>
    rw [List.map_cons,sum_cons,ih (fun x h=>hx x (by simp [h])),List.countP_cons];have hy:=hx y (by simp);have e:Md.val (vs.map (ind v)) y=ind v (Md.val vs y):=by
      unfold Md.val;have hl:y.toNat<vs.length:=by omega
      rw [List.getD_eq_getElem?_getD,List.getD_eq_getElem?_getD,List.getElem?_map,List.getElem?_eq_getElem hl];rfl
    show 1*Md.val (vs.map (ind v)) y+_=_;rw [e];unfold ind
    by_cases h:Md.val vs y=v
    · simp [h];omega
    · simp [h]
theorem plc_dot (xs:List Int) (v:Int) (vs:List Int) (n:Nat) (hn:vs.length=n) (hx:∀ x∈xs,0<=x/\x<(n:Int)):dot (plcL xs n) (vs.map (ind v))=((xs.countP fun x=>decide (Md.val vs x=v):Nat):Int):=by
  unfold plcL
  rw [dot_coef _ _ n (by rw [List.length_map];exact hn) (fun q hq=>by
    obtain ⟨x,h,rfl⟩:=List.mem_map.1 hq
    exact (hx x h).1)]
  exact cnt_count xs v vs (by rw [hn];exact hx)
def ctOk (D:List Dm) (c:Md.Cn):Prop:=(c.op≠3->sumZ (sure1 c.v) ((plcL c.xs D.length).zip D)<=c.k)/\(c.op≠1->c.k<=sumZ (may1 c.v) ((plcL c.xs D.length).zip D))
theorem count_is (D:List Dm) (c:Md.Cn) (Q:List Sq):(¬ ctOk D c->countQ D c Q=none)/\(ctOk D c->∃ Q',countQ D c Q=some Q'/\∀ x u,(qH Q' x u↔qH Q x u/\∀ z,((plcL c.xs D.length).zip D)[x]?=some z->ctC (c.op != 3) (c.op != 1) c.v c.k (sumZ (sure1 c.v) ((plcL c.xs D.length).zip D)) (sumZ (may1 c.v) ((plcL c.xs D.length).zip D)) z u)):=by
  have hok:((c.op != 3)&&decide (c.k<sumZ (sure1 c.v) ((plcL c.xs D.length).zip D))||(c.op != 1)&&decide (sumZ (may1 c.v) ((plcL c.xs D.length).zip D)<c.k))=true↔¬ ctOk D c:=by
    unfold ctOk;simp only [Bool.or_eq_true,Bool.and_eq_true,bne_iff_ne,decide_eq_true_eq]
    constructor
    · rintro (⟨h1,h2⟩ | ⟨h1,h2⟩) ⟨h3,h4⟩
      · have:=h3 h1;omega
      · have:=h4 h1;omega
    · intro h
      by_cases h1:c.op≠3/\c.k<sumZ (sure1 c.v) ((plcL c.xs D.length).zip D)
      · exact .inl h1
      · refine .inr (Classical.byContradiction fun h2=>h ⟨fun h3=>?_,fun h3=>?_⟩)
        · have:¬ c.k<sumZ (sure1 c.v) ((plcL c.xs D.length).zip D):=fun h4=>h1 ⟨h3,h4⟩
          omega
        · have:¬ sumZ (may1 c.v) ((plcL c.xs D.length).zip D)<c.k:=fun h4=>h2 ⟨h3,h4⟩
          omega
  unfold countQ
  constructor
  · intro h
    rw [if_pos (hok.2 h)]
  · intro h
    rw [if_neg (fun h2=>hok.1 h2 h)];refine ⟨_,rfl,fun x u=>?_⟩;rw [ctQ_is]
    constructor
    · rintro ⟨h1,h2⟩
      exact ⟨h1,fun z hz=>h2 (List.getElem?_eq_some_iff.1 hz).1 z hz⟩
    · rintro ⟨h1,h2⟩
      exact ⟨h1,fun _ z hz=>h2 z hz⟩
theorem count_safe (c:Md.Cn) (n:Nat) (ho:1<=c.op/\c.op<=3) (hx:∀ x∈c.xs,0<=x/\x<(n:Int)):Safe (fun D Q=>countQ D c Q) n (fun vs=>Md.ctB c vs=true):=by
  intro D vs Q hn hf hl hc;rw [<-hn] at hx;have hd:=plc_dot c.xs c.v vs D.length hl.len hx;have hb:=cnt_between c.v (plcL c.xs D.length) (plc_nonneg _ _) hf hl;have hc':(c.op≠3->dot (plcL c.xs D.length) (vs.map (ind c.v))<=c.k)/\(c.op≠1->c.k<=dot (plcL c.xs D.length) (vs.map (ind c.v))):=by
    rw [hd];have hc:Md.ctB c vs=true:=hc;unfold Md.ctB Md.cmpB at hc
    split at hc
    · have:=of_decide_eq_true hc
      exact ⟨fun _=>this,fun h=>absurd (by assumption) h⟩
    · split at hc
      · have:=of_decide_eq_true hc
        exact ⟨fun _=>by omega,fun _=>by omega⟩
      · have:=of_decide_eq_true hc
        exact ⟨fun h=>by omega,fun _=>this⟩
  obtain ⟨Q',e,hq⟩:=(count_is D c Q).2 ⟨fun h=>by have:=hc'.1 h;omega,fun h=>by have:=hc'.2 h;omega⟩;refine ⟨Q',e,fun x u hv hq0=>(hq x u).2 ⟨hq0,fun z hz h0 hh=>?_⟩⟩;have hat:=cnt_at c.v (plcL c.xs D.length) x z u (plc_nonneg _ _) hf hl hz hv;have hz1:0<=z.1:=plc_nonneg c.xs D.length z.1 (List.mem_of_getElem? (zip_get hz).2);have em:may1 c.v z=z.1:=by unfold may1;rw [if_pos hh]
  rw [em] at hat
  constructor
  · intro h1 h2
    have:=hc'.2 (by simpa using h1)
    apply Classical.byContradiction
    intro hne;have ei:ind c.v u=0:=by unfold ind;rw [if_neg hne]
    rw [ei] at hat;omega
  · intro h1 h2 h3 hue
    have:=hc'.1 (by simpa using h1);have ei:ind c.v u=1:=by unfold ind;rw [if_pos hue]
    have es:sure1 c.v z=0:=by
      unfold sure1;rw [if_neg];simp;intro _;omega
    rw [ei,es] at hat;omega
theorem cnt_one (v:Int):∀ (ps:List Int) {D:List Dm} {vs:List Int},Fines D->Lies D vs->Ones D->dot ps (vs.map (ind v))<=sumZ (sure1 v) (ps.zip D)/\sumZ (may1 v) (ps.zip D)<=dot ps (vs.map (ind v))
  | [],D,vs,_,_,_=>by simp [sumZ,dot]
  | c :: cs,[],[],_,_,_=>by simp [sumZ,dot]
  | c :: cs, d :: D, u :: vs, hf, hl, ho => by
    rw [List.zip_cons_cons,sumZ_cons,sumZ_cons,List.map_cons];unfold dot;have ih:=cnt_one v cs hf.2 hl.2 (fun x d' h=>ho (x+1) d' (by simpa using h));have h1:=ho 0 d rfl;have hz:=hf.1.sz;have hs:d.size=1:=by
      unfold Dm.one at h1;rw [decide_eq_true_eq] at h1;omega
    have e1:=hf.1.only h1 hl.1;have:sure1 v (c,d)=c*ind v u/\may1 v (c,d)=c*ind v u:=by
      unfold sure1 may1 ind
      by_cases hh:d.has v=true
      · have e2:=hf.1.only h1 hh
        rw [if_pos (by simp [hh,hs]),if_pos hh,if_pos (by omega)];simp
      · rw [if_neg (by simp [hh]),if_neg hh,if_neg (fun e=>hh (by rw [<-e];exact hl.1))]
        simp
    omega
  | _ :: _,[],_ :: _,_,h,_=>h.elim
  | _ :: _,_ :: _,[],_,h,_=>h.elim
theorem count_tells (c:Md.Cn) (n:Nat) (hx:∀ x∈c.xs,0<=x/\x<(n:Int)):Tells (fun D Q=>countQ D c Q) n (fun vs=>Md.ctB c vs=true):=by
  intro D vs Q Q' hn hf hl h1 h hq;rw [<-hn] at hx;have hd:=plc_dot c.xs c.v vs D.length hl.len hx;have hb:=cnt_one c.v (plcL c.xs D.length) hf hl h1;have h:countQ D c Q=some Q':=h;have hok:ctOk D c:=by
    apply Classical.byContradiction
    intro hno;rw [(count_is D c Q).1 hno] at h
    cases h
  unfold ctOk at hok;rw [hd] at hb;show Md.ctB c vs=true;unfold Md.ctB Md.cmpB
  split
  · have:=hok.1 (by omega)
    exact decide_eq_true (by omega)
  · split
    · have:=hok.1 (by omega)
      have:=hok.2 (by omega);exact decide_eq_true (by omega)
    · have:=hok.2 (by omega)
      exact decide_eq_true (by omega)
end Go.Proofs.YtjnckfchgcmmpaaGreatDoor
