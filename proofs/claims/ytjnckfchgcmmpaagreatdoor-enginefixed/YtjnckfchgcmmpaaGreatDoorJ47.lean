import Derived.Test.YtjnckfchgcmmpaaGreatDoorJ05
import Derived.Test.YtjnckfchgcmmpaaGreatDoorJ46
import Derived.Test.YtjnckfchgcmmpaaGreatDoorJ34
import Derived.Test.YtjnckfchgcmmpaaGreatDoorJ39
import Derived.Test.YtjnckfchgcmmpaaGreatDoorJ40
import Derived.Test.YtjnckfchgcmmpaaGreatDoorJ21
import Derived.Test.YtjnckfchgcmmpaaGreatDoorJ42
import Derived.Test.YtjnckfchgcmmpaaGreatDoorJ41
namespace Go.Proofs.YtjnckfchgcmmpaaGreatDoor
open Go.RowKit
set_option maxRecDepth 10000
set_option maxHeartbeats 8000000
def hcG (D:List Dm) (xs:List Int):List Gr:=grL D (plP D.length xs) 32
def dmAt (D:List Dm) (x:Nat):Dm:=D.getD x ⟨0,0,0⟩
def hcZ (D:List Dm) (xs:List Int) (L:List Iv):List Cz:=(hcG D xs).flatMap fun g=>czL (plP D.length xs) g L (dmAt D g.x).all
theorem plP_in {n:Nat} {xs:List Int} {y:Int} (h:y∈plP n xs):0<=y/\y<(n:Int):=by
  have:=(List.mem_filter.1 h).2;unfold isP at this;simp at this;exact this
theorem plP_len (n:Nat) (xs:List Int):(plP n xs).length<=xs.length:=List.length_filter_le _ _
theorem grL_mem {D:List Dm} {P:List Int} {k:Nat} {g:Gr} (h:g∈grL D P k):g.x<k/\0<cntP P g.x/\g=⟨(dmAt D g.x).lo,(dmAt D g.x).hi,g.x,(cntP P g.x:Int)⟩:=by
  induction k with
  | zero=>exact absurd h (by simp [grL])
  | succ k ih =>
    unfold grL at h;rcases List.mem_append.1 h with h | h
    · have:=ih h
      exact ⟨by omega,this.2⟩
    · unfold gr1 at h
      split at h
      · rw [List.mem_singleton.1 h]
        exact ⟨Nat.lt_succ_self _,by assumption,rfl⟩
      · exact absurd h (by simp)
theorem cntP_pos {P:List Int} {x:Nat} (h:0<cntP P x):(x:Int)∈P:=by
  unfold cntP at h;obtain ⟨y,hy,e⟩:=List.countP_pos_iff.1 h;rw [<-of_decide_eq_true e];exact hy
theorem hcG_mem {D:List Dm} {xs:List Int} {g:Gr} (h:g∈hcG D xs):g.x<32/\g.x<D.length/\g.lo=(dmAt D g.x).lo/\g.hi=(dmAt D g.x).hi/\g.n=(cntP (plP D.length xs) g.x:Int)/\0<cntP (plP D.length xs) g.x:=by
  obtain ⟨h1,h2,h3⟩:=grL_mem h;have:=plP_in (cntP_pos h2);refine ⟨h1,by omega,?_,?_,?_,h2⟩
  · exact congrArg Gr.lo h3
  · exact congrArg Gr.hi h3
  · exact congrArg Gr.n h3
theorem dmAt_mem {D:List Dm} {x:Nat} (h:x<D.length):dmAt D x∈D:=by
  unfold dmAt;rw [List.getD_eq_getElem?_getD,List.getElem?_eq_getElem h];exact List.getElem_mem h
theorem hcG_ok {D:List Dm} {xs:List Int} (hD:∀ d∈D,d.Ok) (hl:xs.length<=1000000):∀ g∈hcG D xs,g.Ok:=fun g h=>by
  obtain ⟨h1,h2,h3,h4,h5,h6⟩:=hcG_mem h;have hd:=hD _ (dmAt_mem h2);have a1:=Dm.lo_in hd;have a2:=Dm.hi_in hd;have a3:=cntP_le (plP D.length xs) g.x;have a4:=plP_len D.length xs;refine ⟨?_,?_,?_,?_,h1,?_,?_⟩
  · rw [h3];omega
  · rw [h3];omega
  · rw [h4];omega
  · rw [h4];omega
  · rw [h5];omega
  · rw [h5];omega
theorem hcG_len (D:List Dm) (xs:List Int):(hcG D xs).length<=32:=grL_len _ _ _
theorem flat_lenG {β:Type} (n:Nat) (f:Gr->List β) (h:∀ a,(f a).length<=n):∀ l:List Gr,(l.flatMap f).length<=l.length*n
  | []=>by simp
  | a :: l => by
    rw [List.flatMap_cons,List.length_append,List.length_cons,Nat.add_mul,Nat.one_mul];have:=flat_lenG n f h l;have:=h a;omega
theorem crL_ok {Gs G:List Gr} (hG:∀ g∈G,g.Ok) (hs:∀ g∈Gs,g.Ok) (hl:Gs.length<=32):∀ i∈crL Gs G,i.Ok:=fun i hi=>by
  unfold crL at hi;rw [List.mem_flatMap] at hi;obtain ⟨a,ha,hi⟩:=hi;obtain ⟨g,hg,e⟩:=stL_sub ha;rw [<-e] at hi;exact cfL_ok (hG g hg).l1 (hG g hg).l2 hs hl i hi
theorem crL_len {Gs G:List Gr} (hl:Gs.length<=32) (hg:G.length<=32):(crL Gs G).length<=1024:=by
  unfold crL;refine Nat.le_trans (flat_len 32 _ (fun a=>Nat.le_trans (cfL_len a Gs) hl) _) ?_;exact Nat.mul_le_mul_right 32 (Nat.le_trans (stL_len G) hg)
def HcOut (D:List Dm) (xs:List Int) (w:World) (e:Ending) (w':World):Prop:=∃ Gs,Gs.Perm (hcG D xs)/\Gs.Pairwise (fun a b=>a.hi<=b.hi)/\Below w.heap.size w w' /\
  (((crL Gs (hcG D xs)).any ov=true/\e=.returned (.tuple #[.slice none 0 0,.bool false]))∨((crL Gs (hcG D xs)).any ov=false/\∃ v us,e=.returned (.tuple #[v,.bool true])/\CzAt w' w.heap.size v (hcZ D xs (crL Gs (hcG D xs))) us))
theorem CzAt.src {w:World} {B:Nat} {v:Value} {Z:List Cz} {us:List Value} (h:CzAt w B v Z us) (hu:∀ u∈us,u.oneCell'=true):SrcAt w v Z.length 7 (czs Z us):=by
  have h1:∀ u∈czs Z us,u.oneCell'=true:=by
    intro u hm;unfold czs at hm;rw [List.mem_flatMap] at hm;obtain ⟨⟨z,u'⟩,hz,hm⟩:=hm;have hu':=hu u' (List.of_mem_zip hz).2;simp only [Cz.cells,List.mem_cons,List.not_mem_nil,or_false] at hm
    rcases hm with rfl | rfl | rfl | rfl | rfl | rfl | rfl <;> first | rfl | exact hu'
  have hl:(czs Z us).length=Z.length*7:=h.row.1;rcases h.row.2 with ⟨rfl,hn⟩ | ⟨g,cap,cur,rfl,_,e3,_,_,_,e7⟩
  · exact ⟨none,0,by rw [hn],hl,h1,(fun _=>hn),fun ad ha=>by cases ha⟩
  · refine ⟨_,cap,rfl,hl,h1,(fun hn=>by cases hn),fun ad ha j u hj=>?_⟩
    injection ha with ha;subst ha;rw [add_none,Nat.zero_add,cell_of e3];have hj2:j<Z.length*7:=by
      have:=(List.getElem?_eq_some_iff.1 hj).1;omega
    have:(cur.toList.take (Z.length*7))[j]?=some u:=by rw [e7];exact hj
    rw [List.getElem?_take,if_pos hj2] at this;simpa using this
theorem CzAt.one {w:World} {B:Nat} {v:Value} {Z:List Cz} {us:List Value} (h:CzAt w B v Z us):∀ u∈us,u.oneCell'=true:=fun u hu=>by
  obtain ⟨j,hj,rfl⟩:=List.mem_iff_getElem.1 hu;obtain ⟨a,c,e⟩:=own_slice (h.each j hj (by rw [<-h.len];exact hj));rw [e];rfl
theorem cutsH_any (xa:Option Addr) (xc:Nat) (xs:List Int) (B p:Nat) (nv mv:Value) (s:St) (w:World) (hX:IntsAt w (.slice xa xs.length xc) xs) (hxl:xs.length<=1000000) (hS:StAt B w p nv mv s) (hT:Tz w) (hs:0<w.heap.size) (hF:∀ d∈s.now,d.Fine) (h64:∀ d∈s.now,d.hi-d.lo<64):Calls Tryz.prog 100 #[.slice xa xs.length xc,.pointer (some ⟨p,0,none⟩)] w (HcOut s.now xs w):=by
  have HPl:Hid (Calls Tryz.prog 108 #[.slice xa xs.length xc,.pointer (some ⟨p,0,none⟩)] w (PlOut s.now xs w)):=places_any xa xc xs B p nv mv s w hX hxl hS hT hs;have HVs:Hid (∀ (x:Nat) w',x<s.now.length->Below w.heap.size w w'->Calls Tryz.prog 17 #[.pointer (some ⟨p,0,none⟩),.int .i64 (x:Int)] w' (VsOut (dmAt s.now x).all w')):=fun x w' hx hb=>by
    have:=values_in B p nv mv s x hx w' (hS.below hb) (hT.below hb hs);unfold dmAt;rw [List.getD_eq_getElem?_getD,List.getElem?_eq_getElem hx];exact this
  have HGo:Hid (∀ g∈hcG s.now xs,g.Ok):=hcG_ok hS.good hxl;have HGv:Hid (∀ g∈hcG s.now xs,g.hi-g.lo<64/\g.x<s.now.length/\∀ v∈(dmAt s.now g.x).all,g.lo<=v/\v<=g.hi):=fun g hg=>by
    obtain ⟨_,h2,h3,h4,_⟩:=hcG_mem hg;have hm:=dmAt_mem h2;have hf:=hF _ hm;refine ⟨by rw [h3,h4];exact h64 _ hm,h2,fun v hv=>?_⟩;have:=(hf.all v).1 hv;rw [h3,h4];exact ⟨hf.least v this,hf.most v this⟩
  have HPi:Hid (∀ y∈plP s.now.length xs,0<=y/\y<32):=fun y hy=>by
    have:=plP_in hy;have:=hS.n32;omega
  have HPn:Hid ((plP s.now.length xs).length<=1000000):=Nat.le_trans (plP_len _ _) hxl;have HGl:Hid ((hcG s.now xs).length<=32):=hcG_len _ _;obtain ⟨D,hD⟩:∃ D,s.now=D:=⟨_,rfl⟩;rw [hD] at HPl HVs HGo HGv HPi HPn HGl ⊢;have HOut:Hid (∀ Gs e w',Gs.Perm (hcG D xs)->Gs.Pairwise (fun a b=>a.hi<=b.hi)->Below w.heap.size w w'->(((crL Gs (hcG D xs)).any ov=true/\e=.returned (.tuple #[.slice none 0 0,.bool false]))∨((crL Gs (hcG D xs)).any ov=false/\∃ v us,e=.returned (.tuple #[v,.bool true])/\CzAt w' w.heap.size v (hcZ D xs (crL Gs (hcG D xs))) us))->HcOut D xs w e w'):=fun Gs e w' h1 h2 h3 h4=>⟨Gs,h1,h2,h3,h4⟩
  have HZe:Hid (∀ L,hcZ D xs L=(hcG D xs).flatMap fun g=>czL (plP D.length xs) g L (dmAt D g.x).all):=fun L=>rfl
  unfold PlOut at HPl;rw [show grL D (plP D.length xs) 32=hcG D xs from rfl] at HPl;clear hX hS hT hF h64 hD;obtain ⟨P,hP⟩:∃ P,plP D.length xs=P:=⟨_,rfl⟩;obtain ⟨G,hG⟩:∃ G,hcG D xs=G:=⟨_,rfl⟩;rw [hP] at HPl HPi HPn HZe;rw [hG] at HPl HGo HGv HGl HOut HZe;clear hP hG;go_enter Tryz.func100,Tryz.ntmps100;go_upto_region 2 with (first | (go_at_call 108;refine cA HPl.out ?_;intro e w1 hh;(obtain ⟨pv,gv,h1,h2,h3,h4⟩:=hh);subst h1;(obtain ⟨pa,pc,e1⟩:=own_slice h2);(obtain ⟨ga,gc,e2⟩:=own_slice h3);subst e1;subst e2;(have HO1:Hid _:=h2);(have HO2:Hid _:=h3);(have HB1:Hid _:=h4);clear h2 h3 h4));obtain ⟨V,hV⟩:∃ V,w1.alloc (.cells #[.slice pa P.length pc,.slice ga G.length gc] 147)=V:=⟨_,rfl⟩;have hbV:Below w1.heap.size w1 V:=bAe hV
  have gV:V.heap[w1.heap.size]?=some (.cells #[.slice pa P.length pc,.slice ga G.length gc] 147 (0,0)):=hAe hV;have HgV:Hid (V.heap[w1.heap.size]?=some (.cells #[.slice pa P.length pc,.slice ga G.length gc] 147 (0,0))):=gV;have HO3:Hid (V.ownsRow w.heap.size 160 4 (.slice ga G.length gc) G.length (grs G)):=own_bl HO2.out hbV;have HO4:Hid (V.ownsRow w.heap.size 3 1 (.slice pa P.length pc) P.length (P.map (.int .i64))):=own_bl HO1.out hbV;have HBV:Hid (Below w.heap.size w V):=bl_next HB1.out hbV;try rw [hV]
  have z0:=cell_of gV 0;have z1:=cell_of gV 1;clear hV hbV gV HO1 HO2 HB1 HPl;have HCr:Hid (Calls Tryz.prog 109 #[.agg #[.slice pa P.length pc,.slice ga G.length gc]] V (CrOut G V)):=crowd_any _ w.heap.size ga gc G V HO3.out HGo.out HGl.out;go_upto_region 3 with (first | (go_at_call 109;refine cA HCr.out ?_;intro e w2 hh;(obtain ⟨Gs,lv,h1,h2,h3,h4,h5⟩:=hh);subst h3;(obtain ⟨la,lc,e1⟩:=own_slice h4);subst e1;(have HPe:Hid _:=h1);(have HPa:Hid _:=h2);(have HLo:Hid _:=h4);(have HB2:Hid _:=h5);clear h1 h2 h4 h5));clear z0 z1 HCr;have HGso:Hid (∀ g∈Gs,g.Ok):=fun g hg=>HGo.out g (HPe.out.mem_iff.1 hg)
  have HLok:Hid (∀ i∈crL Gs G,i.Ok):=crL_ok HGo.out HGso.out (by rw [HPe.out.length_eq];exact HGl.out);have hLl:(crL Gs G).length<=1024:=crL_len (by rw [HPe.out.length_eq];exact HGl.out) HGl.out;have HOu2:Hid (∀ e w',Below w.heap.size w w'->(((crL Gs G).any ov=true/\e=.returned (.tuple #[.slice none 0 0,.bool false]))∨((crL Gs G).any ov=false/\∃ v us,e=.returned (.tuple #[v,.bool true])/\CzAt w' w.heap.size v (hcZ D xs (crL Gs G)) us))->HcOut D xs w e w'):=fun e w' h1 h2=>HOut.out Gs e w' HPe.out HPa.out h1 h2
  obtain ⟨L,hL⟩:∃ L,crL Gs G=L:=⟨_,rfl⟩;rw [hL] at HLo HLok hLl HOu2 ⊢;clear hL HOut HPe HPa;have HIv:Hid (IvsAt w2 la L):=by
    obtain ⟨a,c,e,h⟩:=own_ivs HLo.out;injection e with e1 _ _;subst e1;exact h
  have HCo:Hid (Calls Tryz.prog 110 #[.slice la L.length lc,.func (.func 111) #[] #[]] w2 fun e w'=>e=.returned (.bool (L.any ov))/\Below w2.heap.size w2 w'):=contains_any la lc L w2 HIv.out HLok.out (by omega);obtain ⟨r,hr⟩:∃ r,L.any ov=r:=⟨_,rfl⟩;rw [hr] at HOu2 HCo;clear hr;have HBw2:Hid (Below w.heap.size w w2):=bl_next HBV.out HB2.out
  cases r with
  | true =>
    go_wp2_with (go_at_call 110;refine cA HCo.out ?_;rintro e w3 ⟨rfl,hb3⟩);go_ret2;exact HOu2.out _ _ (bl_next HBw2.out hb3) (.inl ⟨by trivial,rfl⟩)
  | false =>
    go_upto_region 5 with (go_at_call 110;refine cA HCo.out ?_;rintro e w3 ⟨rfl,hb3⟩);have HB3:Hid (Below w.heap.size w w3):=bl_next HBw2.out hb3;have HB3V:Hid (Below V.heap.size V w3):=HB2.out.trans (hb3.mono HB2.out.size);have HIv3:Hid (∀ w',Below w3.heap.size w3 w'->IvsAt w' la L):=fun w' hb=>(HIv.out.below hb3).below hb
    have HgV3:Hid (∀ w',Below w3.heap.size w3 w'->w'.heap[w1.heap.size]?=some (.cells #[.slice pa P.length pc,.slice ga G.length gc] 147 (0,0))):=fun w' hb=>((HB3V.out.trans (hb.mono HB3V.out.size)).block _ (hLt HgV.out)).trans HgV.out
    have HP3:Hid (∀ w',Below w3.heap.size w3 w'->IntsAt w' (.slice pa P.length pc) P):=fun w' hb=>own_ints (own_bl HO4.out (HB3V.out.trans (hb.mono HB3V.out.size))) (by unfold maxLen;have:=HPn.out;omega)
    have HG3:Hid (∀ w',Below w3.heap.size w3 w'->∀ k (hk:k<G.length),∃ b off,ga=some ⟨b,off,none⟩/\GrAt w' b (off+k*4) G[k]):=fun w' hb k hk=>by
      obtain ⟨a,c,e,h⟩:=own_grs (own_bl HO3.out (HB3V.out.trans (hb.mono HB3V.out.size)));injection e with e1 _ _;subst e1;obtain ⟨b,off,e2,_,h2⟩:=h k hk;exact ⟨b,off,e2,h2⟩
    have hz:=HgV3.out w3 (Below.refl _ _);have z1:=cell_of hz 1;clear hz hb3 HB2 HIv HgV HO3 HO4 HBV HBw2 HB3V HLo HCo;go_wp2_with fail
    clear z1;go_loopw [8,21] (fun sv iv wr=>∃ (k:Nat) (us:List Value),iv=.int .i64 (k:Int)/\k<=G.length/\Hid (CzAt wr w3.heap.size sv ((G.take k).flatMap fun g=>czL P g L (dmAt D g.x).all) us)/\Hid (Below w3.heap.size w3 wr)) (fun _ iv _=>G.length-(intOf iv).toNat)
    case atStart=>exact ⟨0,[],rfl,Nat.zero_le _,⟨rfl,World.ownsRow_nil _ _ _ _,fun j h1 h2=>absurd h1 (by simp)⟩,Below.refl _ _⟩
    case round=>
    obtain ⟨k,us,rfl,hk,HZ,HBr⟩:=hrel;obtain ⟨oa,oc,rfl⟩:=own_slice HZ.out.row
    by_cases hkn:k<G.length
    case neg=>
      have hke:k=G.length:=by omega
      subst hke;have hkI:¬ (G.length:Int)<(G.length:Int):=by omega
      obtain ⟨Z,hZ⟩:∃ Z,(G.take G.length).flatMap (fun g=>czL P g L (dmAt D g.x).all)=Z:=⟨_,rfl⟩;rw [hZ] at HZ ⊢;have HZ2:Hid (hcZ D xs L=Z):=by show _=_;rw [HZe.out,<-hZ,List.take_length]
      clear hZ;go_wp2_with fail
      go_ret2;refine HOu2.out _ _ (bl_next HB3.out HBr.out) (.inr ⟨by trivial,_,us,rfl,?_⟩);rw [HZ2.out];exact HZ.out.base HB3.out.size
    case pos=>
    have hkI:(k:Int)<(G.length:Int):=by omega
    obtain ⟨b,off,rfl,hgr⟩:=HG3.out wr HBr.out k hkn;have HN:Hid ((G.take (k+1)).flatMap (fun g=>czL P g L (dmAt D g.x).all)=(G.take k).flatMap (fun g=>czL P g L (dmAt D g.x).all)++czL P G[k] L (dmAt D G[k].x).all):=by
      show _=_;rw [List.take_succ_eq_append_getElem hkn,List.flatMap_append];simp
    have hfl:((G.take k).flatMap fun g=>czL P g L (dmAt D g.x).all).length<=32*96:=by
      refine Nat.le_trans (flat_lenG 96 _ (fun g=>Nat.le_trans (czL_len P g L _) (dAll_len _)) _) ?_;exact Nat.mul_le_mul_right 96 (Nat.le_trans (List.length_take_le _ _) (Nat.le_trans hk HGl.out))
    have HGk:=HGo.out _ (List.getElem_mem hkn);have HGw:=HGv.out _ (List.getElem_mem hkn);obtain ⟨g,hgk⟩:∃ g,G[k]=g:=⟨_,rfl⟩;rw [hgk] at hgr HN HGk HGw;clear hgk;obtain ⟨q0,q1,q2,q3⟩:=hgr;have HGk2:Hid g.Ok:=HGk;have HGw2:Hid (g.hi-g.lo<64/\g.x<D.length/\∀ v∈(dmAt D g.x).all,g.lo<=v/\v<=g.hi):=HGw;have HVl:Hid ((dmAt D g.x).all.length<=96):=dAll_len _;have HVx:Hid (∀ w',Below w.heap.size w w'->Calls Tryz.prog 17 #[.pointer (some ⟨p,0,none⟩),.int .i64 (g.x:Int)] w' (VsOut (dmAt D g.x).all w')):=fun w' hb=>HVs.out g.x w' HGw.2.1 hb
    have hcl:(czL P g L (dmAt D g.x).all).length<=96:=Nat.le_trans (czL_len P g L _) (dAll_len _);clear HGk HGw;obtain ⟨vs,hvs⟩:∃ vs,(dmAt D g.x).all=vs:=⟨_,rfl⟩;rw [hvs] at HN HGw2 HVl HVx hcl;clear hvs;obtain ⟨Z,hZ⟩:∃ Z,(G.take k).flatMap (fun g=>czL P g L (dmAt D g.x).all)=Z:=⟨_,rfl⟩;rw [hZ] at HZ HN hfl ⊢;clear hZ;obtain ⟨Z2,hZ2⟩:∃ Z2,czL P g L vs=Z2:=⟨_,rfl⟩;have HZ2:Hid (czL P g L vs=Z2):=hZ2;rw [hZ2] at HN hcl;clear hZ2;obtain ⟨X,hX⟩:∃ X,wr.alloc (.cells #[.int .i64 g.lo,.int .i64 g.hi,.int .i64 (g.x:Int),.int .i64 g.n] 160)=X:=⟨_,rfl⟩;have hbX:Below wr.heap.size wr X:=bAe hX;have gX:X.heap[wr.heap.size]?=some (.cells #[.int .i64 g.lo,.int .i64 g.hi,.int .i64 (g.x:Int),.int .i64 g.n] 160 (0,0)):=hAe hX
    have HgX:Hid (X.heap[wr.heap.size]?=some (.cells #[.int .i64 g.lo,.int .i64 g.hi,.int .i64 (g.x:Int),.int .i64 g.n] 160 (0,0))):=gX;have HBX:Hid (Below w3.heap.size w3 X):=bl_next HBr.out hbX;have HZX:Hid (CzAt X w3.heap.size (.slice oa Z.length oc) Z us):=HZ.out.below hbX;have HHeld:Hid (∀ w',Below X.heap.size X w'->(w'.cell? ⟨w1.heap.size,0,none⟩=some (.slice pa P.length pc)/\w'.cell? ⟨w1.heap.size,1,none⟩=some (.slice (some ⟨b,off,none⟩) G.length gc))/\w'.cell? ⟨wr.heap.size,0,none⟩=some (.int .i64 g.lo)/\w'.cell? ⟨wr.heap.size,1,none⟩=some (.int .i64 g.hi)/\w'.cell? ⟨wr.heap.size,2,none⟩=some (.int .i64 (g.x:Int))/\w'.cell? ⟨wr.heap.size,3,none⟩=some (.int .i64 g.n)):=fun w' hb=>by
      have y0:=HgV3.out w' (bl_next HBX.out hb);have y1:=(hb.block _ (hLt gX)).trans gX;exact ⟨⟨cell_of y0 0,cell_of y0 1⟩,cell_of y1 0,cell_of y1 1,cell_of y1 2,cell_of y1 3⟩
    have HCz:Hid (∀ (va:Option Addr) (vc:Nat) w',Below w3.heap.size w3 w'->IntsAt w' (.slice va vs.length vc) vs->Calls Tryz.prog 112 #[.agg #[.slice pa P.length pc,.slice (some ⟨b,off,none⟩) G.length gc],.agg #[.int .i64 g.lo,.int .i64 g.hi,.int .i64 (g.x:Int),.int .i64 g.n],.slice va vs.length vc,.slice la L.length lc] w' (CzOut Z2 w')):=fun va vc w' hb hi=>by
      have:=cutZ_any pa pc P (.slice (some ⟨b,off,none⟩) G.length gc) g va vc vs la lc L w' (HP3.out w' hb) HPi.out HPn.out HGk2.out HGw2.out.1 hi HGw2.out.2.2 (by have:=HVl.out;omega) (HIv3.out w' hb) HLok.out (by omega);rw [HZ2.out] at this;exact this
    go_upto_region 9 with fail
    try rw [hX]
    clear hX hbX gX q0 q1 q2 q3 HZ;have HBd:Hid (Below X.heap.size X X.drew):=(Below.refl _ _).drew;refine wp_region_T (fun w'=>(w'.cell? ⟨w1.heap.size,0,none⟩=some (.slice pa P.length pc)/\w'.cell? ⟨w1.heap.size,1,none⟩=some (.slice (some ⟨b,off,none⟩) G.length gc))/\w'.cell? ⟨wr.heap.size,0,none⟩=some (.int .i64 g.lo)/\w'.cell? ⟨wr.heap.size,1,none⟩=some (.int .i64 g.hi)/\w'.cell? ⟨wr.heap.size,2,none⟩=some (.int .i64 (g.x:Int))/\w'.cell? ⟨wr.heap.size,3,none⟩=some (.int .i64 g.n)) (fun _=>True) [9,10] (by kernel_rfl) ⟨HHeld.out _ HBd.out,trivial⟩ (fun hHeld=>?_);generalize X.drew=U at HBd hHeld ⊢
    refine tB (i:=0) (oi:=⟨some 25,.move (.tmp 8),_,_,_,_⟩) (v:=?v_ac) ?hy_ac (by assumption) ?rest_ac
    case hy_ac=>(intro w hSw;(try dsimp only at hSw);go_simp;try (with_reducible rfl))
    try simp only [Act.put,q1,q2,q3]
    refine tB (i:=1) (oi:=⟨some 26,.load 147 (.tmp 6),_,_,_,_⟩) (v:=?v_ae) ?hy_ae (by assumption) ?rest_ae
    case hy_ae=>(intro w hSw;(try dsimp only at hSw);go_simp;try (with_reducible rfl))
    try simp only [Act.put,q1,q2,q3]
    refine tB (i:=2) (oi:=⟨some 27,.load 160 (.tmp 10),_,_,_,_⟩) (v:=?v_aa) ?hy_aa (by assumption) ?rest_aa
    case hy_aa=>(intro w hSw;(try dsimp only at hSw);go_simp;try (with_reducible rfl))
    try simp only [Act.put,q1,q2,q3]
    refine tB (i:=3) (oi:=⟨some 28,.move (.tmp 1),_,_,_,_⟩) (v:=?v_af) ?hy_af (by assumption) ?rest_af
    case hy_af=>(intro w hSw;(try dsimp only at hSw);go_simp;try (with_reducible rfl))
    try simp only [Act.put,q1,q2,q3]
    refine tB (i:=4) (oi:=⟨some 29,.fieldAddr 160 (.tmp 10) 1,_,_,_,_⟩) (v:=?v_ab) ?hy_ab (by assumption) ?rest_ab
    case hy_ab=>(intro w hSw;(try dsimp only at hSw);go_simp;try (with_reducible rfl))
    try simp only [Act.put,q1,q2,q3]
    refine tB (i:=5) (oi:=⟨some 30,.load 3 (.tmp 29),_,_,_,_⟩) (v:=?v_ag) ?hy_ag (by assumption) ?rest_ag
    case hy_ag=>(intro w hSw;(try dsimp only at hSw);go_simp;try (with_reducible rfl))
    try simp only [Act.put,q1,q2,q3]
    refine tB (i:=7) (oi:=⟨some 32,.move (.tmp 7),_,_,_,_⟩) (v:=?v_ad) ?hy_ad (by assumption) ?rest_ad
    case hy_ad=>(intro w hSw;(try dsimp only at hSw);go_simp;try (with_reducible rfl))
    try simp only [Act.put,q1,q2,q3]
    refine wpAnyT_one (i:=6) (o:=⟨some 31,.call { callee:=.value (.func 17),args:=#[(.tmp 28),(.tmp 30)],argTypes:=#[32,3] },_,_,_,_⟩) (by kernel_rfl) rfl (fun K hK=>?_);go_simp;refine cA (HVx.out _ (bl_next HB3.out (bl_next HBX.out HBd.out))) ?_;intro e w4 hh;obtain ⟨vv,h1,h2,h3⟩:=hh;subst h1;go_wp2_with fail
    have HB4:Hid (Below X.heap.size X w4):=bl_next HBd.out h3;obtain ⟨va,vc,e1⟩:=own_slice h2;subst e1;have HIn:Hid (IntsAt w4 (.slice va vs.length vc) vs):=own_ints h2 (by unfold maxLen;have:=HVl.out;omega);clear h2 h3 hHeld;have hHeld:=(⟨HHeld.out _ HB4.out,trivial⟩:_/\True);refine hK.out _ _ ⟨hHeld.1,fun _=>trivial⟩ ?_;clear hK K;refine wpAnyT_one (i:=8) (o:=⟨some 33,.call { callee:=.value (.func 112),args:=#[(.tmp 26),(.tmp 27),(.tmp 31),(.tmp 32)],argTypes:=#[147,160,27,149] },_,_,_,_⟩) (by kernel_rfl) rfl (fun K hK=>?_);go_simp;refine cA (HCz.out _ _ _ (bl_next HBX.out HB4.out) HIn.out) ?_;intro e w5 hh;obtain ⟨v5,us5,h1,h2,h3⟩:=hh;subst h1;go_wp2_with fail
    have HB5:Hid (Below X.heap.size X w5):=bl_next HB4.out h3;obtain ⟨va5,vc5,e1⟩:=own_slice h2.row;subst e1;have HZ5:Hid (CzAt w5 w3.heap.size (.slice oa Z.length oc) Z us):=HZX.out.below HB5.out;have HY5:Hid (CzAt w5 w3.heap.size (.slice va5 Z2.length vc5) Z2 us5):=h2.base (Nat.le_trans HBX.out.size HB4.out.size);have HS5:Hid (SrcAt w5 (.slice va5 Z2.length vc5) Z2.length 7 (czs Z2 us5)):=h2.src h2.one;clear h2 h3 hHeld;have hHeld:=(⟨HHeld.out _ HB5.out,trivial⟩:_/\True);refine hK.out _ _ ⟨hHeld.1,fun _=>trivial⟩ ?_;clear hK K;refine wpAnyT_late (i:=9) (o:=⟨some 34,.call { callee:=.builtin .append,args:=#[(.tmp 25),(.tmp 33)],argTypes:=#[43,43] },_,_,_,_⟩) (by kernel_rfl) rfl (by kernel_rfl) (fun K hK=>?_)
    refine op_append_src w5 (.tmp 25) (.tmp 33) 43 60 (.agg #[.int .i64 0,.int .i64 0,.int .i64 0,.int .i64 0,.int .i64 0,.int .i64 0,.slice none 0 0]) 7 72 rfl und33 info44 rfl (by decide) w3.heap.size _ _ Z.length Z2.length (czs Z us) (czs Z2 us5) (by rfl) (by rfl) HZ5.out.row HS5.out (by unfold maxLen;omega) (by omega) (Nat.le_trans HBX.out.size HB5.out.size) (by rfl) ?_;intro v6 w6 q1 q2 q3;have HZ6:Hid (CzAt w6 w3.heap.size v6 ((G.take (k+1)).flatMap fun g=>czL P g L (dmAt D g.x).all) (us++us5)):=by
      show CzAt _ _ _ _ _;rw [HN.out];exact HZ5.out.more HY5.out.len q1 q2 (fun j h1 h2=>HY5.out.each j h1 h2)
    have HB6:Hid (Below w3.heap.size w3 w6):=(bl_next HBX.out HB5.out).grown q2 (Nat.le_trans HBX.out.size HB5.out.size) (fun g hg=>(HZ5.out.row.lt g hg).1);have hk4:=HHeld.out w5 HB5.out;have y0:=HgV3.out w5 (bl_next HBX.out HB5.out);have y1:=(HB5.out.block _ (hLt HgX.out)).trans HgX.out;have hc0:=cell_grown q2 (hLt y0) (own_ty HZ5.out.row y0 (by decide));have hc1:=cell_grown q2 (hLt y1) (own_ty HZ5.out.row y1 (by decide));rw [<-hc0,<-hc0,<-hc1,<-hc1,<-hc1,<-hc1] at hk4;clear q1 q2 q3 hHeld y0 y1 hc0 hc1;refine hK.out _ _ hk4 ?_;have hHeld:=(⟨hk4,trivial⟩:_/\True);clear hK K;try simp only [Act.put,q1,q2,q3]
    refine wpAnyT_late (i:=10) (o:=⟨some 8,.assign (.tmp 34),_,_,_,_⟩) (by kernel_rfl) rfl (by kernel_rfl) (fun K hK=>?_);go_simp;refine hK.out _ _ ?sh_ah ?rest_ah
    case sh_ah=>((try dsimp only);(first | exact hHeld.1 | skip))
    clear hK K;try simp only [Act.put,q1,q2,q3]
    refine wpAnyT_done (by kernel_rfl) ?_ _;have hgl32:G.length<=32:=HGl.out;go_wp2_with fail
    go_roundw
    case rel=>exact ⟨k+1,_,by go_num,hkn,HZ6,HB6⟩
    case measure=>simp [intOf];omega
end Go.Proofs.YtjnckfchgcmmpaaGreatDoor
namespace Go.Proofs.YtjnckfchgcmmpaaGreatDoor
def fof (a:Int) (X:List Gr):Nat->Bool:=fun x=>X.any fun g=>decide (a<=g.lo)&&decide (x=g.x)
def hcnt (a:Int) (X:List Gr):Int:=(X.map fun g=>if a<=g.lo then g.n else 0).sum
theorem fof_snoc (a:Int) (X:List Gr) (g:Gr) (x:Nat):fof a (X++[g]) x=(fof a X x||(decide (a<=g.lo)&&decide (x=g.x))):=by
  unfold fof;rw [List.any_append];simp
theorem cnt_snoc (a:Int) (X:List Gr) (g:Gr):hcnt a (X++[g])=hcnt a X+if a<=g.lo then g.n else 0:=by
  unfold hcnt;rw [List.map_append,List.sum_append];simp
theorem cf1_fof (a:Int) (i:Iv) (g:Gr) (X:List Gr) (h1:i.lo=a) (h2:i.f=fof a X) (h3:i.n=hcnt a X):cf1 a i g=⟨a,g.hi,fof a (X++[g]),hcnt a (X++[g])⟩:=by
  have hf:fof a (X++[g])=fun x=>fof a X x||(decide (a<=g.lo)&&decide (x=g.x)):=funext fun x=>fof_snoc a X g x
  unfold cf1;rw [hf,cnt_snoc]
  by_cases h:a<=g.lo
  · rw [if_pos h,if_pos h]
    unfold Iv.with bWith;dsimp only;rw [h1,h2,h3]
    congr 1
    funext x
    rw [decide_eq_true h,Bool.true_and,Bool.or_comm]
  · rw [if_neg h,if_neg h,h1,h2,h3,decide_eq_false h]
    congr 1
    · funext x
      simp
    · omega
def leG (t:Int) (X:List Gr):List Gr:=X.filter fun g=>decide (g.hi<=t)
def ltG (t:Int) (X:List Gr):List Gr:=X.filter fun g=>decide (g.hi<t)
def ivO (a t:Int) (X:List Gr):Iv:=⟨a,t,fof a (leG t X),hcnt a (leG t X)⟩
def ivC (a t:Int) (X:List Gr):Prop:=hsB (ivO a t X).f (fof a (ltG t X))=false/\(ivO a t X).num<=(ivO a t X).n
structure CfV (a:Int) (X R:List Gr) (S:CfS):Prop where
  lo:S.i.lo=a
  f:S.i.f=fof a X
  n:S.i.n=hcnt a X
  nar:∀ g R',R=g :: R'->S.nar=fof a (ltG g.hi X)
theorem sorted_le {X R:List Gr} {g:Gr} (h:(X++g :: R).Pairwise fun a b=>a.hi<=b.hi) (hn:nxE g R=false):leG g.hi (X++g :: R)=X++[g]/\ltG g.hi (X++g :: R)=ltG g.hi X:=by
  rw [List.pairwise_append] at h;obtain ⟨_,h2,h3⟩:=h;have hX:∀ y∈X,y.hi<=g.hi:=fun y hy=>h3 y hy g (by simp)
  have hR:∀ y∈R,g.hi<y.hi:=by
    rw [List.pairwise_cons] at h2
    cases R with
    | nil=>intro y hy;exact absurd hy (by simp)
    | cons r R =>
      have hr:¬ r.hi=g.hi:=of_decide_eq_false hn;have h1:=h2.1 r (by simp);have h4:=List.pairwise_cons.1 h2.2;intro y hy;rcases List.mem_cons.1 hy with rfl | hy
      · omega
      · have:=h4.1 y hy
        omega
  constructor
  · unfold leG
    rw [List.filter_append,List.filter_cons,if_pos (by simp)];rw [List.filter_eq_self.2 (fun y hy=>by simpa using hX y hy),List.filter_eq_nil_iff.2 (fun y hy=>by have:=hR y hy;simp;omega)]
  · unfold ltG
    have hz:R.filter (fun y=>decide (y.hi<g.hi))=[]:=List.filter_eq_nil_iff.2 (fun y hy=>by have:=hR y hy;simp;omega);rw [List.filter_append,List.filter_cons,if_neg (by simp),hz,List.append_nil]
theorem cfR_mem (a:Int) (Gs:List Gr) (hs:Gs.Pairwise fun a b=>a.hi<=b.hi):∀ (R X:List Gr) (S:CfS),Gs=X++R->CfV a X R S->∀ i,i∈(cfR a S R).out↔(i∈S.out∨∃ g∈R,i=ivO a g.hi Gs/\ivC a g.hi Gs):=by
  intro R
  induction R with
  | nil=>intro X S _ _ i;simp [cfR]
  | cons g R ih =>
    intro X S hG hV i;have e1:=cf1_fof a S.i g X hV.lo hV.f hV.n;have hG2:Gs=(X++[g])++R:=by rw [hG];simp
    have hnar:=hV.nar g R rfl;show i∈(cfR a (cfStep a S g R) R).out↔_
    cases hn:nxE g R with
    | true =>
      have es:cfStep a S g R=⟨cf1 a S.i g,S.nar,S.out⟩:=by unfold cfStep;rw [if_pos hn]
      rw [es];obtain ⟨r,R',rfl⟩:∃ r R',R=r :: R':=by
        cases R with
        | nil=>cases hn
        | cons r R'=>exact ⟨r,R',rfl⟩
      have hr:r.hi=g.hi:=of_decide_eq_true hn;rw [ih (X++[g]) ⟨cf1 a S.i g,S.nar,S.out⟩ hG2 ?_ i]
      · refine or_congr Iff.rfl ?_
        constructor
        · rintro ⟨y,hy,h⟩
          exact ⟨y,List.mem_cons_of_mem _ hy,h⟩
        · rintro ⟨y,hy,h⟩
          rcases List.mem_cons.1 hy with rfl | hy
          · exact ⟨r,by simp,by rw [hr];exact h⟩
          · exact ⟨y,hy,h⟩
      · refine ⟨by rw [e1],by rw [e1],by rw [e1],?_⟩
        intro g' R'' he;injection he with he _;subst he;show S.nar=_;rw [hnar,hr]
        congr 1
        unfold ltG;rw [List.filter_append];simp
    | false =>
      obtain ⟨l1,l2⟩:=sorted_le (by rw [<-hG];exact hs) hn;rw [<-hG] at l1 l2;have ei:cf1 a S.i g=ivO a g.hi Gs:=by rw [e1];unfold ivO;rw [l1]
      have es:cfStep a S g R=⟨ivO a g.hi Gs,(ivO a g.hi Gs).f,if (!hsB (ivO a g.hi Gs).f S.nar&&decide ((ivO a g.hi Gs).num<=(ivO a g.hi Gs).n)) then S.out++[ivO a g.hi Gs] else S.out⟩:=by
        unfold cfStep;rw [hn,ei];rfl
      rw [es];rw [ih (X++[g]) _ hG2 ?_ i]
      · have hc:(!hsB (ivO a g.hi Gs).f S.nar&&decide ((ivO a g.hi Gs).num<=(ivO a g.hi Gs).n))=true↔ivC a g.hi Gs:=by
          unfold ivC;rw [l2,<-hnar];simp
        dsimp only
        by_cases hcc:ivC a g.hi Gs
        · rw [if_pos (hc.2 hcc),List.mem_append,List.mem_singleton]
          constructor
          · rintro ((h | h) | ⟨y,hy,h⟩)
            · exact .inl h
            · exact .inr ⟨g,by simp,h,hcc⟩
            · exact .inr ⟨y,List.mem_cons_of_mem _ hy,h⟩
          · rintro (h | ⟨y,hy,h,h'⟩)
            · exact .inl (.inl h)
            · rcases List.mem_cons.1 hy with rfl | hy
              · exact .inl (.inr h)
              · exact .inr ⟨y,hy,h,h'⟩
        · rw [if_neg (fun h=>hcc (hc.1 h))]
          constructor
          · rintro (h | ⟨y,hy,h⟩)
            · exact .inl h
            · exact .inr ⟨y,List.mem_cons_of_mem _ hy,h⟩
          · rintro (h | ⟨y,hy,h,h'⟩)
            · exact .inl h
            · rcases List.mem_cons.1 hy with rfl | hy
              · exact absurd h' hcc
              · exact .inr ⟨y,hy,h,h'⟩
      · refine ⟨rfl,?_,?_,?_⟩
        · show (ivO a g.hi Gs).f=_
          unfold ivO;rw [l1]
        · show (ivO a g.hi Gs).n=_
          unfold ivO;rw [l1]
        · intro g' R' he
          show (ivO a g.hi Gs).f=_;unfold ivO;rw [l1];dsimp only
          congr 1
          unfold ltG
          symm
          rw [List.filter_eq_self];intro y hy;have hne:¬ g'.hi=g.hi:=by
            subst he;exact of_decide_eq_false hn
          rw [hG,he,List.pairwise_append] at hs;obtain ⟨_,h2,h3⟩:=hs;have h4:=(List.pairwise_cons.1 h2).1 g' (by simp);rcases List.mem_append.1 hy with hy | hy
          · have:=h3 y hy g (by simp)
            simp;omega
          · rw [List.mem_singleton.1 hy]
            simp;omega
theorem cfL_mem {a:Int} {Gs:List Gr} (hs:Gs.Pairwise fun a b=>a.hi<=b.hi) (i:Iv):i∈cfL a Gs↔∃ g∈Gs,i=ivO a g.hi Gs/\ivC a g.hi Gs:=by
  unfold cfL;rw [cfR_mem a Gs hs Gs [] (cf0 a) (by simp) ⟨rfl,rfl,rfl,fun _ _ _=>rfl⟩ i];simp [cf0]
theorem sum_perm {l l':List Int} (h:l.Perm l'):l.sum=l'.sum:=by
  induction h with
  | nil=>rfl
  | cons x _ ih=>simp [ih]
  | swap x y l=>simp;omega
  | trans _ _ h1 h2=>exact h1.trans h2
theorem fof_perm {a:Int} {X Y:List Gr} (h:X.Perm Y):fof a X=fof a Y:=by
  funext x
  unfold fof;rw [Bool.eq_iff_iff,List.any_eq_true,List.any_eq_true]
  constructor
  · rintro ⟨g,hg,h'⟩
    exact ⟨g,h.mem_iff.1 hg,h'⟩
  · rintro ⟨g,hg,h'⟩
    exact ⟨g,h.mem_iff.2 hg,h'⟩
theorem cnt_perm {a:Int} {X Y:List Gr} (h:X.Perm Y):hcnt a X=hcnt a Y:=sum_perm (h.map _)
theorem ivO_perm {a t:Int} {X Y:List Gr} (h:X.Perm Y):ivO a t X=ivO a t Y:=by
  unfold ivO;have:(leG t X).Perm (leG t Y):=h.filter _;rw [fof_perm this,cnt_perm this]
theorem ivC_perm {a t:Int} {X Y:List Gr} (h:X.Perm Y):ivC a t X↔ivC a t Y:=by
  unfold ivC;have:(ltG t X).Perm (ltG t Y):=h.filter _;rw [ivO_perm h,fof_perm this]
theorem compact_sup (l:List Int):∀ x∈l,x∈Lib.compact l:=by
  have key:∀ j (hj:j<l.length),l[j]∈Lib.compact l:=by
    intro j
    induction j with
    | zero =>
      intro hj;unfold Lib.compact Lib.compactUpTo;rw [List.mem_map];refine ⟨0,List.mem_filter.2 ⟨by simpa using hj,by simp [Lib.keeps]⟩,?_⟩;rw [getElem!_pos _ 0 (by simpa using hj)];simp
    | succ j ih =>
      intro hj;have e1:l.toArray[j+1]! = l[j+1]:=by rw [getElem!_pos _ (j+1) (by simpa using hj)];simp
      have e0:l.toArray[j]! = l[j]:=by rw [getElem!_pos _ j (by simpa using (by omega:j<l.length))];simp
      by_cases hk:l[j+1]=l[j]
      · rw [hk]
        exact ih (by omega)
      · unfold Lib.compact Lib.compactUpTo
        rw [List.mem_map];refine ⟨j+1,List.mem_filter.2 ⟨by simpa using hj,?_⟩,e1⟩;unfold Lib.keeps;rw [decide_eq_true_eq]
        right
        rw [e1,Nat.add_sub_cancel,e0];exact hk
  intro x hx;obtain ⟨j,hj,rfl⟩:=List.mem_iff_getElem.1 hx;exact key j hj
theorem stL_mem {G:List Gr} {a:Int}:a∈stL G↔∃ g∈G,g.lo=a:=by
  refine ⟨stL_sub,fun h=>compact_sup _ _ ?_⟩;rw [List.mem_mergeSort,List.mem_map];exact h
theorem crL_mem {Gs G:List Gr} (hp:Gs.Perm G) (hs:Gs.Pairwise fun a b=>a.hi<=b.hi) (i:Iv):i∈crL Gs G↔∃ g0∈G,∃ g1∈G,i=ivO g0.lo g1.hi G/\ivC g0.lo g1.hi G:=by
  unfold crL;rw [List.mem_flatMap]
  constructor
  · rintro ⟨a,ha,hi⟩
    obtain ⟨g0,h0,rfl⟩:=stL_mem.1 ha;obtain ⟨g1,h1,h2,h3⟩:=(cfL_mem hs i).1 hi;rw [ivO_perm hp] at h2;rw [ivC_perm hp] at h3;exact ⟨g0,h0,g1,hp.mem_iff.1 h1,h2,h3⟩
  · rintro ⟨g0,h0,g1,h1,h2,h3⟩
    refine ⟨g0.lo,stL_mem.2 ⟨g0,h0,rfl⟩,(cfL_mem hs i).2 ⟨g1,hp.mem_iff.2 h1,?_,?_⟩⟩
    · rw [ivO_perm hp];exact h2
    · rw [ivC_perm hp];exact h3
def inW (D:List Dm) (a t:Int) (y:Int):Bool:=decide (a<=(dmAt D y.toNat).lo)&&decide ((dmAt D y.toNat).hi<=t)
def wc (D:List Dm) (P:List Int) (a t:Int):Nat:=P.countP (inW D a t)
theorem grL_cnt (D:List Dm) (P:List Int) (a t:Int) (hP:∀ y∈P,0<=y):∀ k,hcnt a (leG t (grL D P k))=(P.countP (fun y=>decide (y<(k:Int))&&inW D a t y):Nat):=by
  intro k
  induction k with
  | zero =>
    have:P.countP (fun y=>decide (y<((0:Nat):Int))&&inW D a t y)=0:=by
      rw [List.countP_eq_zero];intro y hy;have:=hP y hy;simp;omega
    rw [this];rfl
  | succ k ih =>
    have e:grL D P (k+1)=grL D P k++gr1 D P k:=rfl;have hsplit:P.countP (fun y=>decide (y<((k+1:Nat):Int))&&inW D a t y)=P.countP (fun y=>decide (y<(k:Int))&&inW D a t y)+P.countP (fun y=>decide (y=(k:Int))&&inW D a t y):=by
      clear ih e
      induction P with
      | nil=>rfl
      | cons y P ih =>
        have hy:=hP y (by simp);have ih:=ih (fun z hz=>hP z (List.mem_cons_of_mem _ hz));rw [List.countP_cons,List.countP_cons,List.countP_cons,ih]
        by_cases h1:y<(k:Int)
        · have h2:¬ y=(k:Int):=by omega
          have h3:y<((k+1:Nat):Int):=by omega
          simp only [h1,h2,h3,decide_true,decide_false,Bool.true_and,Bool.false_and];simp;omega
        · by_cases h2:y=(k:Int)
          · have h3:y<((k+1:Nat):Int):=by omega
            simp only [h2,decide_true,Bool.true_and];have h4:(k:Int)<((k+1:Nat):Int):=by omega
            have h5:¬ (k:Int)<(k:Int):=by omega
            simp only [h4,h5,decide_true,decide_false,Bool.true_and,Bool.false_and];simp;omega
          · have h3:¬ y<((k+1:Nat):Int):=by omega
            simp only [h1,h2,h3,decide_false,Bool.false_and];simp
    have hone:(P.countP (fun y=>decide (y=(k:Int))&&inW D a t y))=if inW D a t (k:Int) then cntP P k else 0:=by
      unfold cntP
      by_cases h:inW D a t (k:Int)=true
      · rw [if_pos h]
        apply List.countP_congr
        intro y _
        constructor
        · intro h1
          exact ((Bool.and_eq_true _ _).mp h1).1
        · intro h1
          rw [of_decide_eq_true h1];simpa using h
      · rw [if_neg h,List.countP_eq_zero]
        intro y _ h1;obtain ⟨h2,h3⟩:=(Bool.and_eq_true _ _).mp h1;rw [of_decide_eq_true h2] at h3;exact h h3
    rw [hsplit,hone,e];unfold leG at ih ⊢;have hc:hcnt a (List.filter (fun g=>decide (g.hi<=t)) (gr1 D P k))=((if inW D a t (k:Int) then cntP P k else 0:Nat):Int):=by
      unfold gr1 inW hcnt;rw [Int.toNat_natCast]
      by_cases h0:0<cntP P k
      · rw [if_pos h0,List.filter_cons]
        unfold dmAt;generalize D.getD k ⟨0,0,0⟩=d
        by_cases h1:d.hi<=t
        · by_cases h2:a<=d.lo
          · simp [h1,h2]
          · simp [h1,h2]
        · simp [h1]
      · have h00:cntP P k=0:=by omega
        rw [if_neg h0,h00];simp
    have hap:hcnt a (List.filter (fun g=>decide (g.hi<=t)) (grL D P k)++List.filter (fun g=>decide (g.hi<=t)) (gr1 D P k))=hcnt a (List.filter (fun g=>decide (g.hi<=t)) (grL D P k))+hcnt a (List.filter (fun g=>decide (g.hi<=t)) (gr1 D P k)):=by
      unfold hcnt;rw [List.map_append,List.sum_append]
    rw [List.filter_append,hap,ih,hc];omega
theorem hcG_cnt (D:List Dm) (xs:List Int) (a t:Int) (hD:D.length<=32):hcnt a (leG t (hcG D xs))=(wc D (plP D.length xs) a t:Nat):=by
  unfold hcG wc;rw [grL_cnt D _ a t (fun y hy=>(plP_in hy).1) 32]
  congr 1
  apply List.countP_congr
  intro y hy;have:=plP_in hy;have h:y<((32:Nat):Int):=by omega
  rw [decide_eq_true h,Bool.true_and]
theorem hcG_at {D:List Dm} {xs:List Int} {x:Nat} (hD:D.length<=32) (h:(x:Int)∈plP D.length xs):∃ g∈hcG D xs,g.x=x/\g.lo=(dmAt D x).lo/\g.hi=(dmAt D x).hi:=by
  have hx:=plP_in h;have hc:0<cntP (plP D.length xs) x:=by
    unfold cntP;rw [List.countP_pos_iff];exact ⟨_,h,by simp⟩
  have key:∀ k,x<k->∃ g∈grL D (plP D.length xs) k,g.x=x/\g.lo=(dmAt D x).lo/\g.hi=(dmAt D x).hi:=by
    intro k
    induction k with
    | zero=>intro h;omega
    | succ k ih =>
      intro hk;have e:grL D (plP D.length xs) (k+1)=grL D (plP D.length xs) k++gr1 D (plP D.length xs) k:=rfl;rw [e]
      by_cases h1:x<k
      · obtain ⟨g,hg,h⟩:=ih h1
        exact ⟨g,List.mem_append.2 (.inl hg),h⟩
      · have h2:k=x:=by omega
        subst h2;refine ⟨⟨(dmAt D k).lo,(dmAt D k).hi,k,(cntP (plP D.length xs) k:Int)⟩,List.mem_append.2 (.inr ?_),rfl,rfl,rfl⟩;unfold gr1;rw [if_pos hc];exact List.mem_singleton.2 rfl
  exact key 32 (by omega)
theorem hcG_one {D:List Dm} {xs:List Int} {g g':Gr} (h:g∈hcG D xs) (h':g'∈hcG D xs) (e:g.x=g'.x):g.lo=g'.lo/\g.hi=g'.hi:=by
  obtain ⟨_,_,h3,h4,_⟩:=hcG_mem h;obtain ⟨_,_,h3',h4',_⟩:=hcG_mem h';rw [h3,h4,h3',h4',e];exact ⟨rfl,rfl⟩
theorem hsB_iff (f h:Nat->Bool):hsB f h=true↔∀ x,x<32->f x=h x:=by
  unfold hsB;simp only [Bool.and_eq_true,beq_iff_eq]
  constructor
  · rintro ⟨h0,h1,h2,h3⟩ x hx
    have e0:wd f 0=wd h 0:=by omega
    have e1:wd f 1=wd h 1:=by omega
    have e2:wd f 2=wd h 2:=by omega
    have e3:wd f 3=wd h 3:=by omega
    have hq:x=8*(x / 8)+x % 8:=by omega
    have hr:x % 8<8:=by omega
    have hd:x / 8=0∨x / 8=1∨x / 8=2∨x / 8=3:=by omega
    rcases hd with hd | hd | hd | hd <;> rw [hd] at hq <;> rw [hq]
    · exact wd_ext e0 _ hr
    · exact wd_ext e1 _ hr
    · exact wd_ext e2 _ hr
    · exact wd_ext e3 _ hr
  · intro h'
    refine ⟨?_,?_,?_,?_⟩ <;> congr 1 <;> apply wd_congr <;> intro j hj <;> apply h' <;> omega
theorem fof_iff {a:Int} {X:List Gr} {x:Nat}:fof a X x=true↔∃ g∈X,a<=g.lo/\g.x=x:=by
  unfold fof;rw [List.any_eq_true]
  constructor
  · rintro ⟨g,hg,h⟩
    simp at h;exact ⟨g,hg,h.1,h.2.symm⟩
  · rintro ⟨g,hg,h1,h2⟩
    exact ⟨g,hg,by simp [h1,h2]⟩
theorem ivO_f {D:List Dm} {xs:List Int} {a t:Int} {x:Nat} (hD:D.length<=32) (hx:(x:Int)∈plP D.length xs):(ivO a t (hcG D xs)).f x=inW D a t (x:Int):=by
  rw [Bool.eq_iff_iff];unfold ivO;dsimp only;rw [fof_iff];obtain ⟨g0,h0,e0,e1,e2⟩:=hcG_at hD hx;unfold inW leG;rw [Int.toNat_natCast]
  constructor
  · rintro ⟨g,hg,h1,h2⟩
    obtain ⟨hg1,hg2⟩:=List.mem_filter.1 hg;have:=hcG_one hg1 h0 (by rw [h2,e0]);have hg3:=of_decide_eq_true hg2;rw [<-e1,<-e2,<-this.1,<-this.2];simp [h1,hg3]
  · intro h
    simp at h;exact ⟨g0,List.mem_filter.2 ⟨h0,by rw [e2];simpa using h.2⟩,by rw [e1];exact h.1,e0⟩
def OF (D:List Dm) (P:List Int) (a t:Int):Prop:=0<wc D P a t/\t-a+1<(wc D P a t:Int)
theorem wc_pos {D:List Dm} {P:List Int} {a t:Int} (h:0<wc D P a t):∃ y∈P,inW D a t y=true:=List.countP_pos_iff.1 h
theorem same_narrow {D:List Dm} {xs:List Int} {a t:Int} (hD:D.length<=32) (h:hsB (ivO a t (hcG D xs)).f (fof a (ltG t (hcG D xs)))=true):∀ y∈plP D.length xs,inW D a t y=true->(dmAt D y.toNat).hi<t:=by
  intro y hy hin;have hy0:=plP_in hy;obtain ⟨x,rfl⟩:∃ x:Nat,y=(x:Int):=⟨y.toNat,by omega⟩;have h1:=(hsB_iff _ _).1 h x (by omega);rw [ivO_f hD hy,hin] at h1;obtain ⟨g,hg,_,hgx⟩:=fof_iff.1 h1.symm;obtain ⟨hg1,hg2⟩:=List.mem_filter.1 hg;obtain ⟨g0,h0,e0,e1,e2⟩:=hcG_at hD hy;have:=hcG_one hg1 h0 (by rw [hgx,e0]);rw [Int.toNat_natCast,<-e2,<-this.2];exact of_decide_eq_true hg2
theorem min_of {α:Type} (f:α->Int):∀ l:List α,l≠[]->∃ y∈l,∀ z∈l,f y<=f z
  | [],h=>absurd rfl h
  | [y],_=>⟨y,by simp,fun z hz=>by rw [List.mem_singleton.1 hz];exact Int.le_refl _⟩
  | y :: z :: l, _ => by
    obtain ⟨u,hu,h⟩:=min_of f (z :: l) (by simp)
    by_cases hc:f y<=f u
    · refine ⟨y,by simp,fun v hv=>?_⟩
      rcases List.mem_cons.1 hv with rfl | hv
      · exact Int.le_refl _
      · have:=h v hv
        omega
    · refine ⟨u,List.mem_cons_of_mem _ hu,fun v hv=>?_⟩
      rcases List.mem_cons.1 hv with rfl | hv
      · omega
      · exact h v hv
theorem inW_iff {D:List Dm} {a t y:Int}:inW D a t y=true↔a<=(dmAt D y.toNat).lo/\(dmAt D y.toNat).hi<=t:=by
  unfold inW;simp
theorem wc_mono {D:List Dm} {P:List Int} {a t a' t':Int} (h:∀ y∈P,inW D a t y=true->inW D a' t' y=true):wc D P a t<=wc D P a' t':=List.countP_mono_left h
theorem tight {D:List Dm} {P:List Int} {a t:Int} (h:0<wc D P a t):∃ y0∈P,∃ y1∈P,inW D a t y0=true/\inW D a t y1=true/\wc D P a t<=wc D P (dmAt D y0.toNat).lo (dmAt D y1.toNat).hi:=by
  have hne:P.filter (inW D a t)≠[]:=by
    obtain ⟨y,hy,hin⟩:=wc_pos h;intro he;have:=List.mem_filter.2 ⟨hy,hin⟩;rw [he] at this;exact absurd this (by simp)
  obtain ⟨y0,h0,m0⟩:=min_of (fun y=>(dmAt D y.toNat).lo) _ hne;obtain ⟨y1,h1,m1⟩:=min_of (fun y=>-(dmAt D y.toNat).hi) _ hne;obtain ⟨p0,i0⟩:=List.mem_filter.1 h0;obtain ⟨p1,i1⟩:=List.mem_filter.1 h1;refine ⟨y0,p0,y1,p1,i0,i1,wc_mono fun y hy hin=>?_⟩;have hm:=List.mem_filter.2 ⟨hy,hin⟩;have a0:=m0 y hm;have a1:=m1 y hm;exact inW_iff.2 ⟨a0,by omega⟩
def OFb (D:List Dm) (P:List Int) (a t:Int):Bool:=decide (0<wc D P a t)&&decide (t-a+1<(wc D P a t:Int))
theorem OFb_iff {D:List Dm} {P:List Int} {a t:Int}:OFb D P a t=true↔OF D P a t:=by
  unfold OFb OF;simp
theorem ivO_n0 (a t:Int) (X:List Gr):(ivO a t X).n=hcnt a (leG t X):=rfl
theorem ivO_f0 (a t:Int) (X:List Gr) (x:Nat):(ivO a t X).f x=fof a (leG t X) x:=rfl
section
variable {D : List Dm} {xs : List Int} {Gs : List Gr}
theorem ivO_n (hD:D.length<=32) (a t:Int):(ivO a t (hcG D xs)).n=(wc D (plP D.length xs) a t:Int):=by
  rw [ivO_n0];exact hcG_cnt D xs a t hD
theorem crowd_is (hD:D.length<=32) (hp:Gs.Perm (hcG D xs)) (hs:Gs.Pairwise fun a b=>a.hi<=b.hi) {i:Iv} (h:i∈crL Gs (hcG D xs)):∃ a t,i=ivO a t (hcG D xs)/\0<wc D (plP D.length xs) a t/\t-a+1<=(wc D (plP D.length xs) a t:Int):=by
  obtain ⟨g0,h0,g1,h1,hi,hc1,hc2⟩:=(crL_mem hp hs i).1 h;refine ⟨_,_,hi,?_,?_⟩
  · rw [Nat.pos_iff_ne_zero]
    intro hz;have:hsB (ivO g0.lo g1.hi (hcG D xs)).f (fof g0.lo (ltG g1.hi (hcG D xs)))=true:=by
      rw [hsB_iff];intro x hx;have hn:∀ X,(∀ g∈X,g∈hcG D xs/\g.hi<=g1.hi)->fof g0.lo X x=false:=fun X hX=>by
        rw [Bool.eq_false_iff];intro hf;obtain ⟨g,hg,h2,h3⟩:=fof_iff.1 hf;obtain ⟨hm,hle⟩:=hX g hg;obtain ⟨m1,m2,m3,m4,m5,m6⟩:=hcG_mem hm;have hy:=cntP_pos m6;have:0<wc D (plP D.length xs) g0.lo g1.hi:=List.countP_pos_iff.2 ⟨_,hy,inW_iff.2 ⟨by rw [Int.toNat_natCast,<-m3];exact h2,by rw [Int.toNat_natCast,<-m4];exact hle⟩⟩;omega
      have e1:(ivO g0.lo g1.hi (hcG D xs)).f x=false:=by
        rw [ivO_f0];exact hn _ (fun g hg=>⟨(List.mem_filter.1 hg).1,of_decide_eq_true (List.mem_filter.1 hg).2⟩)
      have e2:=hn (ltG g1.hi (hcG D xs)) (fun g hg=>⟨(List.mem_filter.1 hg).1,by have:=of_decide_eq_true (List.mem_filter.1 hg).2;omega⟩);rw [e1,e2]
    rw [this] at hc1
    cases hc1
  · rw [ivO_n hD] at hc2
    exact hc2
theorem place_g (hD:D.length<=32) {y:Int} (hy:y∈plP D.length xs):∃ g∈hcG D xs,g.lo=(dmAt D y.toNat).lo/\g.hi=(dmAt D y.toNat).hi:=by
  have h0:=plP_in hy;obtain ⟨x,rfl⟩:∃ x:Nat,y=(x:Int):=⟨y.toNat,by omega⟩;obtain ⟨g,hg,_,e1,e2⟩:=hcG_at hD hy;rw [Int.toNat_natCast];exact ⟨g,hg,e1,e2⟩
theorem over_in (hD:D.length<=32) (hp:Gs.Perm (hcG D xs)) (hs:Gs.Pairwise fun a b=>a.hi<=b.hi) {a t:Int} (h:OF D (plP D.length xs) a t):∃ i∈crL Gs (hcG D xs),ov i=true:=by
  obtain ⟨y0,p0,y1,p1,t0,t1,t2⟩:=tight h.1;have ho:OF D (plP D.length xs) (dmAt D y0.toNat).lo (dmAt D y1.toNat).hi:=⟨by have:=h.1;omega,by have:=h.2;have:=(inW_iff.1 t0).1;have:=(inW_iff.1 t1).2;omega⟩;obtain ⟨g0,hg0,e0,_⟩:=place_g hD p0;obtain ⟨g1,hg1,_,e1⟩:=place_g hD p1;rw [<-e0,<-e1] at ho;clear t0 t1 t2 e0 e1 p0 p1;have hlist:(hcG D xs).filter (fun g=>OFb D (plP D.length xs) g0.lo g.hi)≠[]:=by
    intro he;have:g1∈(hcG D xs).filter (fun g=>OFb D (plP D.length xs) g0.lo g.hi):=List.mem_filter.2 ⟨hg1,OFb_iff.2 ho⟩;rw [he] at this;exact absurd this (by simp)
  obtain ⟨g2,hm2,hmin⟩:=min_of (fun g=>g.hi) _ hlist;obtain ⟨hg2,ho2⟩:=List.mem_filter.1 hm2;have ho2:=OFb_iff.1 ho2;refine ⟨ivO g0.lo g2.hi (hcG D xs),(crL_mem hp hs _).2 ⟨g0,hg0,g2,hg2,rfl,?_,?_⟩,?_⟩
  · rw [Bool.eq_false_iff]
    intro hsame;have hn:=same_narrow hD hsame;obtain ⟨z0,q0,z1,q1,u0,u1,u2⟩:=tight ho2.1;have hz1:=hn z1 q1 u1;have hw:wc D (plP D.length xs) (dmAt D z0.toNat).lo (dmAt D z1.toNat).hi<=wc D (plP D.length xs) g0.lo (dmAt D z1.toNat).hi:=wc_mono fun y _ hin=>by
      have h1:=inW_iff.1 hin;have h2:=(inW_iff.1 u0).1;exact inW_iff.2 ⟨by omega,h1.2⟩
    obtain ⟨g3,hg3,_,e3⟩:=place_g hD q1;have ho3:OF D (plP D.length xs) g0.lo g3.hi:=by
      rw [e3];exact ⟨by have:=ho2.1;omega,by have:=ho2.2;omega⟩
    have hm3:g3∈(hcG D xs).filter (fun g=>OFb D (plP D.length xs) g0.lo g.hi):=List.mem_filter.2 ⟨hg3,OFb_iff.2 ho3⟩;have:=hmin g3 hm3;omega
  · rw [ivO_n hD]
    have:=ho2.2;show g2.hi-g0.lo+1<=_;omega
  · unfold ov
    rw [decide_eq_true_eq,ivO_n hD];exact ho2.2
theorem over_iff (hD:D.length<=32) (hp:Gs.Perm (hcG D xs)) (hs:Gs.Pairwise fun a b=>a.hi<=b.hi):(crL Gs (hcG D xs)).any ov=true↔∃ a t,OF D (plP D.length xs) a t:=by
  rw [List.any_eq_true]
  constructor
  · rintro ⟨i,hi,ho⟩
    obtain ⟨a,t,rfl,h1,_⟩:=crowd_is hD hp hs hi;refine ⟨a,t,h1,?_⟩;unfold ov at ho;rw [decide_eq_true_eq,ivO_n hD] at ho;exact ho
  · rintro ⟨a,t,h⟩
    exact over_in hD hp hs h
theorem tkL_some {g:Gr} {L:List Iv} {k j r:Nat} (h:tkL g L k j=some r):∃ i∈L,L[r-k]?=some i/\i.f g.x=false/\i.lo<=g.lo+(j:Int)/\g.lo+(j:Int)<=i.hi:=by
  induction L generalizing k with
  | nil=>cases h
  | cons i L ih =>
    unfold tkL at h
    split at h
    · rename_i hc
      injection h with h;subst h;simp at hc;exact ⟨i,by simp,by simp,hc.1,hc.2.1,hc.2.2.1⟩
    · obtain ⟨i',hi',h1,h2⟩:=ih h
      have hr:=(tk_lt h).1;refine ⟨i',List.mem_cons_of_mem _ hi',?_,h2⟩;have:r-k=(r-(k+1))+1:=by omega
      rw [this,List.getElem?_cons_succ];exact h1
theorem cz1_mem {P:List Int} {g:Gr} {L:List Iv} {v:Int} {z:Cz} (hv:g.lo<=v) (h:z∈cz1 P g L v):z.x=g.x/\z.v=v/\∃ i∈L,i.f g.x=false/\i.lo<=v/\v<=i.hi/\z.lo=i.lo/\z.hi=i.hi/\z.xs=P.filter fun x=>i.f x.toNat:=by
  unfold cz1 at h
  split at h
  · exact absurd h (by simp)
  · rename_i k hk
    obtain ⟨i,hi,h1,h2,h3,h4⟩:=tkL_some hk;rw [Nat.sub_zero] at h1;rw [h1] at h;have h:=List.mem_singleton.1 h;subst h;have e:g.lo+((v-g.lo).toNat:Int)=v:=by omega
    rw [e] at h3 h4;exact ⟨rfl,rfl,i,hi,h2,h3,h4,rfl,rfl,rfl⟩
end
theorem width {s:St} (h:Alls s):∀ d∈s.now,d.hi-d.lo<64:=fun d hd=>by
  have hf:=fine_of (h d hd).1 (h d hd).2;obtain ⟨k,hk,e1,_⟩:=(Dm.has_is (h d hd).1 _).1 hf.loIn;obtain ⟨j,hj,e2,_⟩:=(Dm.has_is (h d hd).1 _).1 hf.hiIn;omega
theorem dmAt_get {D:List Dm} {x:Nat} (h:x<D.length):D[x]?=some (dmAt D x):=by
  unfold dmAt;rw [List.getD_eq_getElem?_getD,List.getElem?_eq_getElem h];rfl
theorem dmAt_fine {D:List Dm} (hF:Fines D) {x:Nat} (h:x<D.length):(dmAt D x).Fine:=hF.get x _ (dmAt_get h)
section
variable {D' D : List Dm} {xs : List Int}
end
end Go.Proofs.YtjnckfchgcmmpaaGreatDoor
