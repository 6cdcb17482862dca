import Derived.Test.YtjnckfchgcmmpaaGreatDoorJ05
import Derived.Test.YtjnckfchgcmmpaaGreatDoorJ34
import Derived.Test.YtjnckfchgcmmpaaGreatDoorMdRowI
import Derived.Test.YtjnckfchgcmmpaaGreatDoorMdSum
import Derived.Deep.RegionHeld3
import Derived.BigQuiet
import Derived.Deep.QuietTactic
namespace Go.Proofs.YtjnckfchgcmmpaaGreatDoor
open Go.RowKit
set_option maxRecDepth 10000
set_option maxHeartbeats 8000000
structure Sq where
  lo:Int
  hi:Int
  ts:List (Int->Bool)
def Sv.q (s:Sv):Sq:=⟨s.lo,s.hi,s.ts⟩
def Sq.has (s:Sq) (v:Int):Bool:=s.ts.all (fun t=>t v)&&inB s.lo s.hi v
def keepQ (Q:List Sq) (x:Nat) (a b:Int):List Sq:=match Q[x]? with
  | some s=>Q.set x ⟨max s.lo a,min s.hi b,s.ts⟩
  | none=>Q
def sKeepQ (t:Bool) (Q:List Sq) (x:Nat) (a b:Int):List Sq:=if t then keepQ Q x (-b) (-a) else keepQ Q x a b
def someQ (Q:List Sq) (x:Nat) (t:Int->Bool):List Sq:=match Q[x]? with
  | some s=>Q.set x ⟨s.lo,s.hi,s.ts++[t]⟩
  | none=>Q
theorem keepL_q (S:List Sv) (x:Nat) (a b:Int):(keepL S x a b).map Sv.q=keepQ (S.map Sv.q) x a b:=by
  unfold keepL keepQ;rw [List.getElem?_map]
  cases h:S[x]? with
  | none=>rfl
  | some s=>simp only [Option.map_some,List.map_set];rfl
theorem sKeep_q (t:Bool) (S:List Sv) (x:Nat) (a b:Int):(sKeep t S x a b).map Sv.q=sKeepQ t (S.map Sv.q) x a b:=by
  unfold sKeep sKeepQ
  split <;> exact keepL_q _ _ _ _
theorem someL_q (S:List Sv) (x:Nat) (tv:Value) (t:Int->Bool):(someL S x tv t).map Sv.q=someQ (S.map Sv.q) x t:=by
  unfold someL someQ;rw [List.getElem?_map]
  cases h:S[x]? with
  | none=>rfl
  | some s=>simp only [Option.map_some,List.map_set];rfl
def LfQ (B lp g p:Nat) (nv mv:Value) (s:St) (Q:List Sq) (w:World):Prop:=∃ S,LfAt B lp g p nv mv s S w/\S.map Sv.q=Q
section
variable {B lp g p : Nat} {nv mv : Value} {s : St} {Q : List Sq} {w w' : World}
theorem LfQ.size (h:LfQ B lp g p nv mv s Q w):B<=w.heap.size:=by
  obtain ⟨S,h1,rfl⟩:=h;exact h1.size
theorem LfQ.n32 (h:LfQ B lp g p nv mv s Q w):s.now.length<=32:=by
  obtain ⟨S,h1,rfl⟩:=h;obtain ⟨_,h2⟩:=h1.st;exact h2.n32
theorem LfQ.below (h:LfQ B lp g p nv mv s Q w) (hb:Below w.heap.size w w'):LfQ B lp g p nv mv s Q w':=by
  obtain ⟨S,h1,h2⟩:=h;exact ⟨S,h1.below hb,h2⟩
theorem LfQ.cell0 (h:LfQ B lp g p nv mv s Q w):w.cell? ⟨lp,0,none⟩=some (.pointer (some ⟨p,0,none⟩)):=by
  obtain ⟨S,h1,h2⟩:=h;exact cell_of h1.box 0
theorem LfQ.good (h:LfQ B lp g p nv mv s Q w):∀ d∈s.now,d.Ok:=by
  obtain ⟨S,h1,h2⟩:=h;exact h1.good
theorem LfQ.vars (h:LfQ B lp g p nv mv s Q w) (hb:Below B w w'):Calls Tryz.prog 28 #[.pointer (some ⟨p,0,none⟩)] w' fun e w2=>e=.returned (.int .i64 (s.now.length:Int))/\w2=w':=by
  obtain ⟨S,h1,h2⟩:=h;obtain ⟨Bs,h3⟩:=h1.store hb;exact vars_any Bs p nv mv s w' h3
theorem LfQ.sizes (h:LfQ B lp g p nv mv s Q w) (x:Nat) (hx:x<s.now.length) (hb:Below B w w'):Calls Tryz.prog 166 #[.pointer (some ⟨p,0,none⟩),.int .i64 (x:Int)] w' fun e w2=>e=.returned (.int .i64 s.now[x].size)/\Below w'.heap.size w' w2:=by
  obtain ⟨S,h1,h2⟩:=h;exact h1.sizes x hx hb
theorem LfQ.hass (h:LfQ B lp g p nv mv s Q w) (x:Nat) (hx:x<s.now.length) (v:Int) (hb:Below B w w'):Calls Tryz.prog 29 #[.pointer (some ⟨p,0,none⟩),.int .i64 (x:Int),.int .i64 v] w' fun e w2=>e=.returned (.bool (s.now[x].has v))/\Below w'.heap.size w' w2:=by
  obtain ⟨S,h1,h2⟩:=h;exact h1.hass x hx v hb
theorem LfQ.one (h:LfQ B lp g p nv mv s Q w) (x:Nat) (hx:x<s.now.length):Calls Tryz.prog 153 #[.pointer (some ⟨lp,0,none⟩),.int .i64 (x:Int)] w fun e w'=>e=.returned (.tuple #[.int .i64 (oneV s.now[x]),.bool s.now[x].one])/\Below w.heap.size w w':=by
  obtain ⟨S,h1,h2⟩:=h;exact one_any B lp g p nv mv s S w h1 x hx
theorem LfQ.span (h:LfQ B lp g p nv mv s Q w) (t:Bool) (x:Nat) (hx:x<s.now.length):Calls Tryz.prog 181 #[sdVal lp t,.int .i64 (x:Int)] w fun e w'=>e=.returned (bnVal (spLo t s.now[x]) (spHi t s.now[x]))/\Below w.heap.size w w':=by
  obtain ⟨S,h1,h2⟩:=h;exact span_any B lp g p nv mv s S t w h1 x hx
def KqOut (B lp g p:Nat) (nv mv:Value) (s:St) (Q:List Sq) (w:World) (e:Ending) (w':World):Prop:=e=.returned (.tuple #[])/\LfQ B lp g p nv mv s Q w'/\Kq B w w'
theorem LfQ.keep (h:LfQ B lp g p nv mv s Q w) (x:Nat) (hx:x<s.now.length) (a b:Int):Calls Tryz.prog 160 #[.pointer (some ⟨lp,0,none⟩),.int .i64 (x:Int),bnVal a b] w (KqOut B lp g p nv mv s (keepQ Q x a b) w):=by
  obtain ⟨S,h1,rfl⟩:=h;refine (keep_any B lp g p nv mv s S w h1 x (by rw [h1.len];exact hx) a b).mono ?_;rintro e w' ⟨rfl,h2,h3⟩;exact ⟨rfl,⟨_,h2,keepL_q S x a b⟩,h3⟩
theorem LfQ.sKeep (h:LfQ B lp g p nv mv s Q w) (t:Bool) (x:Nat) (hx:x<s.now.length) (a b:Int) (h1:-9223372036854775807<=a) (h2:a<=9223372036854775807) (h3:-9223372036854775807<=b) (h4:b<=9223372036854775807):Calls Tryz.prog 182 #[sdVal lp t,.int .i64 (x:Int),bnVal a b] w (KqOut B lp g p nv mv s (sKeepQ t Q x a b) w):=by
  obtain ⟨S,h5,rfl⟩:=h;refine (sKeep_any B lp g p nv mv s S t w h5 x (by rw [h5.len];exact hx) a b h1 h2 h3 h4).mono ?_;rintro e w' ⟨rfl,h6,h7⟩;exact ⟨rfl,⟨_,h6,sKeep_q t S x a b⟩,h7⟩
theorem LfQ.some (h:LfQ B lp g p nv mv s Q w) (x:Nat) (hx:x<s.now.length) (fn:Nat) (caps:Array Value) (t:Int->Bool) (hf:TestIs B w (.func (.func fn) #[] caps) t) (hl:∀ q∈Q,q.ts.length<=100000):Calls Tryz.prog 154 #[.pointer (some ⟨lp,0,none⟩),.int .i64 (x:Int),.func (.func fn) #[] caps] w (KqOut B lp g p nv mv s (someQ Q x t) w):=by
  obtain ⟨S,h1,rfl⟩:=h;have hx2:x<S.length:=by rw [h1.len];exact hx
  refine (keepSome_any B lp g p nv mv s S w h1 x hx2 fn caps t hf (hl _ (List.mem_map_of_mem (List.getElem_mem hx2)))).mono ?_;rintro e w' ⟨tv,rfl,h2,h3⟩;exact ⟨rfl,⟨_,h2,someL_q S x tv t⟩,h3⟩
end
def IntsK (B:Nat) (w:World) (v:Value) (l:List Int):Prop:=∀ w',Kq B w w'->IntsAt w' v l
theorem IntsK.kq {B:Nat} {w w':World} {v:Value} {l:List Int} (h:IntsK B w v l) (hk:Kq B w w'):IntsK B w' v l:=fun w2 h2=>h w2 (hk.trans h2)
theorem IntsK.at {B:Nat} {w:World} {v:Value} {l:List Int} (h:IntsK B w v l):IntsAt w v l:=h w (Kq.refl _ _)
def CnK (B:Nat) (w:World) (c:Md.Cn) (vt vx vb vr:Value):Prop:=∀ w',Below B w w'->CnAt w' c vt vx vb vr
theorem CnK.below {B:Nat} {w w':World} {c:Md.Cn} {vt vx vb vr:Value} (h:CnK B w c vt vx vb vr) (hb:Below B w w'):CnK B w' c vt vx vb vr:=fun w2 h2=>h w2 (hb.trans h2)
theorem CnK.at {B:Nat} {w:World} {c:Md.Cn} {vt vx vb vr:Value} (h:CnK B w c vt vx vb vr):CnAt w c vt vx vb vr:=h w (Below.refl _ _)
theorem CnK.xs {B:Nat} {w:World} {c:Md.Cn} {vt vx vb vr:Value} (h:CnK B w c vt vx vb vr):IntsK B w vx c.xs:=fun w2 h2=>(h w2 h2.below).x
def coefL (t:List (Int × Int)) (n:Nat):List Int:=(List.range n).map fun (x:Nat)=>t.foldl (fun (c:Int) (q:Int × Int)=>if q.2=(x:Int) then c+q.1 else c) 0
theorem coefL_len (t:List (Int × Int)) (n:Nat):(coefL t n).length=n:=by unfold coefL;rw [List.length_map,List.length_range]
theorem coefL_get (t:List (Int × Int)) (n x:Nat) (hx:x<(coefL t n).length):(coefL t n)[x]=t.foldl (fun (c:Int) (q:Int × Int)=>if q.2=(x:Int) then c+q.1 else c) 0:=by
  simp only [coefL,List.getElem_map,List.getElem_range]
theorem coefL_nil (n:Nat):coefL [] n=List.replicate n 0:=by
  apply List.ext_getElem
  · rw [coefL_len,List.length_replicate]
  · intro i h1 h2
    rw [coefL_get,List.getElem_replicate];rfl
theorem coefL_next {t:List (Int × Int)} {n k m:Nat} (hk:k<t.length) (hm:t[k].2=(m:Int)) (hm2:m<(coefL (t.take k) n).length):coefL (t.take (k+1)) n=(coefL (t.take k) n).set m ((coefL (t.take k) n)[m]+t[k].1):=by
  apply List.ext_getElem
  · rw [List.length_set,coefL_len,coefL_len]
  · intro i h1 h2
    rw [coefL_get,List.getElem_set,List.take_succ_eq_append_getElem hk,List.foldl_append];simp only [List.foldl_cons,List.foldl_nil]
    by_cases e:m=i
    · subst e
      rw [if_pos rfl,if_pos hm,coefL_get]
    · rw [if_neg e,coefL_get,if_neg (fun h=>e (by omega))]
theorem coefL_bd {t:List (Int × Int)} (ht:∀ q∈t,-1000000<=q.1/\q.1<=1000000) (n x:Nat) (hx:x<(coefL t n).length):-(1000000*(t.length:Int))<=(coefL t n)[x]/\(coefL t n)[x]<=1000000*(t.length:Int):=by
  rw [coefL_get];have key:∀ (l:List (Int × Int)) (c:Int),(∀ q∈l,-1000000<=q.1/\q.1<=1000000)->c-1000000*(l.length:Int)<=l.foldl (fun (c:Int) (q:Int × Int)=>if q.2=(x:Int) then c+q.1 else c) c/\l.foldl (fun (c:Int) (q:Int × Int)=>if q.2=(x:Int) then c+q.1 else c) c<=c+1000000*(l.length:Int):=by
    intro l
    induction l with
    | nil=>intro c _;simp
    | cons q l ih =>
      intro c h;have h1:=h q List.mem_cons_self;have h2:=ih (if q.2=(x:Int) then c+q.1 else c) (fun q hq=>h q (List.mem_cons_of_mem _ hq));simp only [List.foldl_cons,List.length_cons,Int.natCast_add,Int.natCast_one]
      split at h2 <;> rename_i h3
      · rw [if_pos h3];omega
      · rw [if_neg h3];omega
  have:=key t 0 ht;omega
theorem coefL_bdk {t:List (Int × Int)} (ht:∀ q∈t,-1000000<=q.1/\q.1<=1000000) (k n x:Nat) (hl:t.length<=64) (hx:x<(coefL (t.take k) n).length):-64000000<=(coefL (t.take k) n)[x]/\(coefL (t.take k) n)[x]<=64000000:=by
  have h1:=coefL_bd (t:=t.take k) (fun q hq=>ht q (List.mem_of_mem_take hq)) n x hx;have h2:(t.take k).length<=64:=Nat.le_trans (by rw [List.length_take];exact Nat.min_le_right _ _) hl;omega
theorem und28:Tryz.prog.underlying 27=some (.slice 3):=by kernel_rfl
theorem makeN (n:Nat) (hn:n<=1000) (w:World):(Instr.makeSlice 27 (.int .i64 (n:Int)) (.int .i64 (n:Int))).run Tryz.prog w=.ok (.slice (some ⟨w.heap.size,0,none⟩) n n) (w.alloc (.cells (madeCells #[.int .i64 0] n) 3)):=by
  obtain ⟨i,hi,hz,hs,hbb⟩:=info_of info3;have hr:=run_make (P:=Tryz.prog) w 27 3 i (.int .i64 0) und28 hi hz .i64 .i64 (n:Int) (n:Int) (by omega) (by omega) (by rw [hbb];omega) (by omega);rw [hs,Nat.mul_one,Int.toNat_natCast] at hr;exact hr
theorem rowI_made (w:World) (n:Nat) {V:World} (hV:w.alloc (.cells (madeCells #[.int .i64 0] n) 3)=V):RowI V w.heap.size (List.replicate n 0):=by
  subst hV;refine ⟨_,heap_alloc_new w _,fun j hj=>?_⟩;rw [List.length_replicate] at hj;rw [List.getElem_replicate];simp [madeCells,hj,Nat.mod_one]
theorem RowI.kq {B:Nat} {w w':World} {g:Nat} {L:List Int} (h:RowI w g L) (hk:Kq B w w'):RowI w' g L:=by
  obtain ⟨cur,h1,h2⟩:=h;exact ⟨cur,hk.block h1 (by decide) (by decide),h2⟩
def CfOut (B:Nat) (t:List (Int × Int)) (n:Nat) (w:World) (e:Ending) (w':World):Prop:=∃ v,e=.returned v/\IntsK B w' v (coefL t n)/\Below w.heap.size w w'
theorem coefs_any (B lp g p:Nat) (nv mv:Value) (s:St) (Q:List Sq) (w:World) (h:LfQ B lp g p nv mv s Q w) (vt:Value) (t:List (Int × Int)) (ht:TermsAt w vt t) (hl:t.length<=64) (hc:∀ q∈t,-1000000<=q.1/\q.1<=1000000) (hx:∀ q∈t,0<=q.2/\q.2<(s.now.length:Int)):Calls Tryz.prog 149 #[.pointer (some ⟨lp,0,none⟩),vt] w (CfOut B t s.now.length w):=by
  have hn:=h.n32;have c0:=h.cell0;have HV:Hid (Calls Tryz.prog 28 #[.pointer (some ⟨p,0,none⟩)] w fun e w2=>e=.returned (.int .i64 (s.now.length:Int))/\w2=w):=h.vars (Below.refl _ _);obtain ⟨n,hnn⟩:∃ n,s.now.length=n:=⟨_,rfl⟩;rw [hnn] at hn hx HV ⊢;have hmk:=makeN n (by omega);obtain ⟨a,cap,rfl,_,hcell⟩:=ht;obtain ⟨W,hW⟩:∃ W,w.alloc (.cells (madeCells #[.int .i64 0] n) 3)=W:=⟨_,rfl⟩;have hb0:Below w.heap.size w W:=bAe hW;have HR0:Hid (RowI W w.heap.size (coefL (t.take 0) n)):=by
    show RowI _ _ _;rw [List.take_zero,coefL_nil];exact rowI_made w n hW
  have HB0:Hid (Below w.heap.size w W):=hb0;have HT:Hid (∀ (k:Nat) (hk:k<t.length) (w':World),Below w.heap.size w w'->∃ b off,a=some ⟨b,off,none⟩/\w'.cell? ⟨b,off+k*2,none⟩=some (.int .i64 t[k].1)/\w'.cell? ⟨b,off+k*2+1,none⟩=some (.int .i64 t[k].2)):=fun k hk w' hb=>by
    obtain ⟨b,off,rfl,hlt,hc⟩:=hcell (by omega);exact ⟨b,off,rfl,(hb.cell (p:=⟨b,_,none⟩) hlt).trans (hc k hk).1,(hb.cell (p:=⟨b,_,none⟩) hlt).trans (hc k hk).2⟩
  have HC:Hid (∀ q∈t,-1000000<=q.1/\q.1<=1000000):=hc;have HX:Hid (∀ q∈t,0<=q.2/\q.2<(n:Int)):=hx;have HBs:Hid (B<=w.heap.size):=h.size;clear h hcell hc hx hb0 hnn;go_enter Tryz.func149,Tryz.ntmps149;go_wp2_with fail
  refine cA HV.out ?_;rintro e w1 ⟨rfl,hw1⟩;rw [hw1];clear hw1;go_wp2_with fail
  try rw [hW]
  go_loopw [16] (fun iv wr=>∃ (k:Nat),iv=.int .i64 (k:Int)/\k<=t.length/\Hid (RowI wr w.heap.size (coefL (t.take k) n))/\Hid (Below w.heap.size w wr)) (fun iv _=>t.length-(intOf iv).toNat)
  case atStart=>exact ⟨0,rfl,Nat.zero_le _,HR0,HB0⟩
  case round=>
  obtain ⟨k,rfl,hk,HR,HBr⟩:=hrel;clear hmk hW
  by_cases hkn:k<t.length
  · have hkI:(k:Int)<(t.length:Int):=by omega
    obtain ⟨b,off,rfl,f0,f1⟩:=HT.out k hkn wr HBr.out;obtain ⟨hx0,hx1⟩:=HX.out t[k] (List.getElem_mem hkn);obtain ⟨hc0,hc1⟩:=HC.out t[k] (List.getElem_mem hkn);obtain ⟨m,hm⟩:∃ m:Nat,t[k].2=(m:Int):=⟨t[k].2.toNat,by omega⟩;have hmn:m<n:=by omega
    have hmL:m<(coefL (t.take k) n).length:=by rw [coefL_len];exact hmn
    have hnx:=coefL_next hkn hm hmL;obtain ⟨hd0,hd1⟩:=coefL_bdk HC.out k n m hl hmL;obtain ⟨z,hz⟩:∃ z,(coefL (t.take k) n)[m]=z:=⟨_,rfl⟩;rw [hm] at f1;rw [hz] at hnx hd0 hd1;obtain ⟨c,hcc⟩:∃ c,t[k].1=c:=⟨_,rfl⟩;rw [hcc] at f0 hc0 hc1 hnx;have HN:Hid (coefL (t.take (k+1)) n=(coefL (t.take k) n).set m (z+c)):=hnx;have hmI:(m:Int)<(n:Int):=by omega
    obtain ⟨V,hV⟩:∃ V,wr.alloc (.cells #[.int .i64 c,.int .i64 (m:Int)] 53)=V:=⟨_,rfl⟩;have hbV:Below wr.heap.size wr V:=bAe hV;have gV:V.heap[wr.heap.size]?=some (.cells #[.int .i64 c,.int .i64 (m:Int)] 53 (0,0)):=hAe hV;have HRV:Hid (RowI V.drew w.heap.size (coefL (t.take k) n)):=(HR.out.below hbV).below (Below.refl _ _).drew;have HBV:Hid (Below w.heap.size w V.drew):=(HBr.out.trans (hbV.mono HBr.out.size)).drew;have HGV:Hid (V.drew.heap[wr.heap.size]?=some (.cells #[.int .i64 c,.int .i64 (m:Int)] 53 (0,0))):=gV;have d0:V.drew.cell? ⟨wr.heap.size,0,none⟩=some (.int .i64 c):=cell_of gV 0;have d1:V.drew.cell? ⟨wr.heap.size,1,none⟩=some (.int .i64 (m:Int)):=cell_of gV 1;have d2:V.drew.cell? ⟨w.heap.size,m,none⟩=some (.int .i64 z):=by rw [<-hz];exact (HRV.out.cell m hmL).1
    have dz:V.drew.frozen? ⟨w.heap.size,m,none⟩=false:=(HRV.out.cell m hmL).2;have hw0:IntKind.i64.wrap (z+c)=z+c:=wrap_ok (by omega) (by omega);have hne:w.heap.size<wr.heap.size:=Nat.lt_of_lt_of_le HR.out.lt (Nat.le_refl _);have HSt:Hid ((V.drew.setCell ⟨w.heap.size,m,none⟩ (.int .i64 (z+c))).cell? ⟨wr.heap.size,0,none⟩=some (.int .i64 c)/\(V.drew.setCell ⟨w.heap.size,m,none⟩ (.int .i64 (z+c))).cell? ⟨wr.heap.size,1,none⟩=some (.int .i64 (m:Int))):=by
      have g2:=(heap_setCell_other V.drew ⟨w.heap.size,m,none⟩ wr.heap.size (.int .i64 (z+c)) (by show wr.heap.size≠w.heap.size;omega)).trans gV;exact ⟨cell_of g2 0,cell_of g2 1⟩
    clear hnx hz hcc hm hbV gV hx0 hx1;go_wp2_with fail
    try rw [hV]
    clear hV f0 f1;refine wp_region_T (fun w'=>w'.cell? ⟨wr.heap.size,0,none⟩=some (.int .i64 c)/\w'.cell? ⟨wr.heap.size,1,none⟩=some (.int .i64 (m:Int))) (fun w'=>w'.cell? ⟨w.heap.size,m,none⟩=some (.int .i64 z)) [9] (by kernel_rfl) ⟨⟨d0,d1⟩,d2⟩ (fun hHeld=>?_);generalize V.drew=U at HRV HBV HGV d0 d1 d2 dz HSt hHeld ⊢
    refine tB (i:=0) (oi:=⟨some 20,.move (.tmp 5),_,_,_,_⟩) (v:=?v_ab) ?hy_ab (by assumption) ?rest_ab
    case hy_ab=>(intro w hSw;(try dsimp only at hSw);go_simp;try (with_reducible rfl))
    try simp only [Act.put,q1,q2,q3]
    refine tB (i:=1) (oi:=⟨some 21,.fieldAddr 53 (.tmp 7) 1,_,_,_,_⟩) (v:=?v_aj) ?hy_aj (by assumption) ?rest_aj
    case hy_aj=>(intro w hSw;(try dsimp only at hSw);go_simp;try (with_reducible rfl))
    try simp only [Act.put,q1,q2,q3]
    refine tB (i:=2) (oi:=⟨some 22,.load 3 (.tmp 21),_,_,_,_⟩) (v:=?v_ad) ?hy_ad (by assumption) ?rest_ad
    case hy_ad=>(intro w hSw;(try dsimp only at hSw);go_simp;try (with_reducible rfl))
    try simp only [Act.put,q1,q2,q3]
    refine tB (i:=3) (oi:=⟨some 23,.indexAddr 27 (.tmp 20) (.tmp 22),_,_,_,_⟩) (v:=?v_ah) ?hy_ah (by assumption) ?rest_ah
    case hy_ah=>(intro w hSw;(try dsimp only at hSw);go_simp;try (with_reducible rfl))
    try simp only [Act.put,q1,q2,q3]
    refine tA (i:=4) (oi:=⟨some 24,.load 3 (.tmp 23),_,_,_,_⟩) (v:=?v_af) ?hy_af (by assumption) ?rest_af
    case hy_af=>(intro w hSw;(try dsimp only at hSw);go_simp;try (with_reducible rfl))
    try simp only [Act.put,q1,q2,q3]
    refine tB (i:=5) (oi:=⟨some 25,.fieldAddr 53 (.tmp 7) 0,_,_,_,_⟩) (v:=?v_ai) ?hy_ai (by assumption) ?rest_ai
    case hy_ai=>(intro w hSw;(try dsimp only at hSw);go_simp;try (with_reducible rfl))
    try simp only [Act.put,q1,q2,q3]
    refine tB (i:=6) (oi:=⟨some 26,.load 3 (.tmp 25),_,_,_,_⟩) (v:=?v_ag) ?hy_ag (by assumption) ?rest_ag
    case hy_ag=>(intro w hSw;(try dsimp only at hSw);go_simp;try (with_reducible rfl))
    try simp only [Act.put,q1,q2,q3]
    refine tB (i:=7) (oi:=⟨some 27,.binOp .add 3 (.tmp 24) (.tmp 26) 3,_,_,_,_⟩) (v:=?v_ae) ?hy_ae (by assumption) ?rest_ae
    case hy_ae=>(intro w hSw;(try dsimp only at hSw);go_simp;try (with_reducible rfl))
    try simp only [Act.put,q1,q2,q3]
    refine tB (i:=8) (oi:=⟨some 28,.indexAddr 27 (.tmp 20) (.tmp 22),_,_,_,_⟩) (v:=?v_aa) ?hy_aa (by assumption) ?rest_aa
    case hy_aa=>(intro w hSw;(try dsimp only at hSw);go_simp;try (with_reducible rfl))
    try simp only [Act.put,q1,q2,q3]
    refine wpAnyT_late (i:=9) (o:=⟨none,.store 3 (.tmp 28) (.tmp 27),_,_,_,_⟩) (by kernel_rfl) rfl (by kernel_rfl) (fun K hK=>?_);go_simp;refine hK.out _ _ ?sh_ac ?rest_ac
    case sh_ac=>((try dsimp only);exact HSt.out)
    clear hK K;try simp only [Act.put,q1,q2,q3]
    refine wpAnyT_done (by kernel_rfl) ?_ _;have HR2:Hid (RowI (U.setCell ⟨w.heap.size,m,none⟩ (.int .i64 (z+c))) w.heap.size (coefL (t.take (k+1)) n)):=by
      show RowI _ _ _;rw [HN.out];exact HRV.out.set m _
    have HB2:Hid (Below w.heap.size w (U.setCell ⟨w.heap.size,m,none⟩ (.int .i64 (z+c)))):=HBV.out.setCell (Nat.le_refl _) _;go_wp2_with fail
    go_roundw
    case rel=>exact ⟨k+1,by go_num,hkn,HR2,HB2⟩
    case measure=>simp [intOf];omega
  · have hke:k=t.length:=by omega
    subst hke;rw [List.take_length] at HR;have hkI:¬ (t.length:Int)<(t.length:Int):=by omega
    go_wp2_with fail
    go_ret;refine ⟨_,rfl,fun w2 h2=>?_,HBr.out⟩;have h3:=(HR.out.kq h2).ints (c:=n) (by rw [coefL_len];unfold maxLen;omega);rw [coefL_len] at h3;exact h3
def svZ:Sv:=⟨0,0,.slice none 0 0,[]⟩
def svA:Sv:=⟨-9223372036854775807,9223372036854775807,.slice none 0 0,[]⟩
def sqA:Sq:=⟨-9223372036854775807,9223372036854775807,[]⟩
def sS (n k:Nat):List Sv:=(List.range n).map fun j=>if j<k then svA else svZ
theorem sS_len (n k:Nat):(sS n k).length=n:=by unfold sS;rw [List.length_map,List.length_range]
theorem sS_get {n k j:Nat} (h:j<(sS n k).length):(sS n k)[j]=if j<k then svA else svZ:=by
  simp only [sS,List.getElem_map,List.getElem_range]
theorem sS_tv {n k j:Nat} (h:j<(sS n k).length):(sS n k)[j].tv=.slice none 0 0/\(sS n k)[j].ts=[]:=by
  rw [sS_get]
  split <;> exact ⟨rfl,rfl⟩
theorem sS_next {n k:Nat} (h:k<(sS n k).length):(sS n k).set k ⟨-9223372036854775807,9223372036854775807,(sS n k)[k].tv,(sS n k)[k].ts⟩=sS n (k+1):=by
  have e:=sS_tv h;rw [e.1,e.2]
  apply List.ext_getElem
  · rw [List.length_set,sS_len,sS_len]
  · intro j h1 h2
    rw [List.getElem_set]
    split
    · rename_i e;subst e;rw [sS_get h2,if_pos (by omega)];rfl
    · rename_i e
      rw [List.length_set] at h1;rw [sS_get h1,sS_get h2]
      by_cases hj:j<k
      · rw [if_pos hj,if_pos (by omega)]
      · rw [if_neg hj,if_neg (by omega)]
theorem sS_done (n:Nat):(sS n n).map Sv.q=List.replicate n sqA:=by
  apply List.ext_getElem
  · rw [List.length_map,sS_len,List.length_replicate]
  · intro j h1 h2
    rw [List.length_map] at h1;have hj:=h1;rw [sS_len] at hj;rw [List.getElem_map,sS_get h1,List.getElem_replicate,if_pos hj];rfl
theorem made_svs (n:Nat):madeCells #[.int .i64 0,.int .i64 0,.slice none 0 0] (n*3)=(svs (sS n 0)).toArray:=by
  apply Array.ext_getElem?
  intro i
  by_cases hi:i<n*3
  · obtain ⟨j,r,rfl,hr⟩:∃ j r,i=j*3+r/\r<3:=⟨i / 3,i % 3,by omega,by omega⟩
    have hj:j<(sS n 0).length:=by rw [sS_len];omega
    obtain ⟨h0,h1,h2⟩:=svs_get (sS n 0) j hj;have hz:(sS n 0)[j]=svZ:=by rw [sS_get,if_neg (Nat.not_lt_zero _)]
    rw [hz] at h0 h1 h2;have hl:(madeCells #[.int .i64 0,.int .i64 0,.slice none 0 0] (n*3))[j*3+r]?=some ((#[.int .i64 0,.int .i64 0,.slice none 0 0]:Array Value)[(j*3+r) % 3]!):=by
      unfold madeCells;rw [Array.getElem?_map,Array.getElem?_range,if_pos hi];rfl
    rw [hl,List.getElem?_toArray]
    match r,hr with
    | 0,_=>rw [Nat.add_zero,h0,show j*3 % 3=0 by omega];rfl
    | 1,_=>rw [h1,show (j*3+1) % 3=1 by omega];rfl
    | 2,_=>rw [h2,show (j*3+2) % 3=2 by omega];rfl
  · rw [Array.getElem?_eq_none (by rw [size_madeCells];omega),Array.getElem?_eq_none (by rw [List.size_toArray,svs_len,sS_len];omega)]
theorem und97:Tryz.prog.underlying 182=some (.slice 190):=by kernel_rfl
theorem info105:(Tryz.prog.info? 190).map (fun i=>(i.zero,i.size,i.bytes))=some (some (.agg #[.int .i64 0,.int .i64 0,.slice none 0 0]),3,40):=by kernel_rfl
theorem makeV (n:Nat) (hn:n<=1000) (w:World):(Instr.makeSlice 182 (.int .i64 (n:Int)) (.int .i64 (n:Int))).run Tryz.prog w=.ok (.slice (some ⟨w.heap.size,0,none⟩) n n) (w.alloc (.cells (svs (sS n 0)).toArray 190)):=by
  obtain ⟨i,hi,hz,hs,hbb⟩:=info_of info105;have hr:=run_make (P:=Tryz.prog) w 182 190 i _ und97 hi hz .i64 .i64 (n:Int) (n:Int) (by omega) (by omega) (by rw [hbb];omega) (by omega);rw [hs,Int.toNat_natCast] at hr;rw [<-made_svs];exact hr
def AlOut (p:Nat) (nv mv:Value) (s:St) (w:World) (e:Ending) (w':World):Prop:=e=.returned (.pointer (some ⟨w.heap.size+1,0,none⟩))/\LfQ w.heap.size (w.heap.size+1) w.heap.size p nv mv s (List.replicate s.now.length sqA) w'/\Below w.heap.size w w'
theorem all_any (p:Nat) (nv mv:Value) (s:St) (w:World) (hst:∃ Bs,StAt Bs w p nv mv s) (hown:∀ k,Own p nv mv k->k<w.heap.size) (htz:Tz w):Calls Tryz.prog 115 #[.pointer (some ⟨p,0,none⟩)] w (AlOut p nv mv s w):=by
  obtain ⟨Bs,hS⟩:=hst;have hn:=hS.n32;have hp:0<w.heap.size:=Nat.lt_of_le_of_lt (Nat.zero_le p) (hown p (.inl rfl));have HV:Hid (Calls Tryz.prog 28 #[.pointer (some ⟨p,0,none⟩)] w fun e w2=>e=.returned (.int .i64 (s.now.length:Int))/\w2=w):=vars_any Bs p nv mv s w hS;have hmk:=makeV s.now.length (by omega);obtain ⟨W,hW⟩:∃ W,(w.alloc (.cells (svs (sS s.now.length 0)).toArray 190)).alloc (.cells #[.pointer (some ⟨p,0,none⟩),.slice (some ⟨w.heap.size,0,none⟩) s.now.length s.now.length] 184)=W:=⟨_,rfl⟩;have hb0:Below w.heap.size w W:=by rw [<-hW];exact ((Below.refl _ _).alloc (Nat.le_refl _) _).alloc (by simp) _
  have HL0:Hid (LfAt w.heap.size (w.heap.size+1) w.heap.size p nv mv s (sS s.now.length 0) W):=
    { box:=by rw [sS_len,<-hW];exact heap_alloc2_new w _ _
      row:=by rw [<-hW];exact heap_alloc2_old w _ _
      tests:=fun x hx=>⟨[],by rw [(sS_tv hx).1,(sS_tv hx).2];exact World.ownsRow_nil _ _ _ _,by rw [(sS_tv hx).2];exact ⟨rfl,fun i h=>absurd h (Nat.not_lt_zero _)⟩⟩
      apart:=fun x y hx hy _ k hk=>by rw [(sS_tv hx).1] at hk;cases hk
      b0:=hp
      lp1:=Nat.le_succ _
      g1:=Nat.le_refl _
      st:=⟨Bs,hS.keep fun k _ ho=>hb0.block k (hown k ho)⟩
      own:=hown
      len:=sS_len _ _
      tz:=htz.below hb0 hp }
  have HB0:Hid (Below w.heap.size w W):=hb0;have HAn:Hid (∀ w',Calls Tryz.prog 130 #[] w' fun e w2=>e=.returned (.agg #[.int .i64 (-9223372036854775807),.int .i64 9223372036854775807])/\Below w'.heap.size w' w2):=fun w'=>anything_any w'
  obtain ⟨n,hnn⟩:∃ n,s.now.length=n:=⟨_,rfl⟩;have HD:Hid ((sS n n).map Sv.q=List.replicate s.now.length sqA):=by show _=_;rw [hnn];exact sS_done n
  have HOu:Hid (∀ w' S,LfAt w.heap.size (w.heap.size+1) w.heap.size p nv mv s S w'->S.map Sv.q=List.replicate s.now.length sqA->Below w.heap.size w w'->AlOut p nv mv s w (.returned (.pointer (some ⟨w.heap.size+1,0,none⟩))) w'):=fun w' S h1 h2 h3=>⟨rfl,⟨S,h1,h2⟩,h3⟩
  rw [hnn] at hn HV hmk hW HL0;clear hS hown htz hp hb0 hnn;go_enter Tryz.func115,Tryz.ntmps115;go_wp2_with fail
  refine cA HV.out ?_;rintro e w1 ⟨rfl,hw1⟩;rw [hw1];clear hw1;have c1:W.cell? ⟨w.heap.size+1,1,none⟩=some (.slice (some ⟨w.heap.size,0,none⟩) n n):=by
    have:=cell_of HL0.out.box 1;rw [sS_len] at this;exact this
  go_wp2_with fail
  try rw [hW]
  clear hmk hW;go_wp2_with fail
  clear c1;go_loopw [16] (fun iv wr=>∃ (k:Nat),iv=.int .i64 (k:Int)/\k<=n/\Hid (LfAt w.heap.size (w.heap.size+1) w.heap.size p nv mv s (sS n k) wr)/\Hid (Below w.heap.size w wr)) (fun iv _=>n-(intOf iv).toNat)
  case atStart=>exact ⟨0,rfl,Nat.zero_le _,HL0,HB0⟩
  case round=>
  obtain ⟨k,rfl,hk,HL,HBr⟩:=hrel
  by_cases hkn:k<n
  · have hkI:(k:Int)<(n:Int):=by omega
    have hkL:k<(sS n k).length:=by rw [sS_len];exact hkn
    have HC:Hid (∀ w',Below wr.heap.size wr w'->w'.cell? ⟨w.heap.size+1,1,none⟩=some (.slice (some ⟨w.heap.size,0,none⟩) n n)):=fun w' hb=>by
      have:=cell_of (HL.out.below hb).box 1;rw [sS_len] at this;exact this
    have HZ:Hid (∀ w',Below wr.heap.size wr w'->(∀ i,w'.frozen? ⟨w.heap.size,i,none⟩=false)/\w'.cell? ⟨w.heap.size,k*3,none⟩=some (.int .i64 (sS n k)[k].lo)/\w'.cell? ⟨w.heap.size,k*3+1,none⟩=some (.int .i64 (sS n k)[k].hi)):=fun w' hb=>⟨frozen_of (HL.out.below hb).row,((HL.out.below hb).cell k hkL).1,((HL.out.below hb).cell k hkL).2.1⟩
    have HF:Hid (∀ w',Below wr.heap.size wr w'->LfAt w.heap.size (w.heap.size+1) w.heap.size p nv mv s (sS n (k+1)) ((w'.setCell ⟨w.heap.size,k*3,none⟩ (.int .i64 (-9223372036854775807))).setCell ⟨w.heap.size,k*3+1,none⟩ (.int .i64 9223372036854775807))/\Kq w.heap.size w' ((w'.setCell ⟨w.heap.size,k*3,none⟩ (.int .i64 (-9223372036854775807))).setCell ⟨w.heap.size,k*3+1,none⟩ (.int .i64 9223372036854775807))):=fun w' hb=>by
      rw [<-sS_next hkL];exact (HL.out.below hb).put k hkL _ _
    obtain ⟨z0,hz0⟩:∃ z,(sS n k)[k].lo=z:=⟨_,rfl⟩;obtain ⟨z1,hz1⟩:∃ z,(sS n k)[k].hi=z:=⟨_,rfl⟩;rw [hz0,hz1] at HZ;clear hz0 hz1;go_wp2_with fail
    refine wp_region_T (fun _=>True) (fun w'=>w'.cell? ⟨w.heap.size+1,1,none⟩=some (.slice (some ⟨w.heap.size,0,none⟩) n n)) [8] (by kernel_rfl) ⟨trivial,HC.out _ (Below.refl _ _).drew⟩ (fun hHeld=>?_);refine tB (i:=0) (oi:=⟨some 19,.move (.tmp 3),_,_,_,_⟩) (v:=?v_ab) ?hy_ab (by assumption) ?rest_ab
    case hy_ab=>(intro w hSw;(try dsimp only at hSw);go_simp;try (with_reducible rfl))
    try simp only [Act.put,q1,q2,q3]
    refine tB (i:=1) (oi:=⟨some 20,.nilCheck (.tmp 19),_,_,_,_⟩) (v:=?v_ah) ?hy_ah (by assumption) ?rest_ah
    case hy_ah=>(intro w hSw;(try dsimp only at hSw);go_simp;try (with_reducible rfl))
    try simp only [Act.put,q1,q2,q3]
    refine tB (i:=2) (oi:=⟨some 21,.fieldAddr 184 (.tmp 20) 1,_,_,_,_⟩) (v:=?v_ac) ?hy_ac (by assumption) ?rest_ac
    case hy_ac=>(intro w hSw;(try dsimp only at hSw);go_simp;try (with_reducible rfl))
    try simp only [Act.put,q1,q2,q3]
    refine tA (i:=3) (oi:=⟨some 22,.load 182 (.tmp 21),_,_,_,_⟩) (v:=?v_ag) ?hy_ag (by assumption) ?rest_ag
    case hy_ag=>(intro w hSw;(try dsimp only at hSw);go_simp;try (with_reducible rfl))
    try simp only [Act.put,q1,q2,q3]
    refine tB (i:=4) (oi:=⟨some 23,.move (.tmp 4),_,_,_,_⟩) (v:=?v_ae) ?hy_ae (by assumption) ?rest_ae
    case hy_ae=>(intro w hSw;(try dsimp only at hSw);go_simp;try (with_reducible rfl))
    try simp only [Act.put,q1,q2,q3]
    refine wpAnyT_one (i:=5) (o:=⟨some 24,.call { callee:=.value (.func 130),args:=#[],argTypes:=#[] },_,_,_,_⟩) (by kernel_rfl) rfl (fun K hK=>?_);go_simp;refine cA (HAn.out _) ?_;rintro e w2 ⟨rfl,hb2⟩;go_wp2_with fail
    have hb3:Below wr.heap.size wr w2:=(Below.refl _ _).drew.trans hb2;have HB3:Hid (Below wr.heap.size wr w2):=hb3;obtain ⟨dz,d0,d1⟩:=HZ.out _ hb3;clear hHeld;have hHeld:True/\_:=⟨trivial,HC.out _ hb3⟩;clear hb2 hb3;refine hK.out _ _ ⟨trivial,fun _=>hHeld.2⟩ ?_;clear hK K;refine tB (i:=6) (oi:=⟨some 25,.indexAddr 182 (.tmp 22) (.tmp 23),_,_,_,_⟩) (v:=?v_af) ?hy_af (by assumption) ?rest_af
    case hy_af=>(intro w hSw;(try dsimp only at hSw);go_simp;try (with_reducible rfl))
    try simp only [Act.put,q1,q2,q3]
    refine tB (i:=7) (oi:=⟨some 26,.fieldAddr 190 (.tmp 25) 0,_,_,_,_⟩) (v:=?v_ad) ?hy_ad (by assumption) ?rest_ad
    case hy_ad=>(intro w hSw;(try dsimp only at hSw);go_simp;try (with_reducible rfl))
    try simp only [Act.put,q1,q2,q3]
    refine wpAnyT_late (i:=8) (o:=⟨none,.store 186 (.tmp 26) (.tmp 24),_,_,_,_⟩) (by kernel_rfl) rfl (by kernel_rfl) (fun K hK=>?_);go_simp;refine hK.out _ _ ?sh_aa ?rest_aa
    case sh_aa=>((try dsimp only);all_goals trivial)
    clear hK K;try simp only [Act.put,q1,q2,q3]
    refine wpAnyT_done (by kernel_rfl) ?_ _;go_wp2_with fail
    go_roundw
    case rel=>
      have hf:=HF.out _ HB3.out;exact ⟨k+1,by go_num,hkn,hf.1,(HBr.out.trans (HB3.out.mono HBr.out.size)).trans hf.2.below⟩
    case measure=>simp [intOf];omega
  · have hke:k=n:=by omega
    subst hke;have hkI:¬ (k:Int)<(k:Int):=by omega
    go_wp2_with fail
    go_ret;exact HOu.out _ _ HL.out HD.out HBr.out
def lst (t:Bool) (z:Int × Dm):Int:=min (z.1*spLo t z.2) (z.1*spHi t z.2)
def leastZ (t:Bool) (l:List (Int × Dm)):Int:=(l.map (lst t)).sum
theorem leastZ_next (t:Bool) (l:List (Int × Dm)) (k:Nat) (hk:k<l.length):leastZ t (l.take (k+1))=leastZ t (l.take k)+lst t l[k]:=by
  unfold leastZ;rw [List.take_succ_eq_append_getElem hk,List.map_append,List.sum_append];simp
theorem mul_bd2 {c v:Int} (h1:-64000000<=c) (h2:c<=64000000) (h3:-2000000000<=v) (h4:v<=2000000000):-128000000000000000<=c*v/\c*v<=128000000000000000:=by
  have e:(c*v).natAbs<=64000000*2000000000:=by
    rw [Int.natAbs_mul];exact Nat.mul_le_mul (by omega) (by omega)
  omega
theorem lst_bd (t:Bool) {z:Int × Dm} (h1:-64000000<=z.1) (h2:z.1<=64000000) (hd:z.2.Ok):-128000000000000000<=lst t z/\lst t z<=128000000000000000:=by
  obtain ⟨s1,s2,s3,s4⟩:=sp_in t hd;have a:=mul_bd2 h1 h2 s1 s2;have b:=mul_bd2 h1 h2 s3 s4;unfold lst;omega
theorem leastZ_bd (t:Bool) (l:List (Int × Dm)) (h:∀ z∈l,-64000000<=z.1/\z.1<=64000000/\z.2.Ok):-(128000000000000000*(l.length:Int))<=leastZ t l/\leastZ t l<=128000000000000000*(l.length:Int):=by
  induction l with
  | nil=>simp [leastZ]
  | cons z l ih =>
    obtain ⟨h1,h2,h3⟩:=h z List.mem_cons_self;have:=lst_bd t h1 h2 h3;have:=ih (fun z hz=>h z (List.mem_cons_of_mem _ hz));have e:leastZ t (z :: l)=lst t z+leastZ t l:=by simp [leastZ]
    rw [e,List.length_cons];omega
theorem leastZ_bdk (t:Bool) (l:List (Int × Dm)) (k:Nat) (h:∀ z∈l,-64000000<=z.1/\z.1<=64000000/\z.2.Ok) (hl:l.length<=32):-4096000000000000000<=leastZ t (l.take k)/\leastZ t (l.take k)<=4096000000000000000:=by
  have h1:=leastZ_bd t (l.take k) (fun z hz=>h z (List.mem_of_mem_take hz));have h2:(l.take k).length<=32:=Nat.le_trans (by rw [List.length_take];exact Nat.min_le_right _ _) hl;omega
theorem wrap_64 {a:Int} (h1:-9000000000000000000<=a) (h2:a<=9000000000000000000):wrap64 a=a:=by unfold wrap64;omega
theorem least_any (B lp g p:Nat) (nv mv:Value) (s:St) (Q:List Sq) (t:Bool) (w:World) (h:LfQ B lp g p nv mv s Q w) (v:Value) (cs:List Int) (hv:IntsAt w v cs) (hcs:cs.length=s.now.length) (hc:∀ c∈cs,-64000000<=c/\c<=64000000):Calls Tryz.prog 161 #[sdVal lp t,v] w fun e w'=>e=.returned (.int .i64 (leastZ t (cs.zip s.now)))/\Below w.heap.size w w':=by
  obtain ⟨a,cap,rfl,_,hcell⟩:=hv;have hn:=h.n32;have hgood:=h.good;obtain ⟨W,hW⟩:∃ W,w.alloc (.cells #[.pointer (some ⟨lp,0,none⟩),.bool t] 198)=W:=⟨_,rfl⟩;have hb0:Below w.heap.size w W:=bAe hW;have g0:W.heap[w.heap.size]?=some (.cells #[.pointer (some ⟨lp,0,none⟩),.bool t] 198 (0,0)):=hAe hW;have hlt0:=(hLt g0);obtain ⟨zs,hzs⟩:∃ zs,cs.zip s.now=zs:=⟨_,rfl⟩;have hzl:zs.length=cs.length:=by rw [<-hzs,List.length_zip];omega
  have hz1:∀ k (hk:k<zs.length),∃ (h1:k<cs.length) (h2:k<s.now.length),zs[k]=(cs[k],s.now[k]):=fun k hk=>by
    subst hzs;rw [List.length_zip] at hk;exact ⟨by omega,by omega,by rw [List.getElem_zip]⟩
  have HZ:Hid (∀ z∈zs,-64000000<=z.1/\z.1<=64000000/\z.2.Ok):=fun z hz=>by
    obtain ⟨k,hk,rfl⟩:=List.getElem_of_mem hz;obtain ⟨h1,h2,e⟩:=hz1 k hk;rw [e];exact ⟨(hc _ (List.getElem_mem h1)).1,(hc _ (List.getElem_mem h1)).2,hgood _ (List.getElem_mem h2)⟩
  have HS:Hid (∀ k (hk:k<zs.length) w',Below W.heap.size W w'->Calls Tryz.prog 181 #[.agg #[.pointer (some ⟨lp,0,none⟩),.bool t],.int .i64 (k:Int)] w' fun e w2=>e=.returned (.agg #[.int .i64 (spLo t zs[k].2),.int .i64 (spHi t zs[k].2)])/\Below w'.heap.size w' w2):=fun k hk w' hb=>by
    obtain ⟨h1,h2,e⟩:=hz1 k hk;have:=((h.below hb0).below hb).span t k h2;rw [e];exact this
  have HV:Hid (∀ k (hk:k<zs.length) w',Below W.heap.size W w'->∃ b off,a=some ⟨b,off,none⟩/\w'.cell? ⟨b,off+k,none⟩=some (.int .i64 zs[k].1)):=fun k hk w' hb=>by
    obtain ⟨h1,h2,e⟩:=hz1 k hk;obtain ⟨b,off,rfl,hlt,hcl⟩:=hcell (by omega);refine ⟨b,off,rfl,?_⟩;rw [e];exact ((hb0.trans (hb.mono hb0.size)).cell (p:=⟨b,_,none⟩) hlt).trans (hcl k h1)
  have HC:Hid (∀ w',Below W.heap.size W w'->w'.cell? ⟨w.heap.size,0,none⟩=some (.pointer (some ⟨lp,0,none⟩))/\w'.cell? ⟨w.heap.size,1,none⟩=some (.bool t)):=fun w' hb=>⟨cell_of ((hb.block _ hlt0).trans g0) 0,cell_of ((hb.block _ hlt0).trans g0) 1⟩
  have HB:Hid (Below w.heap.size w W):=hb0;have hz32:zs.length<=32:=by omega
  rw [hzs];have hcl:cs.length=zs.length:=hzl.symm;rw [hcl];clear h hcell hgood hb0 g0 hlt0 hz1 hzs hzl hcs hc hn hcl;unfold sdVal;go_enter Tryz.func161,Tryz.ntmps161;go_wp2_with fail
  go_loopw [5,11] (fun sv iv wr=>∃ (k:Nat),iv=.int .i64 (k:Int)/\sv=.int .i64 (leastZ t (zs.take k))/\k<=zs.length/\Hid (Below W.heap.size W wr)) (fun _ iv _=>zs.length-(intOf iv).toNat)
  case atStart=>exact ⟨0,rfl,rfl,Nat.zero_le _,Below.refl _ _⟩
  case round=>
  obtain ⟨k,rfl,rfl,hk,HBr⟩:=hrel;clear hW
  by_cases hkn:k<zs.length
  · have hkI:(k:Int)<(zs.length:Int):=by omega
    obtain ⟨b,off,rfl,f0⟩:=HV.out k hkn wr HBr.out;obtain ⟨x0,x1⟩:=HC.out wr HBr.out;have HSk:=HS.out k hkn wr HBr.out;have hnx:=leastZ_next t zs k hkn;obtain ⟨z1,z2,z3⟩:=HZ.out zs[k] (List.getElem_mem hkn);obtain ⟨s1,s2,s3,s4⟩:=sp_in t z3;have m1:=mul_bd2 z1 z2 s1 s2;have m2:=mul_bd2 z1 z2 s3 s4;have hacc:=leastZ_bdk t zs k HZ.out hz32;unfold lst at hnx;obtain ⟨c,hcc⟩:∃ c,zs[k].1=c:=⟨_,rfl⟩;obtain ⟨u,hu⟩:∃ c,spLo t zs[k].2=c:=⟨_,rfl⟩;obtain ⟨q,hq⟩:∃ c,spHi t zs[k].2=c:=⟨_,rfl⟩;obtain ⟨acc,ha⟩:∃ c,leastZ t (zs.take k)=c:=⟨_,rfl⟩;rw [hcc] at f0 m1 m2 hnx;rw [hu] at HSk m1 hnx;rw [hq] at HSk m2 hnx;rw [ha] at hnx hacc;rw [ha];have HN:Hid (leastZ t (zs.take (k+1))=acc+min (c*u) (c*q)):=hnx
    have HSk':Hid (Calls Tryz.prog 181 #[.agg #[.pointer (some ⟨lp,0,none⟩),.bool t],.int .i64 (k:Int)] wr fun e w2=>e=.returned (.agg #[.int .i64 u,.int .i64 q])/\Below wr.heap.size wr w2):=HSk;have e1:wrap64 (c*u)=c*u:=wrap_64 (by omega) (by omega);have e2:wrap64 (c*q)=c*q:=wrap_64 (by omega) (by omega);have e3:wrap64 (acc+min (c*u) (c*q))=acc+min (c*u) (c*q):=wrap_64 (by omega) (by omega);clear hnx HSk hcc hu hq ha z1 z2 z3 s1 s2 s3 s4 m1 m2 hacc;go_wp2_with fail
    refine cA HSk'.out ?_;rintro e w2 ⟨rfl,hb2⟩;have HB2:Hid (Below W.heap.size W (w2.alloc (.cells #[.int .i64 u,.int .i64 q] 186))):=bl_alloc (bl_next HBr.out hb2) _;clear hb2;go_wp2_with fail
    go_roundw
    case rel=>exact ⟨k+1,by go_num,by rw [HN.out,e3],hkn,HB2⟩
    case measure=>simp [intOf];omega
  · have hke:k=zs.length:=by omega
    subst hke;rw [List.take_length];have hkI:¬ (zs.length:Int)<(zs.length:Int):=by omega
    go_wp2_with fail
    go_ret;exact ⟨rfl,HB.out.trans (HBr.out.mono HB.out.size)⟩
def clampK (k:Int):Int:=min (max k (-128000000000000000)) 128000000000000000
def turnK (t:Bool) (k:Int):Int:=if t then -(clampK k) else clampK k
def spareL (t:Bool) (zs:List (Int × Dm)) (k:Int):Int:=turnK t k-leastZ t zs
def amStep (t:Bool) (sp:Int) (Q:List Sq) (x:Nat) (z:Int × Dm):List Sq:=
  if 0<z.1 then sKeepQ t Q x (-9223372036854775807) (spLo t z.2+sp / z.1) else if z.1<0 then sKeepQ t Q x (spHi t z.2-sp / (-z.1)) 9223372036854775807 else Q
def amQ (t:Bool) (sp:Int) (zs:List (Int × Dm)) (Q:List Sq):Nat->List Sq
  | 0=>Q
  | k + 1 => match zs[k]? with
    | some z=>amStep t sp (amQ t sp zs Q k) k z
    | none=>amQ t sp zs Q k
theorem amQ_next (t:Bool) (sp:Int) (zs:List (Int × Dm)) (Q:List Sq) (k:Nat) (hk:k<zs.length):amQ t sp zs Q (k+1)=amStep t sp (amQ t sp zs Q k) k zs[k]:=by
  show (match zs[k]? with | some z=>amStep t sp (amQ t sp zs Q k) k z | none=>amQ t sp zs Q k)=_;rw [List.getElem?_eq_getElem hk]
def atMostQ (t:Bool) (D:List Dm) (cs:List Int) (k:Int) (Q:List Sq):Option (List Sq):=
  if spareL t (cs.zip D) k<0 then none else some (amQ t (spareL t (cs.zip D) k) (cs.zip D) Q (cs.zip D).length)
theorem clampK_in (k:Int):-128000000000000000<=clampK k/\clampK k<=128000000000000000:=by unfold clampK;omega
def RlOut (B lp g p:Nat) (nv mv:Value) (s:St) (R:Option (List Sq)) (w:World) (e:Ending) (w':World):Prop:=e=.returned (.bool R.isSome)/\(∀ Q,R=some Q->LfQ B lp g p nv mv s Q w')/\Kq B w w'
theorem AmC.of {N K lp B:Nat} {t:Bool} {u q:Int} {X w':World} (h1:X.heap[N]?=some (.cells #[.pointer (some ⟨lp,0,none⟩),.bool t] 198 (0,0))) (h2:X.heap[K]?=some (.cells #[.int .i64 u,.int .i64 q] 186 (0,0))) (hk:Kq B X w'):w'.cell? ⟨N,0,none⟩=some (.pointer (some ⟨lp,0,none⟩))/\w'.cell? ⟨N,1,none⟩=some (.bool t)/\w'.cell? ⟨K,0,none⟩=some (.int .i64 u)/\w'.cell? ⟨K,1,none⟩=some (.int .i64 q):=
  ⟨cell_of (hk.block h1 (by decide) (by decide)) 0,cell_of (hk.block h1 (by decide) (by decide)) 1,cell_of (hk.block h2 (by decide) (by decide)) 0,cell_of (hk.block h2 (by decide) (by decide)) 1⟩
theorem atMost_any (B lp g p:Nat) (nv mv:Value) (s:St) (Q:List Sq) (t:Bool) (w:World) (h:LfQ B lp g p nv mv s Q w) (v:Value) (cs:List Int) (hv:IntsK B w v cs) (hcs:cs.length=s.now.length) (hc:∀ c∈cs,-64000000<=c/\c<=64000000) (kk:Int):Calls Tryz.prog 151 #[sdVal lp t,v,.int .i64 kk] w (RlOut B lp g p nv mv s (atMostQ t s.now cs kk Q) w):=by
  have hn:=h.n32;have hgood:=h.good;have hBs:=h.size;obtain ⟨W,hW⟩:∃ W,w.alloc (.cells #[.pointer (some ⟨lp,0,none⟩),.bool t] 198)=W:=⟨_,rfl⟩;have hb0:Below w.heap.size w W:=bAe hW;have g0:W.heap[w.heap.size]?=some (.cells #[.pointer (some ⟨lp,0,none⟩),.bool t] 198 (0,0)):=hAe hW;have HLW:Hid (LfQ B lp g p nv mv s Q W):=h.below hb0;have HVW:Hid (IntsK B W v cs):=hv.kq (Kq.of_below hb0 hBs);have HKW:Hid (Kq B w W):=Kq.of_below hb0 hBs;have HLs:Hid (Calls Tryz.prog 161 #[.agg #[.pointer (some ⟨lp,0,none⟩),.bool t],v] W fun e w'=>e=.returned (.int .i64 (leastZ t (cs.zip s.now)))/\Below W.heap.size W w'):=least_any B lp g p nv mv s Q t W HLW.out v cs HVW.out.at hcs hc;obtain ⟨a,cap,rfl,_⟩:=hv.at.form;obtain ⟨zs,hzs⟩:∃ zs,cs.zip s.now=zs:=⟨_,rfl⟩
  have hzl:zs.length=cs.length:=by rw [<-hzs,List.length_zip];omega
  have hz1:∀ k (hk:k<zs.length),∃ (h1:k<cs.length) (h2:k<s.now.length),zs[k]=(cs[k],s.now[k]):=fun k hk=>by
    subst hzs;rw [List.length_zip] at hk;exact ⟨by omega,by omega,by rw [List.getElem_zip]⟩
  have HZ:Hid (∀ z∈zs,-64000000<=z.1/\z.1<=64000000/\z.2.Ok):=fun z hz=>by
    obtain ⟨k,hk,rfl⟩:=List.getElem_of_mem hz;obtain ⟨h1,h2,e⟩:=hz1 k hk;rw [e];exact ⟨(hc _ (List.getElem_mem h1)).1,(hc _ (List.getElem_mem h1)).2,hgood _ (List.getElem_mem h2)⟩
  have HS:Hid (∀ k (hk:k<zs.length) w' Q',LfQ B lp g p nv mv s Q' w'->Calls Tryz.prog 181 #[.agg #[.pointer (some ⟨lp,0,none⟩),.bool t],.int .i64 (k:Int)] w' fun e w2=>e=.returned (.agg #[.int .i64 (spLo t zs[k].2),.int .i64 (spHi t zs[k].2)])/\Below w'.heap.size w' w2):=fun k hk w' Q' hL=>by
    obtain ⟨h1,h2,e⟩:=hz1 k hk;have:=hL.span t k h2;rw [e];exact this
  have HKp:Hid (∀ k (hk:k<zs.length) w' Q' (c d:Int),LfQ B lp g p nv mv s Q' w'->-9223372036854775807<=c->c<=9223372036854775807->-9223372036854775807<=d->d<=9223372036854775807->Calls Tryz.prog 182 #[.agg #[.pointer (some ⟨lp,0,none⟩),.bool t],.int .i64 (k:Int),.agg #[.int .i64 c,.int .i64 d]] w' (KqOut B lp g p nv mv s (sKeepQ t Q' k c d) w')):=fun k hk w' Q' c d hL h1 h2 h3 h4=>hL.sKeep t k (by obtain ⟨_,h,_⟩:=hz1 k hk;exact h) c d h1 h2 h3 h4
  have HV:Hid (∀ k (hk:k<zs.length) w',IntsK B w' (.slice a cs.length cap) cs->∃ b off,a=some ⟨b,off,none⟩/\w'.cell? ⟨b,off+k,none⟩=some (.int .i64 zs[k].1)):=fun k hk w' hI=>by
    obtain ⟨h1,h2,e⟩:=hz1 k hk;obtain ⟨a',c',e1,_,hcell⟩:=hI.at;injection e1 with e1 _ _;obtain ⟨b,off,ha,hlt,hcl⟩:=hcell (by omega);exact ⟨b,off,by rw [e1,ha],by rw [e];exact hcl k h1⟩
  have HG0:Hid (W.heap[w.heap.size]?=some (.cells #[.pointer (some ⟨lp,0,none⟩),.bool t] 198 (0,0))):=g0;have HBs:Hid (B<=W.heap.size):=Nat.le_trans hBs hb0.size;have hz32:zs.length<=32:=by omega
  have hls:=leastZ_bdk t zs zs.length HZ.out hz32;rw [List.take_length] at hls;obtain ⟨k1,hk1⟩:∃ k1,clampK kk=k1:=⟨_,rfl⟩;have hk1b:=clampK_in kk;have HQ:Hid (atMostQ t s.now cs kk Q=if spareL t zs kk<0 then none else some (amQ t (spareL t zs kk) zs Q zs.length)):=by show _=_;unfold atMostQ;rw [hzs]
  have HSp:Hid (spareL t zs kk=(if t then -k1 else k1)-leastZ t zs):=by show _=_;unfold spareL turnK;rw [hk1]
  rw [hzs] at HLs;rw [hk1] at hk1b;unfold clampK at hk1;obtain ⟨ls,hlsv⟩:∃ x,leastZ t zs=x:=⟨_,rfl⟩;rw [hlsv] at HLs hls HSp;have c0:W.cell? ⟨w.heap.size,0,none⟩=some (.pointer (some ⟨lp,0,none⟩)):=cell_of g0 0;have c1:W.cell? ⟨w.heap.size,1,none⟩=some (.bool t):=cell_of g0 1;obtain ⟨hk1a,hk1b⟩:=hk1b;obtain ⟨hla,hlb⟩:=hls;have hcl:cs.length=zs.length:=hzl.symm;rw [hcl] at HLs HVW HV ⊢;obtain ⟨R,hR⟩:∃ R,atMostQ t s.now cs kk Q=R:=⟨_,rfl⟩;rw [hR] at HQ ⊢;clear h hv hcs hc hgood hBs hb0 g0 hz1 hzs hzl hlsv hcl hR hn;unfold sdVal;go_enter Tryz.func151,Tryz.ntmps151;obtain ⟨k2,hk2⟩:∃ k2,(if t then -k1 else k1)=k2:=⟨_,rfl⟩
  have hk2a:-128000000000000000<=k2/\k2<=128000000000000000:=by rw [<-hk2];split <;> omega
  obtain ⟨hk2a,hk2b⟩:=hk2a;rw [hk2] at HSp;have HK2:Hid ((if t then -k1 else k1)=k2):=hk2;clear hk2;go_upto_if 15 with fail
  go_cut [2] from 11 to 62 (fun s2 wx=>s2=.int .i64 k2/\W=wx)
  case first=>
    cases t with
    | false =>
      have e:=HK2.out;simp only [Bool.false_eq_true,if_false] at e;subst e;go_wp2_with fail
      go_meet;exact ⟨rfl,rfl⟩
    | true =>
      have e:=HK2.out;simp only [if_true] at e;subst e;go_wp2_with fail
      go_meet;exact ⟨rfl,rfl⟩
  case rest=>
  obtain ⟨rfl,rfl⟩:=hcut;clear hk1 hW;go_wp2_with fail
  refine cA HLs.out ?_;rintro e w1 ⟨rfl,hb1⟩;have HL1:Hid (LfQ B lp g p nv mv s Q w1):=HLW.out.below hb1;have HK1:Hid (Kq B W w1):=Kq.of_below hb1 HBs.out;clear hb1;obtain ⟨sp,hsp⟩:∃ sp,k2-ls=sp:=⟨_,rfl⟩;have HSp2:Hid (spareL t zs kk=sp):=HSp.out.trans hsp;have hspb:-5000000000000000000<=sp/\sp<=5000000000000000000:=by omega
  obtain ⟨hsa,hsb⟩:=hspb
  by_cases hneg:sp<0
  · have HRn:Hid (R=none):=by show _=_;rw [HQ.out,HSp2.out,if_pos hneg]
    clear hk2a hk2b hla hlb c0 c1 HSp HQ HSp2;go_wp2_with fail
    go_ret;exact ⟨by rw [HRn.out];rfl,(fun Q' h=>by rw [HRn.out] at h;cases h),HKW.out.trans HK1.out⟩
  have HRs:Hid (R=some (amQ t sp zs Q zs.length)):=by show _=_;rw [HQ.out,HSp2.out,if_neg hneg]
  clear hk2a hk2b hla hlb c0 c1 HSp HQ HSp2;go_wp2_with fail
  clear hsp;go_loopw [27] (fun iv wr=>∃ (k:Nat),iv=.int .i64 (k:Int)/\k<=zs.length/\Hid (LfQ B lp g p nv mv s (amQ t sp zs Q k) wr)/\Hid (Kq B W wr)) (fun iv _=>zs.length-(intOf iv).toNat)
  case atStart=>exact ⟨0,rfl,Nat.zero_le _,HL1,HK1⟩
  case round=>
  obtain ⟨k,rfl,hk,HLr,HKr⟩:=hrel
  by_cases hkn:k<zs.length
  · have hkI:(k:Int)<(zs.length:Int):=by omega
    obtain ⟨b,off,rfl,f0⟩:=HV.out k hkn wr (HVW.out.kq HKr.out);have hGr:=HKr.out.block HG0.out (by decide) (by decide);have x0:wr.cell? ⟨w.heap.size,0,none⟩=some (.pointer (some ⟨lp,0,none⟩)):=cell_of hGr 0;have x1:wr.cell? ⟨w.heap.size,1,none⟩=some (.bool t):=cell_of hGr 1;have HSk:=HS.out k hkn wr _ HLr.out;have HKk:=HKp.out k hkn;have hnx:=amQ_next t sp zs Q k hkn;obtain ⟨z1,z2,z3⟩:=HZ.out zs[k] (List.getElem_mem hkn);obtain ⟨s1,s2,s3,s4⟩:=sp_in t z3;unfold amStep at hnx;obtain ⟨c,hcc⟩:∃ c,zs[k].1=c:=⟨_,rfl⟩;obtain ⟨u,hu⟩:∃ c,spLo t zs[k].2=c:=⟨_,rfl⟩;obtain ⟨q,hq⟩:∃ c,spHi t zs[k].2=c:=⟨_,rfl⟩;obtain ⟨Qk,hQk⟩:∃ c,amQ t sp zs Q k=c:=⟨_,rfl⟩;rw [hcc] at f0 hnx z1 z2;rw [hu] at HSk hnx s1 s2;rw [hq] at HSk hnx s3 s4;rw [hQk] at hnx HLr
    have HN:Hid (amQ t sp zs Q (k+1)=if 0<c then sKeepQ t Qk k (-9223372036854775807) (u+sp / c) else if c<0 then sKeepQ t Qk k (q-sp / (-c)) 9223372036854775807 else Qk):=hnx;have HSk':Hid (Calls Tryz.prog 181 #[.agg #[.pointer (some ⟨lp,0,none⟩),.bool t],.int .i64 (k:Int)] wr fun e w2=>e=.returned (.agg #[.int .i64 u,.int .i64 q])/\Below wr.heap.size wr w2):=HSk;have HKk':Hid (∀ (w':World) (Q':List Sq) (c d:Int),LfQ B lp g p nv mv s Q' w'->-9223372036854775807<=c->c<=9223372036854775807->-9223372036854775807<=d->d<=9223372036854775807->Calls Tryz.prog 182 #[.agg #[.pointer (some ⟨lp,0,none⟩),.bool t],.int .i64 (k:Int),.agg #[.int .i64 c,.int .i64 d]] w' (KqOut B lp g p nv mv s (sKeepQ t Q' k c d) w')):=HKk;clear hnx HSk HKk hcc hu hq hQk z3 hGr;go_wp2_with fail
    refine cA HSk'.out ?_;rintro e w2 ⟨rfl,hb2⟩;obtain ⟨X,hX⟩:∃ X,w2.alloc (.cells #[.int .i64 u,.int .i64 q] 186)=X:=⟨_,rfl⟩;have hbX:Below wr.heap.size wr X:=by rw [<-hX];exact bl_alloc hb2 _
    have HLX:Hid (LfQ B lp g p nv mv s Qk X):=HLr.out.below hbX;have HKX:Hid (Kq B W X):=HKr.out.next hbX HLr.out.size;have HGX:Hid (X.heap[w2.heap.size]?=some (.cells #[.int .i64 u,.int .i64 q] 186 (0,0))):=by show _=_;rw [<-hX];exact heap_alloc_new w2 _
    have HNX:Hid (X.heap[w.heap.size]?=some (.cells #[.pointer (some ⟨lp,0,none⟩),.bool t] 198 (0,0))):=HKX.out.block HG0.out (by decide) (by decide);clear hb2 hbX x0 x1
    by_cases hc0:0<c
    · have hq0:0<=sp / c:=Int.ediv_nonneg (by omega) (by omega)
      have hq1:sp / c<=sp:=Int.ediv_le_self _ (by omega);have HN2:Hid (amQ t sp zs Q (k+1)=sKeepQ t Qk k (-9223372036854775807) (u+sp / c)):=by show _=_;rw [HN.out,if_pos hc0]
      obtain ⟨d1,hd1⟩:∃ d,sp / c=d:=⟨_,rfl⟩;have ea:sp.tdiv c=d1:=by rw [<-hd1];exact Int.tdiv_eq_ediv_of_nonneg (by omega)
      rw [hd1] at hq0 hq1 HN2;have hcz:c≠0:=by omega
      have hcz2:(c==0)=false:=by rw [beq_eq_false_iff_ne];omega
      have ec:IntKind.i64.wrap d1=d1:=wrap_ok (by omega) (by omega);have ed:IntKind.i64.wrap (u+d1)=u+d1:=wrap_ok (by omega) (by omega);have HUp:Hid (∀ w',Calls Tryz.prog 183 #[.int .i64 (u+d1)] w' fun e w2=>e=.returned (.agg #[.int .i64 (-9223372036854775807),.int .i64 (u+d1)])/\Below w'.heap.size w' w2):=fun w'=>upTo_any (u+d1) w'
      have HLd:Hid (LfQ B lp g p nv mv s Qk X.drew):=HLX.out.below (Below.refl _ _).drew;have HKd:Hid (Kq B X X.drew):=Kq.of_below (Below.refl _ _).drew HLX.out.size;go_wp2_with fail
      try rw [hX]
      clear hX f0;go_region_held3 (fun w'=>w'.cell? ⟨w.heap.size,0,none⟩=some (.pointer (some ⟨lp,0,none⟩))/\w'.cell? ⟨w.heap.size,1,none⟩=some (.bool t)/\w'.cell? ⟨w2.heap.size,0,none⟩=some (.int .i64 u)/\w'.cell? ⟨w2.heap.size,1,none⟩=some (.int .i64 q))
        (first | exact AmC.of HNX.out HGX.out HK5.out | exact AmC.of HNX.out HGX.out HK4.out | exact AmC.of HNX.out HGX.out HKd.out)
        (first | (go_at_call 183;refine cA (HUp.out _) ?_;rintro e w4 ⟨rfl,hb4⟩;(have HL4:Hid (LfQ B lp g p nv mv s Qk w4):=HLd.out.below hb4);(have HK4:Hid (Kq B X w4):=HKd.out.next hb4 HLd.out.size);clear hb4) | (go_at_call 182;refine cA (HKk'.out w4 Qk (-9223372036854775807) (u+d1) HL4.out (by omega) (by omega) (by omega) (by omega)) ?_;rintro e w5 ⟨rfl,hL5,hk5⟩;(have HL5:Hid (LfQ B lp g p nv mv s (sKeepQ t Qk k (-9223372036854775807) (u+d1)) w5):=hL5);(have HK5:Hid (Kq B X w5):=HK4.out.trans hk5);clear hL5 hk5))
      go_wp2_with fail
      go_roundw
      case rel=>exact ⟨k+1,by go_num,hkn,(by show LfQ _ _ _ _ _ _ _ _ _;rw [HN2.out];exact HL5.out),HKX.out.trans HK5.out⟩
      case measure=>simp [intOf];omega
    by_cases hc1:c<0
    · have hq0:0<=sp / (-c):=Int.ediv_nonneg (by omega) (by omega)
      have hq1:sp / (-c)<=sp:=Int.ediv_le_self _ (by omega);have HN2:Hid (amQ t sp zs Q (k+1)=sKeepQ t Qk k (q-sp / (-c)) 9223372036854775807):=by show _=_;rw [HN.out,if_neg hc0,if_pos hc1]
      obtain ⟨d1,hd1⟩:∃ d,sp / (-c)=d:=⟨_,rfl⟩;have ea:sp.tdiv (-c)=d1:=by rw [<-hd1];exact Int.tdiv_eq_ediv_of_nonneg (by omega)
      rw [hd1] at hq0 hq1 HN2;have en:IntKind.i64.wrap (-c)=-c:=wrap_ok (by omega) (by omega);have ec:IntKind.i64.wrap d1=d1:=wrap_ok (by omega) (by omega);have ed:IntKind.i64.wrap (q-d1)=q-d1:=wrap_ok (by omega) (by omega);have hcz:c≠0:=by omega
      have hcz3:-c≠0:=by omega
      have hcn:(-c==0)=false:=by rw [beq_eq_false_iff_ne];omega
      have HUp:Hid (∀ w',Calls Tryz.prog 184 #[.int .i64 (q-d1)] w' fun e w2=>e=.returned (.agg #[.int .i64 (q-d1),.int .i64 9223372036854775807])/\Below w'.heap.size w' w2):=fun w'=>fromB_any (q-d1) w'
      have HLd:Hid (LfQ B lp g p nv mv s Qk X.drew):=HLX.out.below (Below.refl _ _).drew;have HKd:Hid (Kq B X X.drew):=Kq.of_below (Below.refl _ _).drew HLX.out.size;go_wp2_with fail
      try rw [hX]
      clear hX f0;go_region_held3 (fun w'=>w'.cell? ⟨w.heap.size,0,none⟩=some (.pointer (some ⟨lp,0,none⟩))/\w'.cell? ⟨w.heap.size,1,none⟩=some (.bool t)/\w'.cell? ⟨w2.heap.size,0,none⟩=some (.int .i64 u)/\w'.cell? ⟨w2.heap.size,1,none⟩=some (.int .i64 q))
        (first | exact AmC.of HNX.out HGX.out HK5.out | exact AmC.of HNX.out HGX.out HK4.out | exact AmC.of HNX.out HGX.out HKd.out)
        (first | (go_at_call 184;refine cA (HUp.out _) ?_;rintro e w4 ⟨rfl,hb4⟩;(have HL4:Hid (LfQ B lp g p nv mv s Qk w4):=HLd.out.below hb4);(have HK4:Hid (Kq B X w4):=HKd.out.next hb4 HLd.out.size);clear hb4) | (go_at_call 182;refine cA (HKk'.out w4 Qk (q-d1) 9223372036854775807 HL4.out (by omega) (by omega) (by omega) (by omega)) ?_;rintro e w5 ⟨rfl,hL5,hk5⟩;(have HL5:Hid (LfQ B lp g p nv mv s (sKeepQ t Qk k (q-d1) 9223372036854775807) w5):=hL5);(have HK5:Hid (Kq B X w5):=HK4.out.trans hk5);clear hL5 hk5))
      go_wp2_with fail
      go_roundw
      case rel=>exact ⟨k+1,by go_num,hkn,(by show LfQ _ _ _ _ _ _ _ _ _;rw [HN2.out];exact HL5.out),HKX.out.trans HK5.out⟩
      case measure=>simp [intOf];omega
    · have HN2:Hid (amQ t sp zs Q (k+1)=Qk):=by show _=_;rw [HN.out,if_neg hc0,if_neg hc1]
      go_wp2_with fail
      try rw [hX]
      go_roundw
      case rel=>exact ⟨k+1,by go_num,hkn,(by show LfQ _ _ _ _ _ _ _ _ _;rw [HN2.out];exact HLX.out),HKX⟩
      case measure=>simp [intOf];omega
  · have hke:k=zs.length:=by omega
    subst hke;have hkI:¬ (zs.length:Int)<(zs.length:Int):=by omega
    go_wp2_with fail
    go_ret;refine ⟨by rw [HRs.out];rfl,(fun Q' h=>?_),HKW.out.trans HKr.out⟩;rw [HRs.out] at h;injection h with h;rw [<-h];exact HLr.out
def dAt (D:List Dm) (x:Int):Dm:=D.getD x.toNat ⟨0,0,0⟩
theorem dAt_get {D:List Dm} {m:Nat} (h:m<D.length):dAt D (m:Int)=D[m]:=by
  unfold dAt;rw [List.getD_eq_getElem?_getD,Int.toNat_natCast,List.getElem?_eq_getElem h];rfl
def rchB (t:Bool) (D:List Dm) (x v:Int) (o:Int):Bool:=(o != x)&&decide (v<=spHi t (dAt D o))
theorem reach_any (B lp g p:Nat) (nv mv:Value) (s:St) (Q:List Sq) (t:Bool) (w:World) (h:LfQ B lp g p nv mv s Q w) (vx:Value) (xs:List Int) (hv:IntsAt w vx xs) (hx:∀ x∈xs,0<=x/\x<(s.now.length:Int)) (hl:xs.length<=64) (x v:Int):Calls Tryz.prog 186 #[sdVal lp t,.int .i64 x,vx,.int .i64 v] w fun e w'=>e=.returned (.bool (xs.any (rchB t s.now x v)))/\Below w.heap.size w w':=by
  obtain ⟨a,cap,rfl,_,hcell⟩:=hv;obtain ⟨W,hW⟩:∃ W,w.alloc (.cells #[.pointer (some ⟨lp,0,none⟩),.bool t] 198)=W:=⟨_,rfl⟩;have hb0:Below w.heap.size w W:=bAe hW;have g0:W.heap[w.heap.size]?=some (.cells #[.pointer (some ⟨lp,0,none⟩),.bool t] 198 (0,0)):=hAe hW;have hlt0:=(hLt g0);have HS:Hid (∀ k (hk:k<xs.length) w',Below W.heap.size W w'->Calls Tryz.prog 181 #[.agg #[.pointer (some ⟨lp,0,none⟩),.bool t],.int .i64 xs[k]] w' fun e w2=>e=.returned (.agg #[.int .i64 (spLo t (dAt s.now xs[k])),.int .i64 (spHi t (dAt s.now xs[k]))])/\Below w'.heap.size w' w2):=fun k hk w' hb=>by
    have h1:=hx xs[k] (List.getElem_mem hk);obtain ⟨m,hm,hm2⟩:∃ m:Nat,xs[k]=(m:Int)/\m<s.now.length:=⟨xs[k].toNat,by omega,by omega⟩;rw [hm,dAt_get hm2];exact ((h.below hb0).below hb).span t m hm2
  have HV:Hid (∀ k (hk:k<xs.length) w',Below W.heap.size W w'->∃ b off,a=some ⟨b,off,none⟩/\w'.cell? ⟨b,off+k,none⟩=some (.int .i64 xs[k])):=fun k hk w' hb=>by
    obtain ⟨b,off,rfl,hlt,hcl⟩:=hcell (by omega);exact ⟨b,off,rfl,((hb0.trans (hb.mono hb0.size)).cell (p:=⟨b,_,none⟩) hlt).trans (hcl k hk)⟩
  have HC:Hid (∀ w',Below W.heap.size W w'->w'.cell? ⟨w.heap.size,0,none⟩=some (.pointer (some ⟨lp,0,none⟩))/\w'.cell? ⟨w.heap.size,1,none⟩=some (.bool t)):=fun w' hb=>⟨cell_of ((hb.block _ hlt0).trans g0) 0,cell_of ((hb.block _ hlt0).trans g0) 1⟩
  have HB:Hid (Below w.heap.size w W):=hb0;obtain ⟨D,hD⟩:∃ D,s.now=D:=⟨_,rfl⟩;rw [hD] at HS ⊢;have hfd:∀ (a b:Value) (w:World),(Instr.field 186 (.agg #[a,b]) 1).run Tryz.prog w=.ok b w:=fun _ _ _=>by kernel_rfl
  clear h hcell hb0 g0 hlt0 hx hD;unfold sdVal;go_enter Tryz.func186,Tryz.ntmps186;go_wp2_with fail
  go_loopw [13] (fun iv wr=>∃ (k:Nat),iv=.int .i64 (k:Int)/\k<=xs.length/\Hid ((xs.take k).any (rchB t D x v)=false)/\Hid (Below W.heap.size W wr)) (fun iv _=>xs.length-(intOf iv).toNat)
  case atStart=>exact ⟨0,rfl,Nat.zero_le _,rfl,Below.refl _ _⟩
  case round=>
  obtain ⟨k,rfl,hk,HT,HBr⟩:=hrel;clear hW
  by_cases hkn:k<xs.length
  · have hkI:(k:Int)<(xs.length:Int):=by omega
    obtain ⟨b,off,rfl,f0⟩:=HV.out k hkn wr HBr.out;obtain ⟨x0,x1⟩:=HC.out wr HBr.out;have HSk:=HS.out k hkn wr HBr.out;have HN:Hid ((xs.take (k+1)).any (rchB t D x v)=rchB t D x v xs[k]):=by show _=_;rw [Md.any_next hkn,HT.out];rfl
    have HY:Hid (rchB t D x v xs[k]=true->xs.any (rchB t D x v)=true):=fun hh=>Md.any_stop hkn hh
    obtain ⟨o,ho⟩:∃ o,xs[k]=o:=⟨_,rfl⟩;rw [ho] at f0 HSk HN HY;unfold rchB at HN HY;obtain ⟨u,hu⟩:∃ c,spLo t (dAt D o)=c:=⟨_,rfl⟩;obtain ⟨q,hq⟩:∃ c,spHi t (dAt D o)=c:=⟨_,rfl⟩;rw [hu,hq] at HSk;have HSk':Hid (Calls Tryz.prog 181 #[.agg #[.pointer (some ⟨lp,0,none⟩),.bool t],.int .i64 o] wr fun e w2=>e=.returned (.agg #[.int .i64 u,.int .i64 q])/\Below wr.heap.size wr w2):=HSk;have HQ:Hid (spHi t (dAt D o)=q):=hq;clear ho hu hq HSk
    by_cases hox:o=x
    · have e1:(o != x)=false:=by simp [hox]
      have HN2:Hid ((xs.take (k+1)).any (rchB t D x v)=false):=by show _=_;rw [show ((xs.take (k+1)).any (rchB t D x v))=_ from HN.out,e1];rfl
      clear hox;go_wp2_with fail
      go_roundw
      case rel=>exact ⟨k+1,by go_num,hkn,HN2,HBr⟩
      case measure=>simp [intOf];omega
    · have e1:(o != x)=true:=by simpa using hox
      clear hox
      by_cases hqv:v<=q
      · have HY2:Hid (xs.any (rchB t D x v)=true):=HY.out (by rw [e1,HQ.out];simpa using hqv)
        go_wp2_with fail
        refine cA HSk'.out ?_;rintro e w2 ⟨rfl,hb2⟩;have HB2:Hid (Below W.heap.size W w2):=bl_next HBr.out hb2;clear hb2;go_wp2_with fail
        go_ret;exact ⟨ret_bool (by rw [HY2.out];try rfl),HB.out.trans (HB2.out.mono HB.out.size)⟩
      · have HN2:Hid ((xs.take (k+1)).any (rchB t D x v)=false):=by show _=_;rw [show ((xs.take (k+1)).any (rchB t D x v))=_ from HN.out,e1,HQ.out];simpa using hqv
        go_wp2_with fail
        refine cA HSk'.out ?_;rintro e w2 ⟨rfl,hb2⟩;have HB2:Hid (Below W.heap.size W w2):=bl_next HBr.out hb2;clear hb2;go_wp2_with fail
        go_roundw
        case rel=>exact ⟨k+1,by go_num,hkn,HN2,HB2⟩
        case measure=>simp [intOf];omega
  · have hke:k=xs.length:=by omega
    subst hke;have HT2:Hid (xs.any (rchB t D x v)=false):=by have:=HT.out;rw [List.take_length] at this;exact this
    have hkI:¬ (xs.length:Int)<(xs.length:Int):=by omega
    go_wp2_with fail
    go_ret;exact ⟨ret_bool (by rw [HT2.out];try rfl),HB.out.trans (HBr.out.mono HB.out.size)⟩
def linQ (D:List Dm) (c:Md.Cn) (Q:List Sq):Option (List Sq):=
  (if c.op=3 then some Q else atMostQ false D (coefL c.terms D.length) c.k Q).bind fun Q1=>if c.op=1 then some Q1 else atMostQ true D (coefL c.terms D.length) c.k Q1
theorem coef_mem {t:List (Int × Int)} {n:Nat} (ht:∀ q∈t,-1000000<=q.1/\q.1<=1000000) (hl:t.length<=64):∀ c∈coefL t n,-64000000<=c/\c<=64000000:=fun c hc=>by
  obtain ⟨i,hi,rfl⟩:=List.getElem_of_mem hc;have:=coefL_bd ht n i hi;omega
theorem LinC.of {N B:Nat} {a0 a1 a2 a3 a4 a5 a6 a7 a8 a9:Value} {X w':World} (h:X.heap[N]?=some (.cells #[a0,a1,a2,a3,a4,a5,a6,a7,a8,a9] 56 (0,0))) (hk:Kq B X w'):w'.cell? ⟨N,1,none⟩=some a1/\w'.cell? ⟨N,3,none⟩=some a3:=
  ⟨cell_of (hk.block h (by decide) (by decide)) 1,cell_of (hk.block h (by decide) (by decide)) 3⟩
theorem bl_drewN (w:World) (n:Nat):Below w.heap.size w (w.drewN n):=⟨rfl,rfl,rfl,Nat.le_refl _,fun _ _=>rfl⟩
theorem lin_any (B lp g p:Nat) (nv mv:Value) (s:St) (Q:List Sq) (w:World) (h:LfQ B lp g p nv mv s Q w) (c:Md.Cn) (vt vx vb vr:Value) (hC:CnK B w c vt vx vb vr) (hop:1<=c.op/\c.op<=3) (hl:c.terms.length<=64) (hc:∀ q∈c.terms,-1000000<=q.1/\q.1<=1000000) (hx:∀ q∈c.terms,0<=q.2/\q.2<(s.now.length:Int)):Calls Tryz.prog 131 #[.pointer (some ⟨lp,0,none⟩),cnVal c vt vx vb vr] w (RlOut B lp g p nv mv s (linQ s.now c Q) w):=by
  have hBs:=h.size;obtain ⟨ta,tc,rfl,_⟩:=hC.at.t.form;obtain ⟨W,hW⟩:∃ W,w.alloc (.cells #[.int .i64 c.kind,.int .i64 c.op,.slice ta c.terms.length tc,.int .i64 c.k,.int .i64 c.v,.int .i64 c.x,.int .i64 c.y,vx,vb,vr] 56)=W:=⟨_,rfl⟩;have hb0:Below w.heap.size w W:=bAe hW;have g0:W.heap[w.heap.size]?=some (.cells #[.int .i64 c.kind,.int .i64 c.op,.slice ta c.terms.length tc,.int .i64 c.k,.int .i64 c.v,.int .i64 c.x,.int .i64 c.y,vx,vb,vr] 56 (0,0)):=hAe hW;have HG:Hid (W.heap[w.heap.size]?=some (.cells #[.int .i64 c.kind,.int .i64 c.op,.slice ta c.terms.length tc,.int .i64 c.k,.int .i64 c.v,.int .i64 c.x,.int .i64 c.y,vx,vb,vr] 56 (0,0))):=g0;have HLW:Hid (LfQ B lp g p nv mv s Q W):=h.below hb0;have HKW:Hid (Kq B w W):=Kq.of_below hb0 hBs
  have HCf:Hid (Calls Tryz.prog 149 #[.pointer (some ⟨lp,0,none⟩),.slice ta c.terms.length tc] W (CfOut B c.terms s.now.length W)):=coefs_any B lp g p nv mv s Q W HLW.out _ c.terms ((hC.below (hb0.mono hBs)).at.t) hl hc hx;have HAm:Hid (∀ (t:Bool) (w':World) (Q':List Sq) (v:Value),LfQ B lp g p nv mv s Q' w'->IntsK B w' v (coefL c.terms s.now.length)->Calls Tryz.prog 151 #[.agg #[.pointer (some ⟨lp,0,none⟩),.bool t],v,.int .i64 c.k] w' (RlOut B lp g p nv mv s (atMostQ t s.now (coefL c.terms s.now.length) c.k Q') w')):=fun t w' Q' v hL hI=>atMost_any B lp g p nv mv s Q' t w' hL v _ hI (coefL_len _ _) (coef_mem hc hl) c.k
  have HU:Hid (∀ w',Calls Tryz.prog 150 #[.pointer (some ⟨lp,0,none⟩)] w' fun e w2=>e=.returned (.agg #[.pointer (some ⟨lp,0,none⟩),.bool false])/\Below w'.heap.size w' w2):=fun w'=>upright_any lp w'
  have HTn:Hid (∀ w',Calls Tryz.prog 152 #[.pointer (some ⟨lp,0,none⟩)] w' fun e w2=>e=.returned (.agg #[.pointer (some ⟨lp,0,none⟩),.bool true])/\Below w'.heap.size w' w2):=fun w'=>turnedL_any lp w'
  have HQ:Hid (linQ s.now c Q=(if c.op=3 then some Q else atMostQ false s.now (coefL c.terms s.now.length) c.k Q).bind fun Q1=>if c.op=1 then some Q1 else atMostQ true s.now (coefL c.terms s.now.length) c.k Q1):=rfl;have c2:W.cell? ⟨w.heap.size,2,none⟩=some (.slice ta c.terms.length tc):=cell_of g0 2;have hop1:=hop.1;have hop2:=hop.2;obtain ⟨R,hR⟩:∃ R,linQ s.now c Q=R:=⟨_,rfl⟩;rw [hR] at HQ ⊢;have HBs:Hid (B<=W.heap.size):=Nat.le_trans hBs hb0.size;clear h hC hop hl hc hx hBs hb0 g0 hR;unfold cnVal;go_enter Tryz.func131,Tryz.ntmps131;go_wp2_with fail
  refine cA HCf.out ?_;rintro e w1 ⟨v,rfl,hI1,hb1⟩;have HI1:Hid (IntsK B w1 v (coefL c.terms s.now.length)):=hI1;have HL1:Hid (LfQ B lp g p nv mv s Q w1):=HLW.out.below hb1;have HK1:Hid (Kq B W w1):=Kq.of_below hb1 HBs.out;clear hI1 hb1 c2 hW
  by_cases h3:c.op=3
  · have e3:(c.op != 3)=false:=by simp [h3]
    have e1:(c.op==1)=false:=by simp [h3]
    obtain ⟨Rb,hRab⟩:∃ R2,atMostQ true s.now (coefL c.terms s.now.length) c.k Q=R2:=⟨_,rfl⟩;have HRf:Hid (R=Rb):=by show _=_;rw [HQ.out,if_pos h3,<-hRab];simp [h3]
    clear h3 HQ;obtain ⟨x1,x3⟩:=LinC.of HG.out HK1.out;go_wp2_with fail
    go_quiet ((fail))
    rename_i nq _
    obtain ⟨w2,hw2⟩:∃ w2,w1.drewN nq=w2:=⟨_,rfl⟩;have hb2:Below w1.heap.size w1 w2:=by rw [<-hw2];exact bl_drewN w1 nq
    rw [hw2];have HL2:Hid (LfQ B lp g p nv mv s Q w2):=HL1.out.below hb2;have HK2:Hid (Kq B W w2):=HK1.out.next hb2 HL1.out.size;have HI2:Hid (IntsK B w2 v (coefL c.terms s.now.length)):=HI1.out.kq (Kq.of_below hb2 HL1.out.size);clear hw2 hb2 x1 x3;go_wp2_with fail
    have HLdb:Hid (LfQ B lp g p nv mv s Q w2.drew):=HL2.out.below (Below.refl _ _).drew;have HKdb:Hid (Kq B W w2.drew):=HK2.out.next (Below.refl _ _).drew HL2.out.size;have HIdb:Hid (IntsK B w2.drew v (coefL c.terms s.now.length)):=HI2.out.kq (Kq.of_below (Below.refl _ _).drew HL2.out.size);go_region_held3 (fun w'=>w'.cell? ⟨w.heap.size,1,none⟩=some (.int .i64 c.op)/\w'.cell? ⟨w.heap.size,3,none⟩=some (.int .i64 c.k))
      (first | exact LinC.of HG.out HK5b.out | exact LinC.of HG.out HK4b.out | exact LinC.of HG.out HKdb.out)
      (first | (go_at_call 152;refine cA (HTn.out _) ?_;rintro e w4b ⟨rfl,hb4⟩;(have HL4b:Hid (LfQ B lp g p nv mv s Q w4b):=HLdb.out.below hb4);(have HK4b:Hid (Kq B W w4b):=HKdb.out.next hb4 HLdb.out.size);(have HI4b:Hid (IntsK B w4b v (coefL c.terms s.now.length)):=HIdb.out.kq (Kq.of_below hb4 HLdb.out.size));clear hb4) | (go_at_call 151;refine cA (HAm.out true w4b Q v HL4b.out HI4b.out) ?_;rintro e w5b ⟨he,hL5,hk5⟩;rw [hRab] at he hL5;subst he;(have HL5b:Hid (∀ Q',Rb=some Q'->LfQ B lp g p nv mv s Q' w5b):=hL5);(have HK5b:Hid (Kq B W w5b):=HK4b.out.trans hk5);(have HI5b:Hid (IntsK B w5b v (coefL c.terms s.now.length)):=HI4b.out.kq hk5);clear hL5 hk5))
    cases Rb with
    | none =>
      go_wp2_with fail
      go_ret;exact ⟨by rw [HRf.out];rfl,(fun Q' h=>by rw [HRf.out] at h;cases h),HKW.out.trans HK5b.out⟩
    | some Qb =>
      go_wp2_with fail
      go_ret;exact ⟨by rw [HRf.out];rfl,(fun Q' h=>by rw [HRf.out] at h;exact HL5b.out Q' h),HKW.out.trans HK5b.out⟩
  have e3:(c.op != 3)=true:=by simpa using h3
  obtain ⟨Ra,hRaa⟩:∃ R2,atMostQ false s.now (coefL c.terms s.now.length) c.k Q=R2:=⟨_,rfl⟩;have HQ2:Hid (R=Ra.bind fun Q1=>if c.op=1 then some Q1 else atMostQ true s.now (coefL c.terms s.now.length) c.k Q1):=by show _=_;rw [HQ.out,if_neg h3,hRaa]
  clear HQ;go_wp2_with fail
  have HLda:Hid (LfQ B lp g p nv mv s Q w1.drew):=HL1.out.below (Below.refl _ _).drew;have HKda:Hid (Kq B W w1.drew):=HK1.out.next (Below.refl _ _).drew HL1.out.size;have HIda:Hid (IntsK B w1.drew v (coefL c.terms s.now.length)):=HI1.out.kq (Kq.of_below (Below.refl _ _).drew HL1.out.size);go_region_held3 (fun w'=>w'.cell? ⟨w.heap.size,1,none⟩=some (.int .i64 c.op)/\w'.cell? ⟨w.heap.size,3,none⟩=some (.int .i64 c.k))
    (first | exact LinC.of HG.out HK5a.out | exact LinC.of HG.out HK4a.out | exact LinC.of HG.out HKda.out)
    (first | (go_at_call 150;refine cA (HU.out _) ?_;rintro e w4a ⟨rfl,hb4⟩;(have HL4a:Hid (LfQ B lp g p nv mv s Q w4a):=HLda.out.below hb4);(have HK4a:Hid (Kq B W w4a):=HKda.out.next hb4 HLda.out.size);(have HI4a:Hid (IntsK B w4a v (coefL c.terms s.now.length)):=HIda.out.kq (Kq.of_below hb4 HLda.out.size));clear hb4) | (go_at_call 151;refine cA (HAm.out false w4a Q v HL4a.out HI4a.out) ?_;rintro e w5a ⟨he,hL5,hk5⟩;rw [hRaa] at he hL5;subst he;(have HL5a:Hid (∀ Q',Ra=some Q'->LfQ B lp g p nv mv s Q' w5a):=hL5);(have HK5a:Hid (Kq B W w5a):=HK4a.out.trans hk5);(have HI5a:Hid (IntsK B w5a v (coefL c.terms s.now.length)):=HI4a.out.kq hk5);clear hL5 hk5))
  cases Ra with
  | none =>
    have HRf:Hid (R=none):=HQ2.out;go_wp2_with fail
    go_ret;exact ⟨by rw [HRf.out];rfl,(fun Q' h=>by rw [HRf.out] at h;cases h),HKW.out.trans HK5a.out⟩
  | some Qa=>
  have HLa:Hid (LfQ B lp g p nv mv s Qa w5a):=HL5a.out Qa rfl
  by_cases h1:c.op=1
  · have e1:(c.op==1)=true:=by simpa using h1
    have HRf:Hid (R=some Qa):=HQ2.out.trans (if_pos h1);clear h1 h3;obtain ⟨x1,x3⟩:=LinC.of HG.out HK5a.out;go_wp2_with fail
    go_quiet ((fail))
    rename_i nq _
    go_wp2_with fail
    go_ret;refine ⟨by rw [HRf.out];rfl,(fun Q' h=>?_),(HKW.out.trans HK5a.out).next (bl_drewN w5a nq) HLa.out.size⟩;rw [HRf.out] at h;injection h with h;rw [<-h];exact HLa.out.below (bl_drewN w5a nq)
  · have e1:(c.op==1)=false:=by simpa using h1
    obtain ⟨Rb,hRab⟩:∃ R2,atMostQ true s.now (coefL c.terms s.now.length) c.k Qa=R2:=⟨_,rfl⟩;have HRf:Hid (R=Rb):=by show _=_;rw [HQ2.out];exact (if_neg h1).trans hRab
    clear h1 h3;go_wp2_with fail
    have HLdb:Hid (LfQ B lp g p nv mv s Qa w5a.drew):=HLa.out.below (Below.refl _ _).drew;have HKdb:Hid (Kq B W w5a.drew):=HK5a.out.next (Below.refl _ _).drew HLa.out.size;have HIdb:Hid (IntsK B w5a.drew v (coefL c.terms s.now.length)):=HI5a.out.kq (Kq.of_below (Below.refl _ _).drew HLa.out.size);go_region_held3 (fun w'=>w'.cell? ⟨w.heap.size,1,none⟩=some (.int .i64 c.op)/\w'.cell? ⟨w.heap.size,3,none⟩=some (.int .i64 c.k))
      (first | exact LinC.of HG.out HK5b.out | exact LinC.of HG.out HK4b.out | exact LinC.of HG.out HKdb.out)
      (first | (go_at_call 152;refine cA (HTn.out _) ?_;rintro e w4b ⟨rfl,hb4⟩;(have HL4b:Hid (LfQ B lp g p nv mv s Qa w4b):=HLdb.out.below hb4);(have HK4b:Hid (Kq B W w4b):=HKdb.out.next hb4 HLdb.out.size);(have HI4b:Hid (IntsK B w4b v (coefL c.terms s.now.length)):=HIdb.out.kq (Kq.of_below hb4 HLdb.out.size));clear hb4) | (go_at_call 151;refine cA (HAm.out true w4b Qa v HL4b.out HI4b.out) ?_;rintro e w5b ⟨he,hL5,hk5⟩;rw [hRab] at he hL5;subst he;(have HL5b:Hid (∀ Q',Rb=some Q'->LfQ B lp g p nv mv s Q' w5b):=hL5);(have HK5b:Hid (Kq B W w5b):=HK4b.out.trans hk5);(have HI5b:Hid (IntsK B w5b v (coefL c.terms s.now.length)):=HI4b.out.kq hk5);clear hL5 hk5))
    cases Rb with
    | none =>
      go_wp2_with fail
      go_ret;exact ⟨by rw [HRf.out];rfl,(fun Q' h=>by rw [HRf.out] at h;cases h),HKW.out.trans HK5b.out⟩
    | some Qb =>
      go_wp2_with fail
      go_ret;exact ⟨by rw [HRf.out];rfl,(fun Q' h=>by rw [HRf.out] at h;exact HL5b.out Q' h),HKW.out.trans HK5b.out⟩
end Go.Proofs.YtjnckfchgcmmpaaGreatDoor
