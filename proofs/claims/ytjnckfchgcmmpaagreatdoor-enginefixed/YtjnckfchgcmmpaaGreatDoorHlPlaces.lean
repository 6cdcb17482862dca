import Derived.Test.YtjnckfchgcmmpaaGreatDoorJ05
import Derived.Test.YtjnckfchgcmmpaaGreatDoorJ43
import Derived.Test.YtjnckfchgcmmpaaGreatDoorJ26
namespace Go.Proofs.YtjnckfchgcmmpaaGreatDoor
open Go.RowKit
set_option maxRecDepth 10000
set_option maxHeartbeats 8000000
def isP (n:Nat) (x:Int):Bool:=decide (0<=x)&&decide (x<(n:Int))
def plP (n:Nat) (xs:List Int):List Int:=xs.filter (isP n)
def cntP (P:List Int) (x:Nat):Nat:=P.countP fun y=>decide (y=(x:Int))
theorem cntP_snoc (P:List Int) (y:Int) (x:Nat):cntP (P++[y]) x=cntP P x+if y=(x:Int) then 1 else 0:=by
  unfold cntP;rw [List.countP_append];simp [List.countP_cons]
theorem cntP_le (P:List Int) (x:Nat):cntP P x<=P.length:=List.countP_le_length
def gr1 (D:List Dm) (P:List Int) (x:Nat):List Gr:=if 0<cntP P x then [⟨(D.getD x ⟨0,0,0⟩).lo,(D.getD x ⟨0,0,0⟩).hi,x,(cntP P x:Int)⟩] else []
def grL (D:List Dm) (P:List Int):Nat->List Gr
  | 0=>[]
  | k+1=>grL D P k++gr1 D P k
theorem grL_len (D:List Dm) (P:List Int) (k:Nat):(grL D P k).length<=k:=by
  induction k with
  | zero=>exact Nat.le_refl _
  | succ k ih =>
    unfold grL;rw [List.length_append]
    have:(gr1 D P k).length<=1:=by unfold gr1;split <;> simp
    omega
def Gr.cells (g:Gr):List Value:=[.int .i64 g.lo,.int .i64 g.hi,.int .i64 (g.x:Int),.int .i64 g.n]
def grs (G:List Gr):List Value:=G.flatMap Gr.cells
theorem grs_append (G G':List Gr):grs (G++G')=grs G++grs G':=by simp [grs]
theorem grs_one (g:Gr):grs [g]=g.cells:=by simp [grs]
theorem info79:(Tryz.prog.info? 160).map (fun i=>(i.zero,i.size,i.bytes))=some (some (.agg #[.int .i64 0,.int .i64 0,.int .i64 0,.int .i64 0]),4,32):=by kernel_rfl
theorem und64:Tryz.prog.underlying 145=some (.slice 160):=by kernel_rfl
theorem info66s:(Tryz.prog.info? 147).map (·.size)=some 2:=by kernel_rfl
theorem info107s:(Tryz.prog.info? 173).map (·.size)=some 32:=by kernel_rfl
theorem und107a:Tryz.prog.underlying 173=some (.array 32 3):=by kernel_rfl
structure PlI (N:Nat) (w:World) (P:List Int) (v:Value) (wr:World):Prop where
  r0:wr.heap[N]?=some (.cells #[.slice none 0 0,.slice none 0 0] 147 (0,0))
  p:wr.heap[N+1]?=some (.cells #[v,.slice none 0 0] 147 (0,0))
  many:wr.rowIs (N+1+1) 173 32 (fun j=>.int .i64 (cntP P j:Int))
  own:wr.ownsRow (N+1+1+1) 3 1 v P.length (P.map (.int .i64))
  below:Below N w wr
theorem pl_next {w wr w7:World} {N:Nat} {P:List Int} {v v7:Value} {x:Nat} (hx:x<32) (h:PlI N w P v wr) (hNw:N=w.heap.size) (h7:w7.ownsRow (N+1+1+1) 3 1 v7 (P.length+1) (P.map (.int .i64)++[.int .i64 (x:Int)])) (hg:(wr.alloc (.cells [.int .i64 (x:Int)].toArray 3)).grownBy w7 v.ownBlock) :
    PlI N w (P++[(x:Int)]) v7 ((w7.setCell ⟨N+1,0,none⟩ v7).setCell ⟨N+1+1,x,none⟩ (.int .i64 ((cntP P x:Int)+1)))/\w7.cell? ⟨N+1,0,none⟩=some v/\w7.frozen? ⟨N+1,0,none⟩=false/\(w7.setCell ⟨N+1,0,none⟩ v7).cell? ⟨N+1+1,x,none⟩=some (.int .i64 (cntP P x:Int))/\(w7.setCell ⟨N+1,0,none⟩ v7).frozen? ⟨N+1+1,x,none⟩=false:=by
  obtain ⟨cm,hm,hms,hmf⟩:=h.many;have b0:=(hLt h.r0);have b1:=(hLt h.p);have b2:=(hLt hm);have blk:∀ {k:Nat} {cs:Array Value} {t:TypeId},wr.heap[k]?=some (.cells cs t (0,0))->t≠3->w7.heap[k]?=some (.cells cs t (0,0)):=fun {k cs t} hk ht=>by
    have hlt:=(hLt hk);exact (hg.block _ (by simp;omega) (fun e=>own_ty h.own hk ht e.symm)).trans ((heap_alloc_old wr _ hlt).trans hk)
  have k0:=blk h.r0 (by decide);have k1:=blk h.p (by decide);have k2:=blk hm (by decide);have km:(w7.setCell ⟨N+1,0,none⟩ v7).rowIs (N+1+1) 173 32 (fun j=>.int .i64 (cntP P j:Int)):=⟨cm,(heap_setCell_other _ _ _ _ (by show N+1+1≠N+1;omega)).trans k2,hms,hmf⟩;have hbs:=h.below.size;refine ⟨⟨?_,?_,?_,?_,?_⟩,cell_of k1 0,frozen_of k1 0,km.cell hx,km.frozen x⟩
  · rw [heap_setCell_other _ _ _ _ (by show N≠N+1+1;omega),heap_setCell_other _ _ _ _ (by show N≠N+1;omega)]
    exact k0
  · rw [heap_setCell_other _ _ _ _ (by show N+1≠N+1+1;omega)]
    have hE:=heap_setCell_same w7 (N+1) 0 _ 147 v7 k1;simpa only [List.setIfInBounds_toArray,List.set_cons_zero,List.set_cons_succ] using hE
  · refine (km.set x _).congr (fun j _=>?_)
    rw [cntP_snoc]
    by_cases hj:j=x
    · subst hj
      rw [if_pos rfl,if_pos rfl];rfl
    · rw [if_neg hj,if_neg (by omega)]
      rfl
  · rw [List.length_append,List.map_append]
    refine own_off h7 (S:=fun b=>b=N+1∨b=N+1+1) (fun g hgg e=>?_) ((Off.set (S:=fun b=>b=N+1∨b=N+1+1) _ (.inl rfl)).trans (Off.set (S:=fun b=>b=N+1∨b=N+1+1) _ (.inr rfl)));have:=(h7.lt g hgg).1;omega
  · have h1:=((h.below.alloc (by omega) (.cells [.int .i64 (x:Int)].toArray 3)).grown hg (by simp;omega) (fun k hk=>by have:=(h.own.lt k hk).1;omega))
    exact (h1.setCell (by show N<=N+1;omega) _).setCell (by show N<=N+1+1;omega) _
theorem idx107 (c:Array Value) (j:Nat) (v:Value) (hj:j<32) (hc:c[j]?=some v) (w':World):(Instr.index 173 (.agg c) (.int .i64 (j:Int))).run Tryz.prog w'=.ok v w':=by
  have h1:(0:Int)<=(j:Int)/\(j:Int)<32:=by omega
  simp [Instr.index,go_sem,h1,hc];intro h;omega
structure PlJ (N:Nat) (w:World) (P:List Int) (G:List Gr) (v u:Value) (wr:World):Prop where
  r0:wr.heap[N]?=some (.cells #[.slice none 0 0,.slice none 0 0] 147 (0,0))
  p:wr.heap[N+1]?=some (.cells #[v,u] 147 (0,0))
  own:wr.ownsRow (N+1+1+1) 3 1 v P.length (P.map (.int .i64))
  ownG:wr.ownsRow (N+1+1+1) 160 4 u G.length (grs G)
  below:Below N w wr
theorem PlJ.later {N:Nat} {w:World} {P:List Int} {G:List Gr} {v u:Value} {wr w':World} (h:PlJ N w P G v u wr) (hN:N=w.heap.size) (hb:Below wr.heap.size wr w'):PlJ N w P G v u w':=
  ⟨(hb.block _ (hLt h.r0)).trans h.r0,(hb.block _ (hLt h.p)).trans h.p,own_bl h.own hb,own_bl h.ownG hb,h.below.trans (hb.mono (by have:=h.below.size;omega))⟩
theorem pj_next {w V w7:World} {N:Nat} {P:List Int} {G:List Gr} {g:Gr} {v u u7:Value} (h:PlJ N w P G v u V) (hNw:N=w.heap.size) (hN3:N+1+1+1<=V.heap.size) (h7:w7.ownsRow (N+1+1+1) 160 4 u7 (G.length+1) (grs G++g.cells)) (hg:V.grownBy w7 u.ownBlock) :
    PlJ N w P (G++[g]) v u7 (w7.setCell ⟨N+1,1,none⟩ u7)/\w7.cell? ⟨N+1,1,none⟩=some u/\∀ i,w7.frozen? ⟨N+1,i,none⟩=false:=by
  have blk:∀ {k:Nat} {cs:Array Value} {t:TypeId},V.heap[k]?=some (.cells cs t (0,0))->t≠160->w7.heap[k]?=some (.cells cs t (0,0)):=fun {k cs t} hk ht=>
    (hg.block _ (hLt hk) (fun e=>own_ty h.ownG hk ht e.symm)).trans hk
  have k0:=blk h.r0 (by decide);have k1:=blk h.p (by decide);have hbs:=h.below.size;refine ⟨⟨?_,?_,?_,?_,?_⟩,cell_of k1 1,fun i=>frozen_of k1 i⟩
  · rw [heap_setCell_other _ _ _ _ (by show N≠N+1;omega)]
    exact k0
  · have hE:=heap_setCell_same w7 (N+1) 1 _ 147 u7 k1
    simpa only [List.setIfInBounds_toArray,List.set_cons_zero,List.set_cons_succ] using hE
  · have o1:w7.ownsRow (N+1+1+1) 3 1 v P.length (P.map (.int .i64)):=own_off h.own (S:=fun b=>u.ownBlock=some b) (fun g hgg e=>hown_apart h.own h.ownG (by decide) g hgg e) ⟨hg.size,fun k hk hne=>hg.block k hk (fun e=>hne e.symm)⟩
    exact own_off o1 (S:=fun b=>b=N+1) (fun g hgg e=>by have:=(o1.lt g hgg).1;omega) (Off.set (S:=fun b=>b=N+1) _ rfl)
  · rw [List.length_append,grs_append,grs_one]
    exact own_off h7 (S:=fun b=>b=N+1) (fun g hgg e=>by have:=(h7.lt g hgg).1;omega) (Off.set (S:=fun b=>b=N+1) _ rfl)
  · exact (h.below.grown hg (by omega) (fun k hk=>by have:=(h.ownG.lt k hk).1;omega)).setCell (by show N<=N+1;omega) _
theorem src_gr {V:World} {b:Nat} {g:Gr} (h:V.heap[b]?=some (.cells #[.int .i64 g.lo,.int .i64 g.hi,.int .i64 (g.x:Int),.int .i64 g.n] 160 (0,0))):SrcAt V (.slice (some ⟨b,0,none⟩) 1 1) 1 4 g.cells:=by
  refine ⟨_,1,rfl,rfl,?_,(fun h=>by cases h),fun ad ha j y hj=>?_⟩
  · intro y hy
    simp only [Gr.cells,List.mem_cons,List.not_mem_nil,or_false] at hy
    rcases hy with rfl | rfl | rfl | rfl <;> rfl
  · injection ha with ha
    subst ha;rw [add_none,Nat.zero_add,cell_of h];simpa [Gr.cells] using hj
def zer32:Array Value:=#[.int .i64 0,.int .i64 0,.int .i64 0,.int .i64 0,.int .i64 0,.int .i64 0,.int .i64 0,.int .i64 0,.int .i64 0,.int .i64 0,.int .i64 0,.int .i64 0,.int .i64 0,.int .i64 0,.int .i64 0,.int .i64 0,.int .i64 0,.int .i64 0,.int .i64 0,.int .i64 0,.int .i64 0,.int .i64 0,.int .i64 0,.int .i64 0,.int .i64 0,.int .i64 0,.int .i64 0,.int .i64 0,.int .i64 0,.int .i64 0,.int .i64 0,.int .i64 0]
theorem zer32_row (w:World):(w.alloc (.cells zer32 173)).rowIs w.heap.size 173 32 (fun _=>.int .i64 0):=World.rowIs_alloc w zer32 173 _ (by
  have h:∀ i:Fin 32,zer32[i.val]?=some (.int .i64 0):=by
    intro i;have:zer32=(List.replicate 32 (Value.int .i64 0)).toArray:=by rfl
    rw [this,List.getElem?_toArray,List.getElem?_replicate,if_pos i.isLt]
  exact fun i hi=>h ⟨i,hi⟩)
theorem plP_next {n:Nat} {xs:List Int} {k:Nat} (hk:k<xs.length):plP n (xs.take (k+1))=plP n (xs.take k)++if isP n xs[k] then [xs[k]] else []:=fil_next hk
def PlOut (D:List Dm) (xs:List Int) (w:World) (e:Ending) (w':World):Prop:=∃ pv gv,e=.returned (.agg #[pv,gv])/\w'.ownsRow w.heap.size 3 1 pv (plP D.length xs).length ((plP D.length xs).map (.int .i64))/\w'.ownsRow w.heap.size 160 4 gv (grL D (plP D.length xs) 32).length (grs (grL D (plP D.length xs) 32))/\Below w.heap.size w w'
theorem places_any (xa:Option Addr) (xc:Nat) (xs:List Int) (B p:Nat) (nv mv:Value) (s:St) (w:World) (hX:IntsAt w (.slice xa xs.length xc) xs) (hxl:xs.length<=1000000) (hS:StAt B w p nv mv s) (hT:Tz w) (hs:0<w.heap.size):Calls Tryz.prog 108 #[.slice xa xs.length xc,.pointer (some ⟨p,0,none⟩)] w (PlOut s.now xs w):=by
  obtain ⟨W,hW⟩:∃ W,((w.alloc (.cells #[.slice none 0 0,.slice none 0 0] 147)).alloc (.cells #[.slice none 0 0,.slice none 0 0] 147)).alloc (.cells zer32 173)=W:=⟨_,rfl⟩;have hb0:Below w.heap.size w W:=by rw [<-hW];exact alloc3b w _ _ _
  have HI0:Hid (PlI w.heap.size w (plP s.now.length (xs.take 0)) (.slice none 0 0) W):=by
    refine ⟨?_,?_,?_,World.ownsRow_nil _ _ _ _,hb0⟩
    · rw [<-hW];exact alloc3_0 w _ _ _
    · rw [<-hW];exact alloc3_1 w _ _ _
    · rw [<-hW]
      have:=zer32_row ((w.alloc (.cells #[.slice none 0 0,.slice none 0 0] 147)).alloc (.cells #[.slice none 0 0,.slice none 0 0] 147));have this2:(((w.alloc (.cells #[.slice none 0 0,.slice none 0 0] 147)).alloc (.cells #[.slice none 0 0,.slice none 0 0] 147)).alloc (.cells zer32 173)).rowIs (w.heap.size+1+1) 173 32 (fun _=>.int .i64 0):=by simpa using this
      exact this2.congr (fun _ _=>rfl)
  have hn:=hS.n32;have HX:Hid (∀ w',Below w.heap.size w w'->∀ (k:Nat) (hk:k<xs.length),∃ b off,xa=some ⟨b,off,none⟩/\w'.cell? ⟨b,off+k,none⟩=some (.int .i64 xs[k])):=fun w' hb k hk=>by
    obtain ⟨a',c',e,_,hcl⟩:=hX;injection e with e1 _ _;subst e1;obtain ⟨b,off,e,hlt,hc⟩:=hcl (by omega);exact ⟨b,off,e,(hb.cell (p:=⟨b,_,none⟩) hlt).trans (hc k hk)⟩
  have HVr:Hid (∀ w',Below w.heap.size w w'->Calls Tryz.prog 28 #[.pointer (some ⟨p,0,none⟩)] w' fun e w2=>e=.returned (.int .i64 (s.now.length:Int))/\w2=w'):=fun w' hb=>vars_any B p nv mv s w' (hS.below hb)
  have HLo:Hid (∀ (x:Nat) w',x<s.now.length->Below w.heap.size w w'->Calls Tryz.prog 119 #[.pointer (some ⟨p,0,none⟩),.int .i64 (x:Int)] w' fun e w2=>e=.returned (.int .i64 (s.now.getD x ⟨0,0,0⟩).lo)/\Below w'.heap.size w' w2):=fun x w' hx hb=>by
    have:=lo_in B p nv mv s x hx w' (hS.below hb) (hT.below hb hs);rw [List.getD_eq_getElem?_getD,List.getElem?_eq_getElem hx];exact this
  have HHi:Hid (∀ (x:Nat) w',x<s.now.length->Below w.heap.size w w'->Calls Tryz.prog 120 #[.pointer (some ⟨p,0,none⟩),.int .i64 (x:Int)] w' fun e w2=>e=.returned (.int .i64 (s.now.getD x ⟨0,0,0⟩).hi)/\Below w'.heap.size w' w2):=fun x w' hx hb=>by
    have:=hi_in B p nv mv s x hx w' (hS.below hb);rw [List.getD_eq_getElem?_getD,List.getElem?_eq_getElem hx];exact this
  have HWe:Hid (((w.alloc (.cells #[.slice none 0 0,.slice none 0 0] 147)).alloc (.cells #[.slice none 0 0,.slice none 0 0] 147)).alloc (.cells zer32 173)=W):=hW;have HO:Hid (∀ pv gv w',w'.ownsRow w.heap.size 3 1 pv (plP s.now.length xs).length ((plP s.now.length xs).map (.int .i64))->w'.ownsRow w.heap.size 160 4 gv (grL s.now (plP s.now.length xs) 32).length (grs (grL s.now (plP s.now.length xs) 32))->Below w.heap.size w w'->PlOut s.now xs w (.returned (.agg #[pv,gv])) w'):=fun pv gv w' h1 h2 h3=>⟨pv,gv,rfl,h1,h2,h3⟩
  obtain ⟨D,hD⟩:∃ D,s.now=D:=⟨_,rfl⟩;rw [hD] at HI0 hn HVr HLo HHi HO ⊢;clear hX hS hT hW hb0 hD;go_enter Tryz.func108,Tryz.ntmps108;go_upto_region 3 with fail
  have hWe:=HWe.out;unfold zer32 at hWe;rw [hWe];clear hWe HWe;go_wp2_with fail
  go_loopw [13] (fun iv wr=>∃ (k:Nat) (v:Value),iv=.int .i64 (k:Int)/\k<=xs.length/\Hid (PlI w.heap.size w (plP D.length (xs.take k)) v wr)) (fun iv _=>xs.length-(intOf iv).toNat)
  case atStart=>exact ⟨0,_,rfl,Nat.zero_le _,HI0⟩
  case round=>
  obtain ⟨k,v,rfl,hk,HI⟩:=hrel
  by_cases hkn:k<xs.length
  case pos=>
    have hkI:(k:Int)<(xs.length:Int):=by omega
    obtain ⟨b,off,rfl,x0⟩:=HX.out wr HI.out.below k hkn;have HN:Hid (plP D.length (xs.take (k+1))=plP D.length (xs.take k)++if isP D.length xs[k] then [xs[k]] else []):=plP_next hkn;obtain ⟨x,hx⟩:∃ x,xs[k]=x:=⟨_,rfl⟩;rw [hx] at x0 HN;clear hx
    by_cases h0:0<=x
    case neg=>
      have hd0:decide (0<=x)=false:=by simp;omega
      have HN2:Hid (plP D.length (xs.take (k+1))=plP D.length (xs.take k)):=by show _=_;rw [HN.out];unfold isP;rw [hd0];simp
      go_wp2_with fail
      go_roundw
      case rel=>exact ⟨k+1,v,by go_num,hkn,(by show PlI _ _ _ _ _;rw [HN2.out];exact HI.out)⟩
      case measure=>simp [intOf];omega
    case pos=>
    obtain ⟨y,rfl⟩:∃ y:Nat,x=(y:Int):=⟨x.toNat,by omega⟩;have HV:=HVr.out wr HI.out.below;have HV2:Hid (Calls Tryz.prog 28 #[.pointer (some ⟨p,0,none⟩)] wr fun e w2=>e=.returned (.int .i64 (D.length:Int))/\w2=wr):=HV;clear HV
    by_cases h1:y<D.length
    case neg=>
      have hd1:¬ (y:Int)<(D.length:Int):=by omega
      have HN2:Hid (plP D.length (xs.take (k+1))=plP D.length (xs.take k)):=by show _=_;rw [HN.out];unfold isP;simp [h1]
      go_wp2_with (go_at_call 28;refine cA HV2.out ?_;rintro e w2 ⟨rfl,hw2⟩;rw [hw2];clear hw2);go_roundw
      case rel=>exact ⟨k+1,v,by go_num,hkn,(by show PlI _ _ _ _ _;rw [HN2.out];exact HI.out)⟩
      case measure=>simp [intOf];omega
    case pos=>
      have hd1:(y:Int)<(D.length:Int):=by omega
      have HN2:Hid (plP D.length (xs.take (k+1))=plP D.length (xs.take k)++[(y:Int)]):=by show _=_;rw [HN.out];unfold isP;simp [h1]
      have hfl:(plP D.length (xs.take k)).length<=1000000:=by
        have:=List.length_filter_le (isP D.length) (xs.take k);have:=List.length_take_le' k xs;unfold plP;omega
      obtain ⟨P,hP⟩:∃ P,plP D.length (xs.take k)=P:=⟨_,rfl⟩;rw [hP] at HI HN2 hfl;clear hP;have hcl:=cntP_le P y;obtain ⟨va,vp,rfl⟩:=own_slice HI.out.own;have c0:=cell_of HI.out.p 0;have HOne:Hid (∀ u∈([.int .i64 (y:Int)]:List Value),u.oneCell'=true):=by
        intro u hu;rw [List.mem_singleton.1 hu];rfl
      have Hs3:Hid (w.heap.size+1+1+1<=wr.heap.size):=by
        have:=HI.out.many.lt;show _<=_;omega
      have hy32:(y:Int)<32:=by omega
      have hy32n:y<32:=by omega
      go_upto_region 8 with (first | (go_at_call 28;refine cA HV2.out ?_;rintro e w2 ⟨rfl,hw2⟩;rw [hw2];clear hw2) | (at_builtin;refine append_els wr [.int .i64 (y:Int)] 1 rfl (by decide) rfl (.tmp 26) (.tmp 28) 27 3 (.int .i64 0) 8 rfl und28 info3 rfl (w.heap.size+1+1+1) _ _ _ (by rfl) HI.out.own HOne.out wr.heap.size rfl (by rfl) (by unfold maxLen;omega) (by omega) Hs3.out ?_;intro v7 w7 ho7 hg7 hn7;(obtain ⟨a7,c7,rfl⟩:=own_slice ho7);(obtain ⟨hN7,hc7,hz7,hc8,hz8⟩:=pl_next hy32n HI.out rfl ho7 hg7);(have HN7:Hid (PlI w.heap.size w (P++[(y:Int)]) (.slice a7 (P.length+1) c7) ((w7.setCell ⟨w.heap.size+1,0,none⟩ (.slice a7 (P.length+1) c7)).setCell ⟨w.heap.size+1+1,y,none⟩ (.int .i64 ((cntP P y:Int)+1)))):=hN7);clear hN7 ho7 hg7 hn7));generalize w7.setCell ⟨w.heap.size+1,0,none⟩ (.slice a7 (P.length+1) c7)=w8 at *
      go_wp2_with fail
      generalize w8.setCell ⟨w.heap.size+1+1,y,none⟩ (.int .i64 ((cntP P y:Int)+1))=w9 at *
      go_roundw
      case rel=>exact ⟨k+1,_,by go_num,hkn,(by show PlI _ _ _ _ _;rw [HN2.out];exact HN7.out)⟩
      case measure=>simp [intOf];omega
  case neg=>
  have hke:k=xs.length:=by omega
  subst hke;have hkI:¬ (xs.length:Int)<(xs.length:Int):=by omega
  rw [List.take_length] at HI;have hPl:(plP D.length xs).length<=1000000:=by
    have:=List.length_filter_le (isP D.length) xs;unfold plP;omega
  have HPv:Hid (∀ (x:Nat),0<cntP (plP D.length xs) x->x<D.length):=fun x hx=>by
    unfold cntP at hx;obtain ⟨y,hy,he⟩:=List.countP_pos_iff.1 hx;have hy2:=(List.mem_filter.1 hy).2;unfold isP at hy2;simp at hy2 he;omega
  obtain ⟨P,hP⟩:∃ P,plP D.length xs=P:=⟨_,rfl⟩;rw [hP] at HI HO hPl HPv;clear hP HX HVr HI0;obtain ⟨i0,i1,⟨c,hc,hcs,hcf⟩,io,ib⟩:=HI.out;have HC:Hid (wr.heap[w.heap.size+1+1]?=some (.cells c 173 (0,0))):=hc;have HIc:Hid ((Tryz.prog.info? 173).map (·.size)=some c.size):=by show _=_;rw [hcs];exact info107s
  have HIx:Hid (∀ (j:Nat),j<32->∀ w',(Instr.index 173 (.agg c) (.int .i64 (j:Int))).run Tryz.prog w'=.ok (.int .i64 (cntP P j:Int)) w'):=fun j hj w'=>idx107 c j _ hj (hcf j hj) w'
  obtain ⟨pa,pc,rfl⟩:=own_slice io;have HJ0:Hid (PlJ w.heap.size w P (grL D P 0) (.slice pa P.length pc) (.slice none 0 0) wr):=⟨i0,i1,io,World.ownsRow_nil _ _ _ _,ib⟩;have HJs:Hid (w.heap.size+1+1+1<=wr.heap.size):=(hLt hc);have HNx:Hid (∀ k,grL D P (k+1)=grL D P k++gr1 D P k):=fun _=>rfl
  have HGl:Hid (∀ k,(grL D P k).length<=k):=grL_len D P;clear hc hcs hcf i0 i1 io ib HI;go_upto_region 11 with (refine wpList_load_row rfl 173 _ rfl (w.heap.size+1+1) rfl 173 c (0,0) (.array 32 3) HC.out und107a rfl HIc.out ?_)
  try simp only [Act.put,q1,q2,q3]
  go_loopw [38] (fun iv wz=>∃ (k:Nat) (u:Value),iv=.int .i64 (k:Int)/\k<=32/\Hid (PlJ w.heap.size w P (grL D P k) (.slice pa P.length pc) u wz)/\Hid (wr.heap.size<=wz.heap.size)) (fun iv _=>32-(intOf iv).toNat)
  case atStart=>exact ⟨0,_,rfl,Nat.zero_le _,HJ0,Nat.le_refl _⟩
  case round=>
  obtain ⟨k,u,rfl,hk,HJ,HSz⟩:=hrel;rename World=>wz;obtain ⟨ua,uc,rfl⟩:=own_slice HJ.out.ownG;have c0:=cell_of HJ.out.p 0;have c1:=cell_of HJ.out.p 1
  by_cases hkn:k<32
  case neg=>
    have hke:k=32:=by omega
    subst hke;have r0:=HJ.out.r0;have s0:=cell_of r0 0;have s1:=cell_of r0 1;have sz:∀ i,wz.frozen? ⟨w.heap.size,i,none⟩=false:=fun i=>frozen_of r0 i
    have HR0:Hid (wz.heap[w.heap.size]?=some (.cells #[.slice none 0 0,.slice none 0 0] 147 (0,0))):=r0;clear r0;go_wp2_with fail
    refine bodyPost_ret (v:=.agg #[.slice pa P.length pc,.slice ua (grL D P 32).length uc]) (results_cell_row Tryz.results108 _ _ w.heap.size 147 #[.slice pa P.length pc,.slice ua (grL D P 32).length uc] (0,0) _ rfl (set2 HR0.out _ _) Tryz.underlying147 rfl info66s) rfl ?_;refine HO.out _ _ _ ?_ ?_ ?_
    · exact own_base2 (own_off HJ.out.own (S:=fun b=>b=w.heap.size) (fun g hg e=>by have:=(HJ.out.own.lt g hg).1;omega) ((Off.set (S:=fun b=>b=w.heap.size) _ rfl).trans (Off.set (S:=fun b=>b=w.heap.size) _ rfl))) (by omega)
    · exact own_base2 (own_off HJ.out.ownG (S:=fun b=>b=w.heap.size) (fun g hg e=>by have:=(HJ.out.ownG.lt g hg).1;omega) ((Off.set (S:=fun b=>b=w.heap.size) _ rfl).trans (Off.set (S:=fun b=>b=w.heap.size) _ rfl))) (by omega)
    · exact (HJ.out.below.setCell (Nat.le_refl _) _).setCell (Nat.le_refl _) _
  case pos=>
  have hkI:(k:Int)<32:=by omega
  have hix:=HIx.out k hkn;have HNk:=HNx.out k;have hgl:=HGl.out k
  by_cases hcn:0<cntP P k
  case neg=>
    have hc0:(cntP P k:Int)=0:=by omega
    have HN2:Hid (grL D P (k+1)=grL D P k):=by show _=_;rw [HNk];unfold gr1;rw [if_neg hcn,List.append_nil]
    rw [hc0] at hix;clear HNk hc0;go_wp2_with fail
    go_roundw
    case rel=>exact ⟨k+1,_,by go_num,hkn,(by show PlJ _ _ _ _ _ _ _;rw [HN2.out];exact HJ.out),HSz⟩
    case measure=>simp [intOf];omega
  case pos=>
    have HN2:Hid (grL D P (k+1)=grL D P k++[⟨(D.getD k ⟨0,0,0⟩).lo,(D.getD k ⟨0,0,0⟩).hi,k,(cntP P k:Int)⟩]):=by show _=_;rw [HNk];unfold gr1;rw [if_pos hcn]
    have hkD:=HPv.out k hcn;have hcI:0<(cntP P k:Int):=by omega
    have HL:=fun w'=>HLo.out k w' hkD
    have HH:=fun w'=>HHi.out k w' hkD
    obtain ⟨lo,hlo⟩:∃ lo,(D.getD k ⟨0,0,0⟩).lo=lo:=⟨_,rfl⟩;obtain ⟨hi,hhi⟩:∃ hi,(D.getD k ⟨0,0,0⟩).hi=hi:=⟨_,rfl⟩;obtain ⟨cn,hcnn⟩:∃ cn:Int,(cntP P k:Int)=cn:=⟨_,rfl⟩;rw [hlo] at HL HN2;rw [hhi] at HH HN2;rw [hcnn] at HN2 hix hcI;have HL2:Hid (∀ w',Below w.heap.size w w'->Calls Tryz.prog 119 #[.pointer (some ⟨p,0,none⟩),.int .i64 (k:Int)] w' fun e w2=>e=.returned (.int .i64 lo)/\Below w'.heap.size w' w2):=HL;have HH2:Hid (∀ w',Below w.heap.size w w'->Calls Tryz.prog 120 #[.pointer (some ⟨p,0,none⟩),.int .i64 (k:Int)] w' fun e w2=>e=.returned (.int .i64 hi)/\Below w'.heap.size w' w2):=HH;have HC2:Hid (∀ w',Below wz.heap.size wz w'->PlJ w.heap.size w P (grL D P k) (.slice pa P.length pc) (.slice ua (grL D P k).length uc) w'):=fun w' hb=>HJ.out.later rfl hb
    have HCc:Hid (∀ w',Below wz.heap.size wz w'->w'.cell? ⟨w.heap.size+1,1,none⟩=some (.slice ua (grL D P k).length uc)):=fun w' hb=>cell_of (HC2.out w' hb).p 1
    clear HL HH hlo hhi HNk hcn hcnn hkD;go_upto_region 14 with fail
    have HBd:Hid (Below wz.heap.size wz wz.drew):=(Below.refl _ _).drew;refine wp_region_T (fun _=>True) (fun w'=>w'.cell? ⟨w.heap.size+1,1,none⟩=some (.slice ua (grL D P k).length uc)) [13,14,15] (by kernel_rfl) ⟨trivial,HCc.out _ HBd.out⟩ (fun hHeld=>?_);generalize wz.drew=U at HBd hHeld ⊢
    refine tB (i:=0) (oi:=⟨some 44,.fieldAddr 147 (.tmp 5) 1,_,_,_,_⟩) (v:=?v_ac) ?hy_ac (by assumption) ?rest_ac
    case hy_ac=>(intro w hSw;(try dsimp only at hSw);go_simp;try (with_reducible rfl))
    try simp only [Act.put,q1,q2,q3]
    refine tA (i:=1) (oi:=⟨some 45,.load 145 (.tmp 44),_,_,_,_⟩) (v:=?v_ag) ?hy_ag (by assumption) ?rest_ag
    case hy_ag=>(intro w hSw;(try dsimp only at hSw);go_simp;try (with_reducible rfl))
    try simp only [Act.put,q1,q2,q3]
    refine tB (i:=2) (oi:=⟨some 46,.move (.tmp 1),_,_,_,_⟩) (v:=?v_af) ?hy_af (by assumption) ?rest_af
    case hy_af=>(intro w hSw;(try dsimp only at hSw);go_simp;try (with_reducible rfl))
    try simp only [Act.put,q1,q2,q3]
    refine tB (i:=3) (oi:=⟨some 47,.move (.tmp 9),_,_,_,_⟩) (v:=?v_aa) ?hy_aa (by assumption) ?rest_aa
    case hy_aa=>(intro w hSw;(try dsimp only at hSw);go_simp;try (with_reducible rfl))
    try simp only [Act.put,q1,q2,q3]
    refine tB (i:=5) (oi:=⟨some 49,.move (.tmp 1),_,_,_,_⟩) (v:=?v_ad) ?hy_ad (by assumption) ?rest_ad
    case hy_ad=>(intro w hSw;(try dsimp only at hSw);go_simp;try (with_reducible rfl))
    try simp only [Act.put,q1,q2,q3]
    refine tB (i:=6) (oi:=⟨some 50,.move (.tmp 9),_,_,_,_⟩) (v:=?v_ab) ?hy_ab (by assumption) ?rest_ab
    case hy_ab=>(intro w hSw;(try dsimp only at hSw);go_simp;try (with_reducible rfl))
    try simp only [Act.put,q1,q2,q3]
    refine tB (i:=9) (oi:=⟨some 53,.move (.tmp 9),_,_,_,_⟩) (v:=?v_ah) ?hy_ah (by assumption) ?rest_ah
    case hy_ah=>(intro w hSw;(try dsimp only at hSw);go_simp;try (with_reducible rfl))
    try simp only [Act.put,q1,q2,q3]
    refine tB (i:=10) (oi:=⟨some 54,.move (.tmp 10),_,_,_,_⟩) (v:=?v_ai) ?hy_ai (by assumption) ?rest_ai
    case hy_ai=>(intro w hSw;(try dsimp only at hSw);go_simp;try (with_reducible rfl))
    try simp only [Act.put,q1,q2,q3]
    refine wpAnyT_one (i:=4) (o:=⟨some 48,.call { callee:=.value (.func 119),args:=#[(.tmp 46),(.tmp 47)],argTypes:=#[32,3] },_,_,_,_⟩) (by kernel_rfl) rfl (fun K hK=>?_);go_simp;refine cA (HL2.out _ (HC2.out U HBd.out).below) ?_;rintro e w2 ⟨rfl,hb2⟩;go_wp2_with fail
    have HB2:Hid (Below wz.heap.size wz w2):=bl_next HBd.out hb2;clear hb2 hHeld;have hHeld:=(⟨trivial,HCc.out _ HB2.out⟩:True/\_);refine hK.out _ _ ⟨trivial,fun _=>hHeld.2⟩ ?_;clear hK K;refine wpAnyT_one (i:=7) (o:=⟨some 51,.call { callee:=.value (.func 120),args:=#[(.tmp 49),(.tmp 50)],argTypes:=#[32,3] },_,_,_,_⟩) (by kernel_rfl) rfl (fun K hK=>?_);go_simp;refine cA (HH2.out _ (HC2.out w2 HB2.out).below) ?_;rintro e w3 ⟨rfl,hb3⟩;go_wp2_with fail
    have HB3:Hid (Below wz.heap.size wz w3):=bl_next HB2.out hb3;clear hb3 hHeld;have hHeld:=(⟨trivial,HCc.out _ HB3.out⟩:True/\_);refine hK.out _ _ ⟨trivial,fun _=>hHeld.2⟩ ?_;clear hK K;refine tB (i:=8) (oi:=⟨some 52,.build 153 #[(0,(.tmp 48)),(1,(.tmp 51))],_,_,_,_⟩) (v:=?v_ae) ?hy_ae (by assumption) ?rest_ae
    case hy_ae=>(intro w hSw;(try dsimp only at hSw);go_simp;try (with_reducible rfl))
    try simp only [Act.put,q1,q2,q3]
    refine tB (i:=11) (oi:=⟨some 55,.build 160 #[(0,(.tmp 52)),(1,(.tmp 53)),(2,(.tmp 54))],_,_,_,_⟩) (v:=?v_ak) ?hy_ak (by assumption) ?rest_ak
    case hy_ak=>(intro w hSw;(try dsimp only at hSw);go_simp;try (with_reducible rfl))
    try simp only [Act.put,q1,q2,q3]
    refine wpAnyT_one (i:=12) (o:=⟨some 56,.buildSlice 145 1 #[(0,(.tmp 55))],_,_,_,_⟩) (by kernel_rfl) rfl (fun K hK=>?_);go_simp;obtain ⟨V,hV⟩:∃ V,w3.alloc (.cells #[.int .i64 lo,.int .i64 hi,.int .i64 (k:Int),.int .i64 cn] 160)=V:=⟨_,rfl⟩;have hbV:Below w3.heap.size w3 V:=bAe hV;have gV:V.heap[w3.heap.size]?=some (.cells #[.int .i64 lo,.int .i64 hi,.int .i64 (k:Int),.int .i64 cn] 160 (0,0)):=hAe hV;have HSV:Hid (SrcAt V (.slice (some ⟨w3.heap.size,0,none⟩) 1 1) 1 4 (Gr.cells ⟨lo,hi,k,cn⟩)):=src_gr (g:=⟨lo,hi,k,cn⟩) gV;have HBV:Hid (Below wz.heap.size wz V):=bl_next HB3.out hbV;try rw [hV]
    clear hV hbV gV hHeld;have hHeld:=(⟨trivial,HCc.out _ HBV.out⟩:True/\_);refine hK.out _ _ ⟨trivial,fun _=>hHeld.2⟩ ?_;clear hK K;try simp only [Act.put,q1,q2,q3]
    refine wpAnyT_late (i:=13) (o:=⟨some 57,.call { callee:=.builtin .append,args:=#[(.tmp 45),(.tmp 56)],argTypes:=#[145,145] },_,_,_,_⟩) (by kernel_rfl) rfl (by kernel_rfl) (fun K hK=>?_);refine op_append_src V (.tmp 45) (.tmp 56) 145 160 (.agg #[.int .i64 0,.int .i64 0,.int .i64 0,.int .i64 0]) 4 32 rfl und64 info79 rfl (by decide) (w.heap.size+1+1+1) _ _ (grL D P k).length 1 (grs (grL D P k)) (Gr.cells ⟨lo,hi,k,cn⟩) (by rfl) (by rfl) (HC2.out V HBV.out).ownG HSV.out (by unfold maxLen;omega) (by omega) (Nat.le_trans HJs.out (Nat.le_trans HSz.out HBV.out.size)) (by rfl) ?_;intro v4 w4 q1 q2 q3;obtain ⟨a4,c4,rfl⟩:=own_slice q1;obtain ⟨hN4,hc4,hz4⟩:=pj_next (HC2.out V HBV.out) rfl (Nat.le_trans HJs.out (Nat.le_trans HSz.out HBV.out.size)) q1 q2
    have HN4:Hid (PlJ w.heap.size w P (grL D P k++[⟨lo,hi,k,cn⟩]) (.slice pa P.length pc) (.slice a4 ((grL D P k).length+1) c4) (w4.setCell ⟨w.heap.size+1,1,none⟩ (.slice a4 ((grL D P k).length+1) c4))):=hN4;have HS4:Hid (wr.heap.size<=w4.heap.size):=Nat.le_trans HSz.out (Nat.le_trans HBV.out.size q2.size);clear q1 q2 q3 hN4 hHeld;refine hK.out _ _ trivial ?_;have hHeld:=(⟨trivial,hc4⟩:True/\_);clear hK K;try simp only [Act.put,q1,q2,q3]
    refine wpAnyT_late (i:=14) (o:=⟨some 58,.fieldAddr 147 (.tmp 5) 1,_,_,_,_⟩) (by kernel_rfl) rfl (by kernel_rfl) (fun K hK=>?_);go_simp;refine hK.out _ _ ?sh_al ?rest_al
    case sh_al=>((try dsimp only);all_goals trivial)
    clear hK K;try simp only [Act.put,q1,q2,q3]
    refine wpAnyT_late (i:=15) (o:=⟨none,.store 145 (.tmp 58) (.tmp 57),_,_,_,_⟩) (by kernel_rfl) rfl (by kernel_rfl) (fun K hK=>?_);go_simp;refine hK.out _ _ ?sh_aj ?rest_aj
    case sh_aj=>((try dsimp only);all_goals trivial)
    clear hK K;try simp only [Act.put,q1,q2,q3]
    refine wpAnyT_done (by kernel_rfl) ?_ _;go_wp2_with fail
    have HS5:Hid (wr.heap.size<=(w4.setCell ⟨w.heap.size+1,1,none⟩ (.slice a4 ((grL D P k).length+1) c4)).heap.size):=by
      show _<=_;simp;exact HS4.out
    generalize w4.setCell ⟨w.heap.size+1,1,none⟩ (.slice a4 ((grL D P k).length+1) c4)=w5 at *
    go_roundw
    case rel=>exact ⟨k+1,_,by go_num,hkn,(by show PlJ _ _ _ _ _ _ _;rw [HN2.out];exact HN4.out),HS5⟩
    case measure=>simp [intOf];omega
end Go.Proofs.YtjnckfchgcmmpaaGreatDoor
