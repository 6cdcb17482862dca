import Derived.Test.YtjgghimjnbjlbaaGreatDoorDiv64
import Derived.Maps.AppendAt
import Derived.Defers
namespace Go.Proofs.YtjgghimjnbjlbaaGreatDoor
open Go.RowKit
set_option maxRecDepth 10000
set_option maxHeartbeats 8000000
open Bn (yj)
theorem y6W {hi lo c q r s m:Nat} (hs:s=(lo+c) % 18446744073709551616) (hm:m=(lo+c) / 18446744073709551616) (hT:hi * 18446744073709551616+lo+c=q * 1000000000+r):(hi+m) * 18446744073709551616+s=q * 1000000000+r:=by
  rw [Nat.add_mul,<-hT];have h:=Nat.div_add_mod (lo+c) 18446744073709551616;rw [<-hs,<-hm,Nat.mul_comm] at h;rw [Nat.add_assoc,h,Nat.add_assoc]
def TallyAt (w:World) (base tb:Nat) (l:List Nat) (c:Nat):Prop:=
  ∃ v,w.cell? ⟨tb,0,none⟩=some v/\w.cell? ⟨tb,1,none⟩=some (.int .u64 (c:Int))/\w.frozen? ⟨tb,0,none⟩=false/\w.frozen? ⟨tb,1,none⟩=false /\
    w.ownsRow base 236 1 v l.length (zG l)/\v.ownBlock≠some tb/\tb<w.heap.size/\base<=tb
theorem y6X {P:Program} {ops:Array Oper} {rest:List Oper} {o:Oper} {a:Act} {Q:Exit->Act->World->Prop} (wr:World) (hgd:o.guard=none) (s x:Operand) (t:TypeId)
    (ho:o.op=.call { callee:=.builtin .append,args:=#[s,x],argTypes:=#[t,t] }) (base:Nat) (e:TypeId) (i:TypeInfo) (kd:IntKind) (bytes:Nat)
    (ht:P.underlying t=some (.slice e)) (hi:P.info? e=some i) (hz:i.zero=some (.int kd 0)) (hsize:i.size=1) (hby:i.bytes=bytes)
    (v:Value) (n:Nat) (xs:List Value) (hs:a.eval s=v) (hown:wr.ownsRow base e 1 v n xs) (c:Int) (bk:Nat) (hbk:wr.heap.size=bk) (hx:a.eval x=.slice (some ⟨bk,0,none⟩) 1 1)
    (hn:n<=1000000000) (hb8:bytes<=16) (hbase:base<=wr.heap.size)
    (h:∀ v' w',w'.ownsRow base e 1 v' (n+1) (xs++[.int kd c])->(wr.alloc (.cells #[.int kd c] e)).grownBy w' v.ownBlock->(v'.ownBlock=v.ownBlock∨v'.ownBlock=some (wr.heap.size+1))->wpList P ops Q rest (a.put o.dst v') w'):wpList P ops Q (o :: rest) a (wr.alloc (.cells #[.int kd c] e)):=by
  subst hbk;refine wpList_append_own_at _ hgd s x t ho base e i (.int kd 0) 1 bytes ht hi hz hsize hby rfl (by decide) v n xs hs (hown.alloc _) ⟨wr.heap.size,0,none⟩ 1 1 [.int kd c] hx rfl ?_ ?_ ?_ ?_ ?_ ?_
  · intro j u hj
    match j,hj with
    | 0,hj=>simp at hj;subst hj;simp [Addr.add]
  · intro u hu;simp at hu;subst hu;rfl
  · unfold maxLen;omega
  · have:(n+1) * bytes<=(n+1) * 16:=Nat.mul_le_mul_left _ hb8
    omega
  · simp;omega
  · intro v' w' h1 h2 _ h4
    exact h v' w' h1 h2 (by simpa using h4)
theorem y6Y {W w1:World} {tb:Nat} {v u:Value} {c:Int} {o:Obj} (hg:(W.alloc o).grownBy w1 v.ownBlock) (h1:W.cell? ⟨tb,0,none⟩=some u) (h2:W.cell? ⟨tb,1,none⟩=some (.int .u64 c))
    (h3:W.frozen? ⟨tb,0,none⟩=false) (h4:W.frozen? ⟨tb,1,none⟩=false) (htb:tb<W.heap.size) (hne:v.ownBlock≠some tb) :
    w1.cell? ⟨tb,0,none⟩=some u/\w1.cell? ⟨tb,1,none⟩=some (.int .u64 c)/\w1.frozen? ⟨tb,0,none⟩=false/\w1.frozen? ⟨tb,1,none⟩=false:=by
  have hb:w1.heap[tb]?=W.heap[tb]?:=(hg.block tb (by simp;omega) (fun e=>hne e.symm)).trans (Below.heap_alloc _ _ _ htb);exact ⟨(World.cell?_of_block (w:=W) (a:=⟨tb,0,none⟩) hb).trans h1,(World.cell?_of_block (w:=W) (a:=⟨tb,1,none⟩) hb).trans h2,(World.frozen?_of_block (w:=W) (a:=⟨tb,0,none⟩) hb).trans h3,(World.frozen?_of_block (w:=W) (a:=⟨tb,1,none⟩) hb).trans h4⟩
theorem y0q {w:World} {base:Nat} {e:TypeId} {size:Nat} {v:Value} {n:Nat} {xs:List Value} (h:w.ownsRow base e size v n xs) {a:Addr} (ha:v.ownBlock≠some a.block) (u:Value):(w.setCell a u).ownsRow base e size v n xs:=by
  obtain ⟨h1,h2⟩:=h;refine ⟨h1,?_⟩;rcases h2 with h2 | ⟨g,cap,cur,hv,hg,hh,r⟩
  · exact Or.inl h2
  · refine Or.inr ⟨g,cap,cur,hv,hg,?_,r⟩
    rw [Below.heap_setCell _ _ _ _ (fun e=>ha (by rw [hv,<-e];rfl))];exact hh
theorem y6Z {w1:World} {base tb:Nat} {l:List Nat} {r q c:Nat} {v u:Value} (_h:True) (hown:w1.ownsRow base 236 1 v (l.length+1) (zG l++[.int .u32 (r:Int)])) (k1:w1.cell? ⟨tb,0,none⟩=some u) (k2:w1.cell? ⟨tb,1,none⟩=some (.int .u64 (c:Int)))
    (k3:w1.frozen? ⟨tb,0,none⟩=false) (k4:w1.frozen? ⟨tb,1,none⟩=false) (hne:v.ownBlock≠some tb) (htb:tb<w1.heap.size) (hbt:base<=tb) :
    TallyAt ((w1.setCell ⟨tb,0,none⟩ v).setCell ⟨tb,1,none⟩ (.int .u64 (q:Int))) base tb (l++[r]) q:=by
  refine ⟨v,?_,?_,?_,?_,?_,hne,?_,hbt⟩
  · rw [World.cell?_setCell_other (h:=show (⟨tb,1,none⟩:Addr)≠⟨tb,0,none⟩ by simp)]
    exact World.cell?_setCell_same' _ _ _ (by rw [k1];rfl)
  · refine World.cell?_setCell_same' _ _ _ ?_
    rw [World.cell?_setCell_other (h:=show (⟨tb,0,none⟩:Addr)≠⟨tb,1,none⟩ by simp),k2];rfl
  · rw [World.frozen?_setCell,World.frozen?_setCell];exact k3
  · rw [World.frozen?_setCell,World.frozen?_setCell];exact k4
  · rw [Qp,List.length_append]
    exact y0q (y0q hown hne _) hne _
  · simp [World.setCell];exact htb
theorem y0r (base tb hi lo c q r:Nat) (l:List Nat) (w:World) (h:TallyAt w base tb l c) (hq:q<18446744073709551616) (hr:r<1000000000)
    (hT:hi * 18446744073709551616+lo+c=q * 1000000000+r) (hn:l.length<=100000000) :
    Calls Tryz.prog 271 #[.pointer (some ⟨tb,0,none⟩),.int .u64 (hi:Int),.int .u64 (lo:Int)] w fun e w'=>e=.returned (.tuple #[]) /\
      TallyAt w' base tb (l++[r]) q/\Below base w w':=by
  obtain ⟨i0,hi0,hz0,hz1,hz2⟩:=info_parts Tryz.info236;obtain ⟨v,h1,h2,h3,h4,hown,hne,htb,hbt⟩:=h;obtain ⟨a0,cp,hv⟩:=xK hown;obtain ⟨s,hs⟩:∃ s:Nat,s=(lo+c) % 18446744073709551616:=⟨_,rfl⟩;obtain ⟨m,hm⟩:∃ m:Nat,m=(lo+c) / 18446744073709551616:=⟨_,rfl⟩;have hadd:∀ w,(callFunc 272 #[.int .u64 (lo:Int),.int .u64 (c:Int),.int .u64 0]).run Tryz.prog w=.ok (.value (.tuple #[.int .u64 (s:Int),.int .u64 (m:Int)])) w:=by
    have e1:((lo:Int)+(c:Int)) % 18446744073709551616=(s:Int):=by omega
    have e2:((lo:Int)+(c:Int)) / 18446744073709551616=(m:Int):=by omega
    intro w;have h:=y2F (lo:Int) (c:Int) (Int.natCast_nonneg lo) (Int.natCast_nonneg c) w;simp only [e1,e2] at h;exact h
  have hsb:s<18446744073709551616:=by omega
  have hmb:hi+m<1000000000:=by omega
  have hE:(hi+m) * 18446744073709551616+s=q * 1000000000+r:=y6W hs hm hT;have HE:Hid _:=hE;clear hE hs hm hT;subst hv;go_enter Tryz.func271,Tryz.ntmps271;go_wp2_with fail
  rw [show (hi:Int)+(m:Int)=((hi+m:Nat):Int) from by omega];refine (y2R (hi+m) s q r _ hsb hmb HE.out hr).mono ?_;rintro e w' ⟨rfl,nq,rfl⟩;have hown':(w.drewN nq).ownsRow base 236 1 (.slice a0 l.length cp) l.length (zG l):=hown;have hqI:(q:Int)<=18446744073709551615:=by omega
  clear hadd hsb hmb HE hown;go_wp2_with (at_builtin;refine y6X (w.drewN nq) rfl _ _ 285 rfl base 236 i0 .u32 4 Tryz.underlying285 hi0 hz0 hz1 hz2 _ _ _ (by rfl) hown' _ _ rfl (by rfl) (by omega) (by decide) (by show base<=w.heap.size;omega) ?_;intro v' w1 hown1 hgrow hat;obtain ⟨k1,k2,k3,k4⟩:=y6Y (W:=w.drewN nq) hgrow h1 h2 h3 h4 htb hne;obtain ⟨a1,cp1,hv1⟩:=xK hown1;subst hv1);go_end0;refine ⟨rfl,y6Z (by decide) hown1 k1 k2 k3 k4 ?_ (Nat.lt_of_lt_of_le htb (by have:=hgrow.size;simp at this;omega)) hbt,?_⟩
  · rcases hat with e | e
    · rw [e];exact hne
    · rw [e];intro e;injection e with e;have:(w.drewN nq).heap.size=w.heap.size:=rfl;omega
  · have hB1:Below base w ((w.drewN nq).alloc (.cells #[.int .u32 (r:Int)] 236)):=(below_drewN (Below.refl _ _) nq).alloc (by show base<=w.heap.size;omega) _
    exact ((hB1.grown hgrow (by simp;show base<=w.heap.size+1;omega) (fun g hg=>(hown'.lt g hg).1)).setCell hbt _).setCell hbt _
theorem TallyAt.row {w:World} {base tb:Nat} {l:List Nat} {c:Nat} (h:TallyAt w base tb l c):∃ a cp,w.cell? ⟨tb,0,none⟩=some (.slice a l.length cp)/\w.cell? ⟨tb,1,none⟩=some (.int .u64 (c:Int))/\U32At w (.slice a l.length cp) l/\(∀ k,(Value.slice a l.length cp).ownBlock=some k->base<=k):=by
  obtain ⟨v,h1,h2,_,_,hown,_⟩:=h;have hlt:∀ k,v.ownBlock=some k->base<=k:=fun k hk=>(hown.lt k hk).1
  have hU:=U32At.of_owns hown;obtain ⟨a0,cp,hv⟩:=xK hown;rw [hv] at h1 hU hlt;exact ⟨a0,cp,h1,h2,hU,hlt⟩
theorem TallyAt.setCell_low {w:World} {base tb:Nat} {l:List Nat} {c:Nat} (h:TallyAt w base tb l c) {p:Addr} (hp:p.block<base) (u:Value):TallyAt (w.setCell p u) base tb l c:=by
  obtain ⟨v,h1,h2,h3,h4,hown,hne,htb,hbt⟩:=h;have hb:(w.setCell p u).heap[tb]?=w.heap[tb]?:=Below.heap_setCell w p u tb (by omega)
  exact ⟨v,(World.cell?_of_block (w:=w) (a:=⟨tb,0,none⟩) hb).trans h1,(World.cell?_of_block (w:=w) (a:=⟨tb,1,none⟩) hb).trans h2,(World.frozen?_of_block (w:=w) (a:=⟨tb,0,none⟩) hb).trans h3,(World.frozen?_of_block (w:=w) (a:=⟨tb,1,none⟩) hb).trans h4,
    ownsRow_setCell_below hown hp u,hne,by simp [World.setCell];exact htb,hbt⟩
theorem y70 (base tb rb c:Nat) (l:List Nat) (u:Value) (m:FrameMode) (w:World) (h:TallyAt w base tb l c) (hc:c<18446744073709551616) (hn:l.length<=90000000) (hl:∀ d∈l,d<1000000000)
    (hrb:rb<base) (hru:w.cell? ⟨rb,0,none⟩=some u) (hrf:w.frozen? ⟨rb,0,none⟩=false) :
    CallsD Tryz.prog 270 #[.pointer (some ⟨tb,0,none⟩),.pointer (some ⟨rb,0,none⟩)] m w fun e m' w'=>m'=m/\(e=.returned (.tuple #[]) /\
      ∃ v,w'.cell? ⟨rb,0,none⟩=some v/\U32At w' v (trim (l++yj c))/\Below rb w w'/\(∀ k,v.ownBlock=some k->base<=k)):=by
  have hlc:(yj c).length<=3:=by
    rw [Bn.limbs_length_le];have:(1000000000:Nat) ^ 3=1000000000000000000000000000:=by decide
    omega
  go_enter_d Tryz.func270,Tryz.ntmps270;go_wp2;go_loopw [4] (fun _ wr=>∃ (l':List Nat) (c':Nat),TallyAt wr base tb l' c'/\Hid (l'++yj c'=l++yj c)/\c'<18446744073709551616/\Below base w wr) (fun _ wr=>match wr.cell? ⟨tb,1,none⟩ with | some x=>(intOf x).toNat | none=>0)
  case atStart=>exact ⟨l,c,h,rfl,hc,Below.refl _ _⟩
  case round=>
    clear h hc;obtain ⟨l',c',hT,hH,hc',hbel⟩:=hrel;obtain ⟨a0,cp,k1,k2,hU,hbk⟩:=hT.row;have hln:l'.length<=100000000:=by have:=congrArg List.length hH.out;simp only [List.length_append] at this;omega
    have hM:(match wr.cell? ⟨tb,1,none⟩ with | some x=>(intOf x).toNat | none=>0)=c':=by rw [k2];simp [intOf]
    have HM:Hid _:=hM;clear hM
    by_cases h0:c'=0
    · subst h0
      have hE:l'=l++yj c:=by have:=hH.out;rw [Bn.limbs_zero,List.append_nil] at this;exact this
      have hlt:∀ d∈l',d<4294967296:=by
        intro d hd;rw [hE] at hd;rcases List.mem_append.1 hd with h | h
        · have:=hl d h;omega
        · have:=Bn.limbs_lt' h;omega
      have hru':wr.cell? ⟨rb,0,none⟩=some u:=(hbel.cell (p:=⟨rb,0,none⟩) hrb).trans hru;have hrf':wr.frozen? ⟨rb,0,none⟩=false:=(hbel.frozen (p:=⟨rb,0,none⟩) hrb).trans hrf;have HE:Hid _:=hE;have HL:Hid _:=hlt;clear hE hlt hl hlc hln hH hru hrf;go_wp2_with (go_at_call 252;refine (Qr l' _ _ hU HL.out).mono ?_;rintro e w' ⟨v',rfl,hU',rfl,hob⟩;obtain ⟨a1,cp1,hv1,_⟩:=hU'.form;subst hv1);go_end0;have hB2:Below rb w w':=hbel.mono (Nat.le_of_lt hrb);refine ⟨rfl,_,World.cell?_setCell_same' _ _ _ (by rw [hru'];rfl),?_,hB2.setCell (p:=⟨rb,0,none⟩) (Nat.le_refl _) _,fun k hk=>hbk k (by rw [<-hob];exact hk)⟩;rw [<-HE.out];refine hU'.setCell (fun e=>?_) _;have:=hbk rb (by rw [<-hob];exact e);omega
    · have hp:0<(c':Int):=by omega
      go_wp2_with (go_at_call 271;refine (y0r base tb 0 0 c' (c' / 1000000000) (c' % 1000000000) l' _ hT (by omega) (by omega) (by omega) hln).mono ?_;rintro e w' ⟨rfl,hT',hb'⟩);go_roundw
      case rel=>exact ⟨_,_,hT',by show _=_;rw [<-hH.out,Bn.limbs_pos (m:=c') (by omega),List.append_assoc];rfl,by omega,hbel.trans hb'⟩
      case measure=>
        obtain ⟨_,_,_,k2',_⟩:=hT'.row;rw [k2',HM.out];simp [intOf];omega
theorem y71 (K:Nat) (caps:Array Value) (room c:Nat) (L:List Nat) (w:World) (hroom:room<=100000000) (hc:c<18446744073709551616) (hn:L.length<=90000000) (hl:∀ d∈L,d<1000000000)
    (hK:∀ (args:Array Value) (w:World),(callFunc K args).run Tryz.prog w=.ok (.enter K args) w)
    (hw:∀ (W:World) (base tb:Nat),Below w.heap.size w W->w.heap.size<=base->TallyAt W base tb [] 0->Calls Tryz.prog K (#[.func (.func 271) #[.pointer (some ⟨tb,0,none⟩)] #[]]++caps) W fun e W'=>e=.returned (.tuple #[])/\TallyAt W' base tb L c/\Below base W W') :
    Calls Tryz.prog 266 #[.int .i64 (room:Int),.func (.func K) #[] caps] w fun e w'=>∃ v,e=.returned v/\U32At w' v (trim (L++yj c))/\Below w.heap.size w w'/\(∀ k,v.ownBlock=some k->w.heap.size<=k):=by
  obtain ⟨i0,hi0,hz0,hz1,hz2⟩:=info_parts Tryz.info236;have hmf:∀ (fn:Fn) (first cap:Array Value) (w:World),(Instr.makeFunc fn first cap).run Tryz.prog w=.ok (.func fn first cap) w:=fun _ _ _ _=>rfl
  obtain ⟨w0,hrun,hown0,hg0⟩:=run_make_own (P:=Tryz.prog) (w.alloc (.cells #[.slice none 0 0] 285)) (w.heap.size+1) 285 236 i0 (.int .u32 0) 1 Tryz.underlying285 hi0 hz0 hz1 .i64 .i64 room (by rw [hz2];omega) (by unfold maxLen;omega) (by simp);have hNs:(w.alloc (.cells #[.slice none 0 0] 285)).heap.size=w.heap.size+1:=by simp
  rw [hNs] at hrun hown0;have hlt0:=(hown0.lt (w.heap.size+1) rfl).2;have hB0:Below w.heap.size w w0:=((Below.refl _ _).alloc (Nat.le_refl _) _).grown hg0 (by simp) (fun k hk=>by cases hk);have hB1:Below w.heap.size w (w0.alloc (.cells #[.slice (some ⟨w.heap.size+1,0,none⟩) 0 room,.int .u64 0] 317)):=hB0.alloc (by omega) _;have hT0:TallyAt (w0.alloc (.cells #[.slice (some ⟨w.heap.size+1,0,none⟩) 0 room,.int .u64 0] 317)) (w.heap.size+1) w0.heap.size [] 0:=
    ⟨.slice (some ⟨w.heap.size+1,0,none⟩) 0 room,by simp,by simp,by simp,by simp,hown0.alloc _,fun e=>by simp only [Value.ownBlock,Option.some.injEq] at e;omega,by simp,by omega⟩
  have hcN:(w0.alloc (.cells #[.slice (some ⟨w.heap.size+1,0,none⟩) 0 room,.int .u64 0] 317)).cell? ⟨w.heap.size,0,none⟩=some (.slice none 0 0):=by
    rw [World.cell?_alloc_past _ _ _ (by omega),World.cell?_of_block (w:=w.alloc (.cells #[.slice none 0 0] 285)) (a:=⟨w.heap.size,0,none⟩) (hg0.block w.heap.size (by simp) (fun e=>by cases e))];simp
  have hfN:(w0.alloc (.cells #[.slice (some ⟨w.heap.size+1,0,none⟩) 0 room,.int .u64 0] 317)).frozen? ⟨w.heap.size,0,none⟩=false:=by
    rw [World.frozen?_alloc_past _ _ _ (by omega),World.frozen?_of_block (w:=w.alloc (.cells #[.slice none 0 0] 285)) (a:=⟨w.heap.size,0,none⟩) (hg0.block w.heap.size (by simp) (fun e=>by cases e))];simp
  have HX:Hid (Calls Tryz.prog K (#[.func (.func 271) #[.pointer (some ⟨w0.heap.size,0,none⟩)] #[]]++caps) (w0.alloc (.cells #[.slice (some ⟨w.heap.size+1,0,none⟩) 0 room,.int .u64 0] 317)) fun e W'=>e=.returned (.tuple #[])/\TallyAt W' (w.heap.size+1) w0.heap.size L c/\Below (w.heap.size+1) (w0.alloc (.cells #[.slice (some ⟨w.heap.size+1,0,none⟩) 0 room,.int .u64 0] 317)) W'):=hw _ _ _ hB1 (Nat.le_succ _) hT0;clear hw hT0 hown0 hg0 hlt0 hB0 hNs;go_enter_defers Tryz.func266,Tryz.ntmps266;go_wp2_with fail
  refine HX.out.mono ?_;generalize w0.alloc (.cells #[.slice (some ⟨w.heap.size+1,0,none⟩) 0 room,.int .u64 0] 317)=W0 at *
  generalize w0.heap.size=tb at *
  clear HX;rintro e W1 ⟨rfl,hT1,hb1⟩;have d0:W1.cell? ⟨w.heap.size,0,none⟩=some (.slice none 0 0):=(hb1.cell (p:=⟨w.heap.size,0,none⟩) (Nat.lt_succ_self _)).trans hcN;have d1:W1.frozen? ⟨w.heap.size,0,none⟩=false:=(hb1.frozen (p:=⟨w.heap.size,0,none⟩) (Nat.lt_succ_self _)).trans hfN;go_wp2;refine leaves_cons (f:=270) (args:=#[.pointer (some ⟨tb,0,none⟩),.pointer (some ⟨w.heap.size,0,none⟩)]) (by simp) (by simp [go_sem]) ?_;refine (y70 (w.heap.size+1) tb w.heap.size c L (.slice none 0 0) .returning _ (hT1.setCell_low (p:=⟨w.heap.size,0,none⟩) (Nat.lt_succ_self _) _) hc hn hl (Nat.lt_succ_self _) (World.cell?_setCell_same' _ _ _ (by rw [d0];rfl)) (by rw [World.frozen?_setCell];exact d1)).mono ?_;rintro e u' w2 ⟨rfl,rfl,v,hv,hU,hb2,hfr⟩
  have hfin:Below w.heap.size w w2:=((hB1.trans (hb1.mono (Nat.le_succ _))).setCell (p:=⟨w.heap.size,0,none⟩) (Nat.le_refl _) _).trans hb2;obtain ⟨a,cp,hvf,_⟩:=hU.form;refine ⟨v,?_,v,rfl,hU,hfin,fun k hk=>Nat.le_of_succ_le (hfr k hk)⟩;rw [hvf] at hv ⊢;simp [results,Tryz.results266,go_sem,hv]
theorem y72 {f : FuncId} {fn : Func} {c : Code} (hf : Tryz.prog.funcs[f]? = some fn) (hname : (fn.name == "runtime.NumGoroutine") = false) (hb : fn.body = some c) (args : Array Value) (w : World) :
    (callFunc f args).run Tryz.prog w=.ok (.enter f args) w:=by
  have h1 : fn.name ≠ "runtime.NumGoroutine" := by simpa using hname
  simp [callFunc,hf,h1,hb]
theorem y73 (args:Array Value) (w:World):(callFunc 267 args).run Tryz.prog w=.ok (.enter 267 args) w:=y72 Tryz.func267 (by kernel_rfl) rfl args w
theorem y74 (n nb base tb:Nat) (W:World) (hn:n<18446744073709551616) (hc:W.cell? ⟨nb,0,none⟩=some (.int .u64 (n:Int))) (hT:TallyAt W base tb [] 0) :
    Calls Tryz.prog 267 (#[.func (.func 271) #[.pointer (some ⟨tb,0,none⟩)] #[]]++#[.pointer (some ⟨nb,0,none⟩)]) W fun e W'=>e=.returned (.tuple #[])/\TallyAt W' base tb [n % 1000000000] (n / 1000000000)/\Below base W W':=by
  go_enter Tryz.func267,Tryz.ntmps267;go_wp2_with (go_at_call 271;refine (y0r base tb 0 n 0 (n / 1000000000) (n % 1000000000) [] _ hT (by omega) (by omega) (by omega) (by simp)).mono ?_;rintro e w' ⟨rfl,hT',hb'⟩);go_end0;exact ⟨rfl,hT',hb'⟩
theorem y0k (n:Nat) (w:World) (hn:n<18446744073709551616) :
    Calls Tryz.prog 259 #[.int .u64 (n:Int)] w fun e w'=>∃ v,e=.returned v/\U32At w' v (yj n)/\Below w.heap.size w w'/\(∀ k,v.ownBlock=some k->w.heap.size<=k):=by
  have hmf:∀ (fn:Fn) (first cap:Array Value) (w:World),(Instr.makeFunc fn first cap).run Tryz.prog w=.ok (.func fn first cap) w:=fun _ _ _ _=>rfl
  have hE:trim ([n % 1000000000]++yj (n / 1000000000))=yj n:=by
    rw [Qq _ (by
      intro d hd;rcases List.mem_append.1 hd with h | h
      · simp at h;omega
      · exact Bn.limbs_lt' h)]
    congr 1
    simp only [List.cons_append,List.nil_append,Bn.val,Bn.val_limbs'];omega
  have hC:=y71 267 #[.pointer (some ⟨w.heap.size,0,none⟩)] 3 (n / 1000000000) [n % 1000000000] (w.alloc (.cells #[.int .u64 (n:Int)] 289)) (by omega) (by omega) (by simp) (by simp;omega) y73
    (fun W base tb hB hb hT=>y74 n w.heap.size base tb W hn ((hB.cell (p:=⟨w.heap.size,0,none⟩) (by simp)).trans (by simp)) hT)
  rw [hE] at hC;have hb0:Below w.heap.size w (w.alloc (.cells #[.int .u64 (n:Int)] 289)):=(Below.refl _ _).alloc (Nat.le_refl _) _;have HC:Hid (Calls Tryz.prog 266 #[.int .i64 3,.func (.func 267) #[] #[.pointer (some ⟨w.heap.size,0,none⟩)]] (w.alloc (.cells #[.int .u64 (n:Int)] 289)) fun e w'=>∃ v,e=.returned v/\U32At w' v (yj n)/\Below (w.alloc (.cells #[.int .u64 (n:Int)] 289)).heap.size (w.alloc (.cells #[.int .u64 (n:Int)] 289)) w'/\(∀ k,v.ownBlock=some k->(w.alloc (.cells #[.int .u64 (n:Int)] 289)).heap.size<=k)):=hC;clear hC hE;go_enter Tryz.func259,Tryz.ntmps259;go_wp2_with (go_at_call 266;refine HC.out.mono ?_;rintro e w' ⟨v,rfl,hU,hb,hfr⟩);go_ret;exact ⟨_,rfl,hU,hb0.trans (hb.mono (by simp)),fun k hk=>by have:=hfr k hk;simp at this;omega⟩
end Go.Proofs.YtjgghimjnbjlbaaGreatDoor
