import Derived.Test.YtpcijhecaedkpaaGreatDoorJ41
import Derived.Test.YtpcijhecaedkpaaGreatDoorJ36
import Derived.Test.YtpcijhecaedkpaaGreatDoorPfOpn
import Derived.Test.YtpcijhecaedkpaaGreatDoorJ43
namespace Go.Proofs.YtpcijhecaedkpaaGreatDoor
open Go.RowKit
def I6 (a:Int):Prop:=-9223372036854775808<=a/\a<=9223372036854775807
structure Wc (S:Lab) (w w':World):Prop where
  os:w'.os=w.os
  tape:w'.tape=w.tape
  output:w'.output=w.output
  size:w.heap.size<=w'.heap.size
  block:∀ k,k<w.heap.size->(S k<2000000∨6000000<=S k)->w'.heap[k]?=w.heap[k]?
  far:∀ k f n,k<w.heap.size->S k=lb f n->n<=1000000->∀ j,n<=j->w'.cell? ⟨k,j,none⟩=w.cell? ⟨k,j,none⟩
  ints:∀ k n,k<w.heap.size->S k=lb 0 n->n<=1000000->∀ (j:Nat) (a:Int),j<n->w.cell? ⟨k,j,none⟩=some (.int .i64 a)->I6 a->∃ a',w'.cell? ⟨k,j,none⟩=some (.int .i64 a')/\I6 a'
  txts:∀ k n,k<w.heap.size->S k=lb 1 n->n<=1000000->∀ (j:Nat) (x:List UInt8),j<n->w.cell? ⟨k,j,none⟩=some (.string (txtOf x))->∃ x',w'.cell? ⟨k,j,none⟩=some (.string (txtOf x'))/\x'.length<=x.length+1
  form:∀ k,k<w.heap.size->(∃ cur t,w.heap[k]?=some (.cells cur t (0,0)))->∃ cur t,w'.heap[k]?=some (.cells cur t (0,0))
theorem Wc.refl (S:Lab) (w:World):Wc S w w:=
  ⟨rfl,rfl,rfl,Nat.le_refl _,fun _ _ _=>rfl,fun _ _ _ _ _ _ _ _=>rfl,fun _ _ _ _ _ _ a _ h hi=>⟨a,h,hi⟩,fun _ _ _ _ _ _ x _ h=>⟨x,h,Nat.le_succ _⟩,fun _ _ h=>h⟩
theorem Wc.next {S:Lab} {w w1 w2:World} (h:Wc S w w1) (hb:Below w1.heap.size w1 w2):Wc S w w2:=by
  have hl:∀ k,k<w.heap.size->k<w1.heap.size:=fun k hk=>Nat.lt_of_lt_of_le hk h.size
  have hc:∀ k j,k<w.heap.size->w2.cell? ⟨k,j,none⟩=w1.cell? ⟨k,j,none⟩:=fun k j hk=>hb.cell (p:=⟨k,j,none⟩) (hl k hk)
  refine ⟨hb.os.trans h.os,hb.tape.trans h.tape,hb.output.trans h.output,Nat.le_trans h.size hb.size,fun k hk hs=>(hb.block k (hl k hk)).trans (h.block k hk hs),fun k f n hk hs hn j hj=>(hc k j hk).trans (h.far k f n hk hs hn j hj),fun k n hk hs hn j a hj ha hi=>?_,fun k n hk hs hn j x hj hx=>?_,fun k hk hf=>?_⟩
  · rw [hc k j hk];exact h.ints k n hk hs hn j a hj ha hi
  · rw [hc k j hk];exact h.txts k n hk hs hn j x hj hx
  · rw [hb.block k (hl k hk)];exact h.form k hk hf
theorem Wc.drew {S:Lab} {w w1:World} (h:Wc S w w1):Wc S w w1.drew:=h.next (Below.refl _ _).drew
theorem Wc.below {S:Lab} {w w':World} {base:Nat} (h:Wc S w w') (hb:base<=w.heap.size) (h0:∀ k,k<base->S k=0):Below base w w':=
  ⟨h.os,h.tape,h.output,h.size,fun i hi=>h.block i (Nat.lt_of_lt_of_le hi hb) (.inl (by rw [h0 i hi];decide))⟩
theorem cell_set {w:World} {k j:Nat} {cur:Array Value} {t:TypeId} (h:w.heap[k]?=some (.cells cur t (0,0))) (u:Value) (k' j':Nat):(w.setCell ⟨k,j,none⟩ u).cell? ⟨k',j',none⟩=if k'=k/\j'=j/\j<cur.size then some u else w.cell? ⟨k',j',none⟩:=by
  by_cases hk:k'=k
  · subst hk
    have h1:=set_of h j u;have e1:(w.setCell ⟨k',j,none⟩ u).cell? ⟨k',j',none⟩=(cur.setIfInBounds j u)[j']?:=by simp [World.cell?,h1]
    have e2:w.cell? ⟨k',j',none⟩=cur[j']?:=by simp [World.cell?,h]
    rw [e1,e2,Array.getElem?_setIfInBounds]
    by_cases hj:j=j'
    · subst hj
      by_cases hs:j<cur.size
      · simp [hs]
      · simp [hs]
    · have hj':¬ j'=j:=fun e=>hj e.symm
      simp [hj,hj']
  · rw [if_neg (fun e=>hk e.1)]
    exact World.cell?_of_block (a:=⟨k',j',none⟩) (Below.heap_setCell w ⟨k,j,none⟩ u k' hk)
theorem lb_inj {f n f' n':Nat} (h:lb f n=lb f' n') (h1:n<=1000000) (h2:n'<=1000000):f=f'/\n=n':=by unfold lb at h;omega
theorem Wc.setI {S:Lab} {w w1:World} (h:Wc S w w1) {k0 n0 j0:Nat} (hk:k0<w.heap.size) (hS:S k0=lb 0 n0) (hn0:n0<=1000000) (hj0:j0<n0) (a0:Int) (ha0:I6 a0) (hf:∃ cur t,w1.heap[k0]?=some (.cells cur t (0,0))):Wc S w (w1.setCell ⟨k0,j0,none⟩ (.int .i64 a0)):=by
  obtain ⟨cur,t,hc⟩:=hf;have cs:=fun k' j'=>cell_set hc (j:=j0) (.int .i64 a0) k' j'
  have hb:∀ k,k≠k0->(w1.setCell ⟨k0,j0,none⟩ (.int .i64 a0)).heap[k]?=w1.heap[k]?:=fun k hk=>Below.heap_setCell w1 ⟨k0,j0,none⟩ _ k hk
  refine ⟨h.os,h.tape,h.output,by simpa [World.setCell] using h.size,fun k hk' hs=>?_,fun k f n hk' hs hn j hj=>?_,fun k n hk' hs hn j a hj ha hi=>?_,fun k n hk' hs hn j x hj hx=>?_,fun k hk' hf'=>?_⟩
  · rw [hb k (fun e=>by subst e;rw [hS] at hs;unfold lb at hs;omega)];exact h.block k hk' hs
  · rw [cs k j,if_neg (fun e=>by obtain ⟨rfl,rfl,_⟩:=e;have:=(lb_inj (hs.symm.trans hS) hn hn0).2;omega)];exact h.far k f n hk' hs hn j hj
  · rw [cs k j]
    split
    · exact ⟨a0,rfl,ha0⟩
    · exact h.ints k n hk' hs hn j a hj ha hi
  · rw [cs k j,if_neg (fun e=>by obtain ⟨rfl,rfl,_⟩:=e;have:=(lb_inj (hs.symm.trans hS) hn hn0).1;omega)];exact h.txts k n hk' hs hn j x hj hx
  · by_cases e:k=k0
    · subst e;exact ⟨_,_,set_of hc j0 _⟩
    · rw [hb k e];exact h.form k hk' hf'
theorem Wc.setT {S:Lab} {w w1:World} (h:Wc S w w1) {k0 n0 j0:Nat} (hk:k0<w.heap.size) (hS:S k0=lb 1 n0) (hn0:n0<=1000000) (hj0:j0<n0) (x0:List UInt8) (hx0:x0.length<=1) (hf:∃ cur t,w1.heap[k0]?=some (.cells cur t (0,0))):Wc S w (w1.setCell ⟨k0,j0,none⟩ (.string (txtOf x0))):=by
  obtain ⟨cur,t,hc⟩:=hf;have cs:=fun k' j'=>cell_set hc (j:=j0) (.string (txtOf x0)) k' j'
  have hb:∀ k,k≠k0->(w1.setCell ⟨k0,j0,none⟩ (.string (txtOf x0))).heap[k]?=w1.heap[k]?:=fun k hk=>Below.heap_setCell w1 ⟨k0,j0,none⟩ _ k hk
  refine ⟨h.os,h.tape,h.output,by simpa [World.setCell] using h.size,fun k hk' hs=>?_,fun k f n hk' hs hn j hj=>?_,fun k n hk' hs hn j a hj ha hi=>?_,fun k n hk' hs hn j x hj hx=>?_,fun k hk' hf'=>?_⟩
  · rw [hb k (fun e=>by subst e;rw [hS] at hs;unfold lb at hs;omega)];exact h.block k hk' hs
  · rw [cs k j,if_neg (fun e=>by obtain ⟨rfl,rfl,_⟩:=e;have:=(lb_inj (hs.symm.trans hS) hn hn0).2;omega)];exact h.far k f n hk' hs hn j hj
  · rw [cs k j,if_neg (fun e=>by obtain ⟨rfl,rfl,_⟩:=e;have:=(lb_inj (hs.symm.trans hS) hn hn0).1;omega)];exact h.ints k n hk' hs hn j a hj ha hi
  · rw [cs k j]
    split
    · exact ⟨x0,rfl,by omega⟩
    · exact h.txts k n hk' hs hn j x hj hx
  · by_cases e:k=k0
    · subst e;exact ⟨_,_,set_of hc j0 _⟩
    · rw [hb k e];exact h.form k hk' hf'
theorem room_wc {base R:Nat} {S:Lab} {N:Nat} {F:Nat->List Value} {w w':World} (h:RoomF base R S N F w) (c:Wc S w w'):RoomF base R S N F w':=by
  have hR:=h.room.lt;have hbR:w'.heap[R]?=w.heap[R]?:=c.block R hR (.inl (by rw [h.room.lab];decide));refine ⟨⟨h.room.lab,fun k hk=>h.room.top k (Nat.le_trans c.size hk),h.room.low,Nat.le_trans h.room.bas c.size,?_,fun f hf=>?_⟩,h.len,h.none,fun f hf i x a h1 h2=>?_⟩
  · obtain ⟨cs,t,q1,q2⟩:=h.room.blk
    exact ⟨cs,t,hbR.trans q1,q2⟩
  · obtain ⟨v,q1,q2,q3⟩:=h.room.field f hf
    exact ⟨v,(World.cell?_of_block (a:=⟨R,f,none⟩) hbR).trans q1,ownsRow_same q2 (fun g hg=>c.block g (q2.lt g hg).2 (.inl (by rw [q3 g hg];omega))),q3⟩
  · obtain ⟨b,n,room,cap,e1,e2,e3,e4,e4',e5,e6,e7⟩:=h.ent f hf i x a h1 h2
    refine ⟨b,n,room,cap,e1,e2,e3,e4,e4',e5,Nat.lt_of_lt_of_le e6 c.size,fun j hj q u hu=>?_⟩
    rw [c.far b f n e6 e5 e3 _ (Nat.le_trans (Nat.le_trans (Nat.le_add_right n j) (Nat.le_mul_of_pos_right _ (by unfold esz;split <;> decide))) (Nat.le_add_right _ q))]
    exact e7 j hj q u hu
theorem rd_blk {w w':World} {b n c:Nat} {xs:List Value} (h:RdAt w (.slice (some ⟨b,0,none⟩) n c) n xs) (hb:w'.heap[b]?=w.heap[b]?) (hs:w.heap.size<=w'.heap.size):RdAt w' (.slice (some ⟨b,0,none⟩) n c) n xs:=by
  obtain ⟨a,cap,h1,h2,h3⟩:=h;refine ⟨a,cap,h1,h2,fun h0=>?_⟩;obtain ⟨g,off,e1,e2,e3⟩:=h3 h0;have e:a=some ⟨b,0,none⟩:=(Value.slice.inj h1).1.symm;rw [e] at e1;have eg:g=b/\off=0:=by
    have:=Option.some.inj e1;injection this with p1 p2 p3;exact ⟨p1.symm,p2.symm⟩
  obtain ⟨rfl,rfl⟩:=eg;exact ⟨g,0,e,Nat.lt_of_lt_of_le e2 hs,fun j u hu=>(World.cell?_of_block (a:=⟨g,0+j,none⟩) hb).trans (e3 j u hu)⟩
theorem rd_cell {w:World} {b n c:Nat} {xs:List Value} (h:RdAt w (.slice (some ⟨b,0,none⟩) n c) n xs) (j:Nat) (hj:j<n) (u:Value) (hu:xs[j]?=some u):w.cell? ⟨b,j,none⟩=some u:=by
  obtain ⟨a,cap,h1,h2,h3⟩:=h;obtain ⟨g,off,e1,e2,e3⟩:=h3 (by omega);have e:a=some ⟨b,0,none⟩:=(Value.slice.inj h1).1.symm;rw [e] at e1;have:=Option.some.inj e1;injection this with p1 p2 p3;subst p1 p2;have:=e3 j u hu
  rwa [Nat.zero_add] at this
theorem tot_pt:∀ (A B:List (List UInt8)),A.length=B.length->(∀ i (h:i<A.length) (h':i<B.length),A[i].length<=B[i].length+1)->tot A<=2*tot B
  | [],[],_,_=>by simp [tot]
  | x :: A, y :: B, h, hp => by
    have h1:=hp 0 (by simp) (by simp);have h2:=tot_pt A B (by simpa using h) (fun i hi hi'=>by have:=hp (i+1) (by simpa using hi) (by simpa using hi');simpa using this);rw [tot_cons,tot_cons];simp at h1;omega
  | [],_ :: _,h,_=>by simp at h
  | _ :: _,[],h,_=>by simp at h
theorem sl_wc {S:Lab} {w w':World} {s:Sv} (hb:SlB S w s) (c:Wc S w w') (hI:SlI s.d) (hF:Few1 s.d):∃ (li:List Int) (id:List (List UInt8)),tot id<=2*tot s.d.ids/\SlI { s.d with lits:=li,ids:=id }/\li.length=s.d.lits.length/\id.length=s.d.ids.length/\SlR w' { s.d with lits:=li,ids:=id } s.o s.p s.l s.i:=by
  obtain ⟨h0,bO,bP,bL,bI,e1,e2,e3,e4,h1,h2,h3,h4⟩:=hb;have r:=h0.now;rw [e1,e2,e3,e4] at r;have hli:∀ j,j<s.d.lits.length->∃ a,w'.cell? ⟨bL,j,none⟩=some (.int .i64 a)/\I6 a:=fun j hj=>
    c.ints bL _ h3.2.1 h3.1 hF.2.2.1 j s.d.lits[j] hj (rd_cell r.l j hj _ (by simp [hj])) (hI.l _ (List.getElem_mem hj))
  have hid:∀ j,j<s.d.ids.length->∃ x,w'.cell? ⟨bI,j,none⟩=some (.string (txtOf x))/\∀ h:j<s.d.ids.length,x.length<=s.d.ids[j].length+1:=fun j hj=>by
    obtain ⟨x,q1,q2⟩:=c.txts bI _ h4.2.1 h4.1 hF.2.2.2 j s.d.ids[j] hj (rd_cell r.i j hj _ (by simp [hj]));exact ⟨x,q1,fun _=>q2⟩
  obtain ⟨li,l1,l2⟩:=list_of hli;obtain ⟨id,i1,i2⟩:=list_of hid;refine ⟨li,id,tot_pt id s.d.ids i1 (fun i hi hi'=>(i2 i hi).2 hi'),⟨hI.p,fun x hx=>?_,hI.o⟩,l1,i1,?_⟩
  · obtain ⟨i,hi,rfl⟩:=List.mem_iff_getElem.1 hx
    exact (l2 i hi).2
  · rw [e1,e2,e3,e4]
    refine ⟨rd_blk r.o (c.block bO h1.2.1 (.inr (by rw [h1.1];unfold lb;omega))) c.size,rd_blk r.p (c.block bP h2.2.1 (.inr (by rw [h2.1];unfold lb;omega))) c.size,?_,?_⟩
    · refine ⟨_,_,by rw [<-l1],by show li.length<=_;have:=hF.2.2.1;omega,fun _=>⟨bL,0,rfl,Nat.lt_of_lt_of_le h3.2.1 c.size,fun j u hu=>?_⟩⟩
      obtain ⟨hj,hv⟩:=List.getElem?_eq_some_iff.1 hu;rw [List.length_map] at hj;rw [List.getElem_map] at hv;rw [Nat.zero_add,<-hv];exact (l2 j hj).1
    · refine ⟨_,_,by rw [<-i1],by show id.length<=_;have:=hF.2.2.2;omega,fun _=>⟨bI,0,rfl,Nat.lt_of_lt_of_le h4.2.1 c.size,fun j u hu=>?_⟩⟩
      obtain ⟨hj,hv⟩:=List.getElem?_eq_some_iff.1 hu;rw [List.length_map] at hj;rw [List.getElem_map] at hv;rw [Nat.zero_add,<-hv];exact (i2 j hj).1
def rW (d:SL):Nat:=(d.n.length+1)+(d.low.length+1)+(d.high.length+1)+tot (d.ops.map fun o=>o.2.1)+(d.deg.length+1+tot (d.pcs.map fun o=>o.1))+d.lits.length
theorem st_rW (d:SL):stW d=rW d+tot d.ids:=rfl
theorem lnX_len2 (d:SL) (hi:SlI d):(lnX d).length<=44*rW d+2*tot d.ids+100:=by
  have h1:=opsX_len d.ops hi.o;have h2:=litsX_len d.lits hi.l;have h3:=endX_len d;have h4:=rowX_len d.pcs d.deg hi.p;have h5:=spW_len d.ids;unfold lnX rW
  by_cases c1:d.k=1
  · rw [if_pos c1];simp only [List.length_cons,List.length_nil];omega
  rw [if_neg c1]
  by_cases c2:d.k=2
  · rw [if_pos c2];simp only [List.length_append,List.length_cons,List.length_nil];omega
  rw [if_neg c2]
  by_cases c3:d.k=3
  · rw [if_pos c3];simp only [List.length_append,List.length_cons,List.length_nil];omega
  rw [if_neg c3]
  by_cases c4:d.k=4
  · rw [if_pos c4];simp only [List.length_append,List.length_cons,List.length_nil];omega
  rw [if_neg c4]
  by_cases c12:d.k=12
  · rw [if_pos c12];simp only [List.length_append,List.length_cons,List.length_nil];omega
  rw [if_neg c12]
  by_cases c5:d.k=5
  · rw [if_pos c5];simp only [List.length_append,List.length_cons,List.length_nil];omega
  rw [if_neg c5]
  by_cases c11:d.k=11
  · rw [if_pos c11];simp only [List.length_append,List.length_cons,List.length_nil];omega
  rw [if_neg c11]
  by_cases c6:d.k=6
  · rw [if_pos c6];simp only [List.length_append,List.length_cons,List.length_nil];omega
  rw [if_neg c6]
  by_cases c7:d.k=7
  · rw [if_pos c7];simp only [List.length_cons,List.length_nil];omega
  rw [if_neg c7]
  by_cases c8:d.k=8
  · rw [if_pos c8];simp only [List.length_cons,List.length_nil];omega
  rw [if_neg c8]
  by_cases c9:d.k=9
  · rw [if_pos c9];simp only [List.length_append,List.length_cons,List.length_nil];omega
  rw [if_neg c9]
  by_cases c10:d.k=10
  · rw [if_pos c10];simp only [List.length_cons,List.length_nil];omega
  rw [if_neg c10];simp only [List.length_cons,List.length_nil];omega
theorem lnW_len2 (d:SL) (hi:SlI d):tot (lnW d)<=42+25*rW d+2*tot d.ids:=by
  unfold lnW
  by_cases h:∃ f∈formsL,f.1=d.k
  · obtain ⟨f,hf,hk⟩:=h
    rw [<-hk,forms_kind f hf,tot_cons];have h1:=forms_len f hf;have a1:=opsT_len d.ops hi.o;have a2:=rowT_len d.pcs d.deg hi.p;have a3:=litsT_len d.lits hi.l;have a4:=ends_len d;have e0:tot []=0:=rfl;have h3:tot (wrF f.2.2.2 d)<=9+25*rW d+2*tot d.ids:=by
      unfold wrF rW
      repeat' split
      all_goals (try rw [tot_app])
      all_goals (try simp only [tot_cons,e0])
      all_goals omega
    omega
  · rw [kind_none formsL wrF d.k d fun f hf e=>h ⟨f,hf,e⟩]
    simp [tot]
end Go.Proofs.YtpcijhecaedkpaaGreatDoor
