/-
  Put together: Limbs, Read.
-/
import Derived.Test.YtjgghimjnbjlbaaGreatDoorK3
import Derived.WalkSmall
namespace Go.Proofs.YtjgghimjnbjlbaaGreatDoor
open Go.RowKit
set_option maxRecDepth 10000
set_option maxHeartbeats 8000000
open Bn (yj)
def U32At (w:World) (v:Value) (l:List Nat):Prop:=
  (v=.slice none 0 0/\l=[])∨∃ b off cap,v=.slice (some ⟨b,off,none⟩) l.length cap/\b<w.heap.size/\l.length<=cap/\cap<=maxLen /\
    ∀ j (h:j<l.length),w.cell? ⟨b,off+j,none⟩=some (.int .u32 ((l[j]:Nat):Int))
theorem U32At.below {w w':World} {v:Value} {l:List Nat} (h:U32At w v l) (hb:Below w.heap.size w w'):U32At w' v l:=by
  rcases h with h | ⟨b,off,cap,hv,hlt,hl,hm,hc⟩
  · exact .inl h
  · exact .inr ⟨b,off,cap,hv,Nat.lt_of_lt_of_le hlt hb.size,hl,hm,fun j hj=>(hb.cell (p:=⟨b,off+j,none⟩) hlt).trans (hc j hj)⟩
theorem U32At.pos {w:World} {v:Value} {l:List Nat} (h:U32At w v l) (hl:0<l.length):∃ b off cap,v=.slice (some ⟨b,off,none⟩) l.length cap/\b<w.heap.size/\l.length<=cap/\cap<=maxLen /\
    ∀ j (h:j<l.length),w.cell? ⟨b,off+j,none⟩=some (.int .u32 ((l[j]:Nat):Int)):=by
  rcases h with h | h
  · rw [h.2] at hl;simp at hl
  · exact h
theorem U32At.form {w:World} {v:Value} {l:List Nat} (h:U32At w v l):∃ a cap,v=.slice a l.length cap/\l.length<=maxLen:=by
  rcases h with h | ⟨b,off,cap,hv,_,h1,h2,_⟩
  · rw [h.2];exact ⟨none,0,h.1,by simp⟩
  · exact ⟨_,cap,hv,by omega⟩
theorem U32At.setCell {w:World} {v:Value} {l:List Nat} (h:U32At w v l) {p:Addr} (hp:v.ownBlock≠some p.block) (u:Value):U32At (w.setCell p u) v l:=by
  rcases h with h | ⟨b,off,cap,hv,hlt,hl,hm,hc⟩
  · exact .inl h
  · refine .inr ⟨b,off,cap,hv,by simp [World.setCell];exact hlt,hl,hm,fun j hj=>?_⟩
    have hb:b≠p.block:=fun e=>hp (by rw [hv,<-e];rfl)
    exact (World.cell?_of_block (w:=w) (a:=⟨b,off+j,none⟩) (Below.heap_setCell w p u b hb)).trans (hc j hj)
def zG (l:List Nat):List Value:=l.map fun (d:Nat)=>Value.int .u32 (d:Int)
theorem Qp (l:List Nat) (d:Nat):zG (l++[d])=zG l++[.int .u32 (d:Int)]:=by simp [zG]
theorem U32At.of_owns {w:World} {base:Nat} {v:Value} {l:List Nat} (h:w.ownsRow base 236 1 v l.length (zG l)):U32At w v l:=by
  have hlt:=h.lt;have hcs:∀ g,v.ownBlock=some g->_:=fun g hg=>h.cells (g:=g) hg
  obtain ⟨_,h | ⟨g,cap,cur,hv,hg,hh,hn,hm,_,_⟩⟩:=h
  · exact .inl ⟨h.1,List.eq_nil_of_length_eq_zero h.2⟩
  · subst hv
    refine .inr ⟨g,0,cap,rfl,(hlt g rfl).2,hn,hm,fun j hj=>?_⟩;have:=hcs g rfl j (.int .u32 ((l[j]:Nat):Int)) (by simp [zG,hj])
    cases j with
    | zero=>simpa [Addr.add] using this
    | succ j=>simpa [Addr.add] using this
theorem Tryz.info236:(Tryz.prog.info? 236).map (fun i=>(i.zero,i.size,i.bytes))=some (some (.int .u32 0),1,4):=by kernel_rfl
def trim:List Nat->List Nat
  | []=>[]
  | d :: l=>if trim l=[]/\d=0 then [] else d :: trim l
theorem y2S (l:List Nat):trim (l++[0])=trim l:=by
  induction l with
  | nil=>simp [trim]
  | cons d l ih=>simp only [List.cons_append,trim,ih]
theorem y2T (l:List Nat) (d:Nat) (h:d≠0):trim (l++[d])=l++[d]:=by
  induction l with
  | nil=>simp [trim,h]
  | cons e l ih=>simp only [List.cons_append,trim,ih];simp
theorem y2U (l:List Nat):Bn.val (trim l)=Bn.val l:=by
  induction l with
  | nil=>rfl
  | cons d l ih =>
    simp only [trim]
    split
    · rename_i h
      rw [h.1] at ih;simp only [Bn.val] at ih ⊢;omega
    · simp only [Bn.val,ih]
theorem y2V (l:List Nat):∀ d∈trim l,d∈l:=by
  induction l with
  | nil=>simp [trim]
  | cons e l ih =>
    intro d;simp only [trim]
    split
    · simp
    · intro h
      rcases List.mem_cons.1 h with rfl | h
      · simp
      · exact List.mem_cons_of_mem _ (ih d h)
theorem y2W (l:List Nat):(trim l).getLast?≠some 0:=by
  induction l with
  | nil=>simp [trim]
  | cons e l ih =>
    simp only [trim]
    split
    · simp
    · rename_i h
      cases hl:trim l with
      | nil=>rw [hl] at h;simp at h;simp;omega
      | cons a t=>rw [hl] at ih;simpa [List.getLast?_cons_cons] using ih
theorem Qq (l:List Nat) (h:∀ d∈l,d<1000000000):trim l=yj (Bn.val l):=by
  rw [<-y2U];exact (Bn.limbs_val _ (fun d hd=>h d (y2V l d hd)) (y2W l)).symm
theorem y2X (l:List Nat) (k:Nat) (h:k<l.length):l.take (k+1)=l.take k++[l[k]]:=by
  rw [List.take_succ_eq_append_getElem h]
theorem Qr (l:List Nat) (v:Value) (w:World) (h:U32At w v l) (hbd:∀ d∈l,d<4294967296) :
    Calls Tryz.prog 252 #[v] w fun e w'=>∃ v',e=.returned v'/\U32At w v' (trim l)/\w'=w/\v'.ownBlock=v.ownBlock:=by
  rcases h with ⟨rfl,rfl⟩ | ⟨b,off,cap,rfl,hlt,hl,hm,hc⟩
  · go_enter Tryz.func252,Tryz.ntmps252
    go_wp2;go_loop [3] (fun nv=>nv=.int .i64 0) (fun _=>0)
    case atStart=>rfl
    case round=>
      obtain rfl:=hrel;go_wp2;go_ret;exact ⟨_,rfl,.inl ⟨rfl,rfl⟩,rfl,rfl⟩
  · have HC:Hid (∀ j (h:j<l.length),w.cell? ⟨b,off+j,none⟩=some (.int .u32 ((l[j]:Nat):Int))):=hc
    unfold maxLen at hm;clear hc;go_enter Tryz.func252,Tryz.ntmps252;go_wp2;go_loop [3] (fun nv=>∃ k:Nat,nv=.int .i64 (k:Int)/\k<=l.length/\Hid (trim (l.take k)=trim l)) (fun nv=>(intOf nv).toNat)
    case atStart=>exact ⟨l.length,rfl,Nat.le_refl _,by show _=_;rw [List.take_length]⟩
    case round=>
      obtain ⟨k,rfl,hk,hH⟩:=hrel
      cases k with
      | zero =>
        have e:trim l=[]:=by rw [<-hH.out];simp [trim]
        go_wp2;go_ret;exact ⟨_,rfl,.inr ⟨b,off,cap,rfl,hlt,by simp,by unfold maxLen;omega,fun j hj=>by simp at hj⟩,rfl,rfl⟩
      | succ j =>
        have hj:j<l.length:=by omega
        have h1:=HC.out j hj;have h2:=hbd _ (List.getElem_mem hj);have HT:=y2X l j hj;have HZ:Hid (l[j]=0->trim (l.take j)=trim l):=by intro e;rw [<-hH.out,HT,e,y2S]
        have HN:Hid (l[j]≠0->trim l=l.take (j+1)):=by intro e;rw [<-hH.out,HT,y2T _ _ e]
        generalize l[j]=p at *
        have hji:(j:Int)<(l.length:Int):=by omega
        clear HT hH
        by_cases hp:p=0
        · subst hp
          go_wp2;go_round
          case rel=>exact ⟨j,by go_num,by omega,HZ.out rfl⟩
          case measure=>simp [intOf]
        · have hpb:((p:Int)==0)=false:=by rw [beq_eq_false_iff_ne];omega
          go_wp2;go_ret;have e:=HN.out hp;have e1:(trim l).length=j+1:=by rw [e,List.length_take];omega
          refine ⟨_,rfl,.inr ⟨b,off,cap,by rw [e1];rfl,hlt,by omega,by unfold maxLen;omega,fun i hi=>?_⟩,rfl,rfl⟩;have h3:=HC.out i (by omega);rw [h3]
          congr 3
          simp [e]
end Go.Proofs.YtjgghimjnbjlbaaGreatDoor

namespace Go.Proofs.YtjgghimjnbjlbaaGreatDoor
open Go.RowKit
set_option maxRecDepth 10000
set_option maxHeartbeats 8000000
open Bn (yj)
def za (c:UInt8):Bool:=decide (48<=c.toNat/\c.toNat<=57)
def xW (l:List UInt8):Bool:=!l.isEmpty&&l.head? != some 48&&l.all za
def dval (l:List UInt8):Nat:=l.foldl (fun n c=>10 * n+(c.toNat-48)) 0
theorem y0c (s:ByteArray) (k:Nat) (h:k<s.size):s.data.toList.take (k+1)=s.data.toList.take k++[s[k]]:=by
  rw [List.take_succ_eq_append_getElem (by simpa using h)];rfl
theorem y6G (l:List UInt8) (c:UInt8):dval (l++[c])=10 * dval l+(c.toNat-48):=by simp [dval]
theorem y6H (l:List UInt8):∀ acc,l.all za=true->l.foldl (fun n c=>10 * n+(c.toNat-48)) acc<(acc+1) * 10 ^ l.length:=by
  induction l with
  | nil=>intro acc _;simp
  | cons c l ih =>
    intro acc h;simp only [List.all_cons,Bool.and_eq_true] at h;have h2:48<=c.toNat/\c.toNat<=57:=by simpa [za] using h.1
    have h1:=ih (10 * acc+(c.toNat-48)) h.2;rw [List.foldl_cons,List.length_cons,Nat.pow_succ];have h3:(10 * acc+(c.toNat-48)+1) * 10 ^ l.length<=((acc+1) * 10) * 10 ^ l.length:=Nat.mul_le_mul_right _ (by omega);have h4:(acc+1) * 10 * 10 ^ l.length=(acc+1) * (10 ^ l.length * 10):=by rw [Nat.mul_assoc,Nat.mul_comm 10]
    omega
theorem y0d (l:List UInt8) (h:l.all za=true):dval l<10 ^ l.length:=by
  have:=y6H l 0 h;simpa [dval] using this
theorem Ku (s:ByteArray) (w:World) (hs:s.size<=maxLen) :
    Calls Tryz.prog 242 #[.string s] w fun e w'=>e=.returned (.bool (xW s.data.toList))/\w'=w:=by
  unfold maxLen at hs
  by_cases h0:s.size=0
  · have e:s=⟨#[]⟩:=by
      cases s with
      | mk d=>congr 1;exact Array.eq_empty_of_size_eq_zero h0
    subst e;go_enter Tryz.func242,Tryz.ntmps242;go_wp2;go_ret;exact ⟨rfl,rfl⟩
  · have hp:0<s.size:=by omega
    have hT:s.toList≠[]:=by
      intro e;rw [ByteArray.toList_eq] at e;have h1:=congrArg List.length e;rw [Array.length_toList] at h1;have h2:s.data.size=s.size:=rfl;have h3:s.size=0:=h1;omega
    have hE:s.toList.isEmpty=false:=by
      cases h:s.toList with
      | nil=>exact absurd h hT
      | cons a t=>rfl
    have hL:s.data.toList=s[0] :: s.data.toList.drop 1:=by
      have h:0<s.data.toList.length:=by simpa using hp
      have h1:=List.drop_eq_getElem_cons h;rw [List.drop_zero] at h1;exact h1
    have HB:Hid (xW s.data.toList=(!decide (s[0].toNat=48)&&s.data.toList.all za)):=by
      show _=_;unfold xW;have h1:s.data.toList.isEmpty=false:=by rw [hL];rfl
      have h2:s.data.toList.head?=some s[0]:=by rw [hL];rfl
      rw [h1,h2]
      congr 1
      by_cases h3:s[0]=48
      · rw [h3];rfl
      · have h4:s[0].toNat≠48:=fun e=>h3 (UInt8.toNat_inj.1 (by rw [e];rfl))
        simp [h4,h3]
    clear hL
    by_cases h48:s[0].toNat=48
    · have hb:((s[0].toNat:Int)==48)=true:=by simp;omega
      go_enter Tryz.func242,Tryz.ntmps242;go_wp2;go_ret;exact ⟨ZZ (by rw [HB.out];simp [h48]),rfl⟩
    · have hb:((s[0].toNat:Int)==48)=false:=by rw [beq_eq_false_iff_ne];omega
      go_enter Tryz.func242,Tryz.ntmps242;go_wp2;go_loop [13] (fun iv=>∃ k:Nat,k<=s.size/\iv=.int .i64 (k:Int)/\Hid ((s.data.toList.take k).all za=true)) (fun iv=>s.size-(intOf iv).toNat)
      case atStart=>exact ⟨0,Nat.zero_le _,rfl,rfl⟩
      case round=>
        obtain ⟨k,hk,rfl,hH⟩:=hrel
        by_cases hlt:k<s.size
        · have h1:=y0c s k hlt
          by_cases hd:48<=s[k].toNat/\s[k].toNat<=57
          · have HX:Hid ((s.data.toList.take (k+1)).all za=true):=by
              show _=_;rw [h1,List.all_append,hH.out];simpa [za] using hd
            obtain ⟨hd1,hd2⟩:=hd;clear h1 hH;go_wp2;go_round
            case rel=>exact ⟨k+1,by omega,by go_num,HX.out⟩
            case measure=>simp [intOf];omega
          · have HX:Hid (s.data.toList.all za=false):=by
              show _=_;rw [List.all_eq_false];exact ⟨s[k],by show s.data.toList[k]'_∈_;exact List.getElem_mem _,by simpa [za] using hd⟩
            clear h1 hH;go_wp2;all_goals (go_ret;exact ⟨ZZ (by rw [HB.out,HX.out];simp),rfl⟩)
        · have e:s.data.toList.take k=s.data.toList:=List.take_of_length_le (by simp;omega)
          go_wp2;go_ret;exact ⟨ZZ (by have:=hH.out;rw [e] at this;rw [HB.out,this];simp [h48]),rfl⟩
theorem y6I (s:ByteArray) (w:World) (hs:s.size<=9) (hd:s.data.toList.all za=true) :
    Calls Tryz.prog 251 #[.string s] w fun e w'=>e=.returned (.int .u32 ((dval s.data.toList:Nat):Int))/\w'=w:=by
  go_enter Tryz.func251,Tryz.ntmps251;go_wp2;go_loop [3,7] (fun nv iv=>∃ k:Nat,k<=s.size/\iv=.int .i64 (k:Int)/\∃ x:Nat,nv=.int .u32 (x:Int)/\Hid (x=dval (s.data.toList.take k))) (fun _ iv=>s.size-(intOf iv).toNat)
  case atStart=>exact ⟨0,Nat.zero_le _,rfl,0,rfl,rfl⟩
  case round=>
    obtain ⟨k,hk,rfl,x,rfl,hx⟩:=hrel
    by_cases hlt:k<s.size
    · have h1:=y0c s k hlt
      have h2:za s[k]=true:=by
        have:=List.all_eq_true.1 hd (s[k]) (by show s.data.toList[k]'_∈_;exact List.getElem_mem _);exact this
      have HX:Hid (10 * x+(s[k].toNat-48)=dval (s.data.toList.take (k+1))):=by show _=_;rw [h1,y6G,<-hx.out]
      have h3:48<=s[k].toNat/\s[k].toNat<=57:=by simpa [za] using h2
      have h4:x<100000000:=by
        rw [hx.out];have e:(s.data.toList.take k).all za=true:=by
          rw [List.all_eq_true];intro c hc;exact List.all_eq_true.1 hd c (List.mem_of_mem_take hc)
        have:=y0d _ e;rw [List.length_take] at this;have h5:min k s.data.toList.length<=8:=by omega
        have h6:10 ^ min k s.data.toList.length<=10 ^ 8:=Nat.pow_le_pow_right (by decide) h5;omega
      clear h1 h2 hx;go_wp2;go_round
      case rel=>exact ⟨k+1,by omega,by go_num,10 * x+(s[k].toNat-48),by go_num,HX.out⟩
      case measure=>simp [intOf];omega
    · go_wp2
      go_ret;have e:s.data.toList.take k=s.data.toList:=List.take_of_length_le (by simp;omega);exact ⟨xT (by rw [hx.out,e]),rfl⟩
theorem y6J (l:List UInt8):∀ acc,l.foldl (fun n c=>10 * n+(c.toNat-48)) acc=acc * 10 ^ l.length+l.foldl (fun n c=>10 * n+(c.toNat-48)) 0:=by
  induction l with
  | nil=>intro acc;simp
  | cons c l ih =>
    intro acc;rw [List.foldl_cons,List.foldl_cons,ih,ih (10 * 0+(c.toNat-48)),List.length_cons,Nat.pow_succ]
    rw [show (10 * acc+(c.toNat-48)) * 10 ^ l.length=acc * (10 ^ l.length * 10)+(10 * 0+(c.toNat-48)) * 10 ^ l.length from by
      rw [Nat.add_mul,Nat.mul_zero,Nat.zero_add,Nat.mul_comm (10 ^ l.length) 10,<-Nat.mul_assoc,Nat.mul_comm acc 10]]
    omega
theorem y6K (a b:List UInt8):dval (a++b)=dval a * 10 ^ b.length+dval b:=by
  unfold dval;rw [List.foldl_append,y6J]
theorem y6L {L:List UInt8} {e e' k:Nat} {lim:List Nat} (he:e+9 * k=L.length) (he':e'<=e) (hk:lim.length=k) (hv:Bn.val lim=dval (L.drop e)) :
    Bn.val (lim++[dval ((L.take e).drop e')])=dval (L.drop e'):=by
  have h1:L.drop e'=(L.take e).drop e'++L.drop e:=by
    have h2:L=L.take e++L.drop e:=(List.take_append_drop e L).symm;have h3:(L.take e++L.drop e).drop e'=(L.take e).drop e'++L.drop e:=by
      rw [List.drop_append_of_le_length];rw [List.length_take];omega
    rw [<-h3,<-h2]
  rw [h1,y6K,Bn.val_append,hk,hv];simp only [Bn.val];rw [List.length_drop,show L.length-e=9 * k from by omega,Nat.pow_mul];rw [Nat.mul_comm];simp;omega
theorem y0e {L:List UInt8} (h:L.all za=true) (a b:Nat):((L.take a).drop b).all za=true:=by
  rw [List.all_eq_true] at h ⊢;intro c hc;exact h c (List.mem_of_mem_take (List.mem_of_mem_drop hc))
theorem y6M (s:ByteArray) (a m:Nat):(s.extract a m).data.toList=(s.data.toList.take m).drop a:=by
  simp [ByteArray.data_extract,Array.toList_extract,List.drop_take]
theorem y0f (s:ByteArray) (a m G:Nat) (w:World) (hm:m<=s.size) (ha:m<=a+9) (hd:s.data.toList.all za=true) (hG:G=dval ((s.data.toList.take m).drop a)) :
    Calls Tryz.prog 251 #[.string (s.extract a m)] w fun e w'=>e=.returned (.int .u32 (G:Int))/\w'=w:=by
  have e:=y6M s a m;have h1:(s.extract a m).size<=9:=by rw [ByteArray.size_extract];omega
  have:=y6I (s.extract a m) w h1 (by rw [e];exact y0e hd m a);rw [e,<-hG] at this;exact this
theorem y0g {W wr w1:World} {B:Nat} {v v':Value} {lim:List Nat} {G:Nat} {o:Obj} (hown:wr.ownsRow B 236 1 v lim.length (zG lim)) (hbel:Below B W wr)
    (hown1:w1.ownsRow B 236 1 v' (lim.length+1) (zG lim++[.int .u32 (G:Int)])) (hg:(wr.alloc o).grownBy w1 v.ownBlock) (hB:B<=wr.heap.size:=by omega) :
    w1.ownsRow B 236 1 v' (lim++[G]).length (zG (lim++[G]))/\Below B W w1:=by
  refine ⟨?_,?_⟩
  · rw [Qp,List.length_append];exact hown1
  · exact (hbel.alloc hB o).grown hg (by simp;omega) (fun g hg=>(hown.lt g hg).1)
theorem y0h {lim:List Nat} {G:Nat} (h:∀ d∈lim,d<1000000000) (hG:G<1000000000):∀ d∈lim++[G],d<1000000000:=by
  intro d hd;rcases List.mem_append.1 hd with h1 | h1
  · exact h d h1
  · simp at h1;omega
theorem Ks (s:ByteArray) (w:World) (hs:s.size<=9000000) (hd:s.data.toList.all za=true) :
    Calls Tryz.prog 244 #[.string s] w fun e w'=>∃ v,e=.returned v/\U32At w' v (yj (dval s.data.toList))/\Below w.heap.size w w':=by
  obtain ⟨i0,hi,hz0,hz1,hz2⟩:=info_parts Tryz.info236;have hsz:s.data.toList.length=s.size:=by simp
  obtain ⟨w0,hrun,hown0,hg0⟩:=run_make_own (P:=Tryz.prog) w w.heap.size 285 236 i0 (.int .u32 0) 1 Tryz.underlying285 hi hz0 hz1 .i64 .i64 (s.size / 9+1) (by rw [hz2];omega) (by unfold maxLen;omega) (Nat.le_refl _);rw [show (((s.size / 9+1:Nat)):Int)=(s.size:Int) / 9+1 from by omega] at hrun;have hb0:Below w.heap.size w w0:=(Below.refl _ _).grown hg0 (Nat.le_refl _) (fun k hk=>by cases hk);go_enter Tryz.func244,Tryz.ntmps244;go_wp2;have HSZ:Hid _:=hsz;clear hrun hg0 hsz
  go_loopw [3,4] (fun lv ev wr=>∃ (e:Int) (k:Nat) (lim:List Nat),ev=.int .i64 e/\e=(s.size:Int)-9 * (k:Int)/\Hid (k=0∨0<e+9)/\lim.length=k/\(∀ d∈lim,d<1000000000)/\Hid (Bn.val lim=dval (s.data.toList.drop e.toNat)) /\
      wr.ownsRow w.heap.size 236 1 lv lim.length (zG lim)/\Below w.heap.size w wr) (fun _ ev _=>(intOf ev).toNat)
  case atStart=>
    refine ⟨s.size,0,[],rfl,by simp,.inl rfl,rfl,by simp,?_,hown0,hb0⟩;show _=_;rw [show ((s.size:Int)).toNat=s.data.toList.length from by rw [HSZ.out];simp,List.drop_length];rfl
  case round=>
    clear hown0 hb0;obtain ⟨e,k,lim,rfl,he,hk0,hkl,hlt,hv,hown,hbel⟩:=hrel;have hsw:w.heap.size<=wr.heap.size:=hbel.size
    by_cases hpos:0<e
    · obtain ⟨m,rfl⟩:=Int.eq_ofNat_of_zero_le (Int.le_of_lt hpos)
      have hm:m+9 * k=s.data.toList.length:=by rw [HSZ.out];omega
      have HM:Hid _:=hm;have hms:m<=s.size:=by omega
      have hmsI:(m:Int)<=(s.size:Int):=by omega
      clear hm he;have hkb:lim.length<=1000000000:=by have:=HM.out;rw [HSZ.out] at this;omega
      obtain ⟨G,hGe⟩:∃ G,G=dval ((s.data.toList.take m).drop (m-9)):=⟨_,rfl⟩;have hG:G<1000000000:=by
        rw [hGe];have h1:=y0d _ (y0e hd m (m-9));have h2:((s.data.toList.take m).drop (m-9)).length<=9:=by rw [List.length_drop,List.length_take];omega
        have h3:10 ^ ((s.data.toList.take m).drop (m-9)).length<=10 ^ 9:=Nat.pow_le_pow_right (by decide) h2;omega
      have HV:Hid (Bn.val (lim++[G])=dval (s.data.toList.drop ((m:Int)-9).toNat)):=by
        show _=_;rw [hGe,show ((m:Int)-9).toNat=m-9 from by omega];exact y6L HM.out (by omega) hkl hv.out
      have HG:Hid (G=dval ((s.data.toList.take m).drop (m-9))):=hGe;clear hGe hv
      by_cases h9:9<m
      · have h9I:(9:Int)<(m:Int):=by omega
        have h9J:(0:Int)<(m:Int)-9:=by omega
        go_wp2_with (first
          | (go_at_call 251;refine (y0f s (m-9) m G _ hms (by omega) hd HG.out).mono ?_;rintro e w' ⟨rfl,rfl⟩)
          | (at_builtin;refine y0i _ rfl _ _ 285 rfl w.heap.size 236 i0 .u32 4 Tryz.underlying285 hi hz0 hz1 hz2 _ _ _ (by rfl) hown _ _ rfl (by rfl) (by omega) (by decide) hsw ?_;intro v' w1 hown1 hgrow))
        all_goals
          have hR:=y0g hown hbel hown1 hgrow;have hlt':=y0h hlt hG;clear hown1 hgrow hown hbel;go_roundw
          case rel=>exact ⟨(m:Int)-9,k+1,lim++[G],by go_num,by have:=HM.out;rw [HSZ.out] at this;omega,.inr (by omega),by rw [List.length_append,hkl];rfl,hlt',HV.out,hR.1,hR.2⟩
          case measure=>simp [intOf];omega
      · have h9I:(m:Int)<=9:=by omega
        have h9J:¬ (0:Int)<(m:Int)-9:=by omega
        go_wp2_with (first
          | (go_at_call 251;refine (y0f s 0 m G _ hms (by omega) hd (by rw [HG.out,show m-9=0 from by omega])).mono ?_;rintro e w' ⟨rfl,rfl⟩)
          | (at_builtin;refine y0i _ rfl _ _ 285 rfl w.heap.size 236 i0 .u32 4 Tryz.underlying285 hi hz0 hz1 hz2 _ _ _ (by rfl) hown _ _ rfl (by rfl) (by omega) (by decide) hsw ?_;intro v' w1 hown1 hgrow))
        all_goals
          have hR:=y0g hown hbel hown1 hgrow;have hlt':=y0h hlt hG;clear hown1 hgrow hown hbel;go_roundw
          case rel=>exact ⟨(m:Int)-9,k+1,lim++[G],by go_num,by have:=HM.out;rw [HSZ.out] at this;omega,.inr (by omega),by rw [List.length_append,hkl];rfl,hlt',HV.out,hR.1,hR.2⟩
          case measure=>simp [intOf];omega
    · have he0:e.toNat=0:=by omega
      rw [he0] at hv;have hU:=U32At.of_owns hown;have HT:=Qq lim hlt;go_wp2_with (go_at_call 252;refine (Qr lim _ _ hU (fun d hd=>by have:=hlt d hd;omega)).mono ?_;rintro e w' ⟨v',rfl,hU',rfl,_⟩);go_ret;exact ⟨_,rfl,by rw [HT,hv.out] at hU';exact hU',hbel⟩
end Go.Proofs.YtjgghimjnbjlbaaGreatDoor
