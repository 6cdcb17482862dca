/-
  Put together: MdOff, MdCopyOf, MdCopyM, MdCopyN.
-/
import Derived.Test.YtjgghimjnbjlbaaGreatDoorJ04
import Derived.Test.YtjgghimjnbjlbaaGreatDoorMdSrc
import Derived.Test.YtjgghimjnbjlbaaGreatDoorJ19
import Derived.Test.YtjgghimjnbjlbaaGreatDoorJ02
import Derived.Test.YtjgghimjnbjlbaaGreatDoorK2
import Derived.Deep.QuietTactic
import Derived.BigQuiet
namespace Go.Proofs.YtjgghimjnbjlbaaGreatDoor
open Go.RowKit
structure MOff (S:Nat->Prop) (w w':World):Prop where
  size:w.heap.size<=w'.heap.size
  block:∀ k,k<w.heap.size->¬ S k->w'.heap[k]?=w.heap[k]?
theorem MOff.refl (S:Nat->Prop) (w:World):MOff S w w:=⟨Nat.le_refl _,fun _ _ _=>rfl⟩
theorem MOff.trans {S:Nat->Prop} {a b c:World} (h:MOff S a b) (k:MOff S b c):MOff S a c:=
  ⟨Nat.le_trans h.size k.size,fun i hi hs=>(k.block i (Nat.lt_of_lt_of_le hi h.size) hs).trans (h.block i hi hs)⟩
theorem MOff.of_below {S:Nat->Prop} {w w':World} (h:Below w.heap.size w w'):MOff S w w':=⟨h.size,fun k hk _=>h.block k hk⟩
theorem MOff.set {S:Nat->Prop} {w:World} {g i:Nat} (v:Value) (h:S g):MOff S w (w.setCell ⟨g,i,none⟩ v):=
  ⟨by simp,fun k _ hs=>heap_setCell_other w ⟨g,i,none⟩ k v (fun e=>hs (e▸h))⟩
theorem MOff.less {S T:Nat->Prop} {w w':World} (h:MOff S w w') (hs:∀ k,S k->T k):MOff T w w':=⟨h.size,fun k hk ht=>h.block k hk fun e=>ht (hs k e)⟩
def Kept (S:Nat->Prop) (w:World) (p:World->Prop):Prop:=∀ w',MOff S w w'->p w'
theorem Kept.now {S:Nat->Prop} {w:World} {p:World->Prop} (h:Kept S w p):p w:=h w (MOff.refl _ _)
theorem Kept.next {S:Nat->Prop} {w w':World} {p:World->Prop} (h:Kept S w p) (ho:MOff S w w'):Kept S w' p:=fun w2 h2=>h w2 (ho.trans h2)
theorem Kept.imp {S:Nat->Prop} {w:World} {p q:World->Prop} (h:Kept S w p) (hi:∀ w',p w'->q w'):Kept S w q:=fun w2 h2=>hi w2 (h w2 h2)
theorem Kd {S:Nat->Prop} {w0 w w':World} (h0:Below w0.heap.size w0 w) (hS:∀ k,S k->w0.heap.size<=k) (h:MOff S w w'):w0.heap.size<=w'.heap.size/\∀ b o,b<w0.heap.size->w'.cell? ⟨b,o,none⟩=w0.cell? ⟨b,o,none⟩:=
  ⟨Nat.le_trans h0.size h.size,fun b o hb=>World.cell?_of_block (a:=⟨b,o,none⟩) ((h.block b (Nat.lt_of_lt_of_le hb h0.size) fun e=>by have:=hS b e;omega).trans (h0.block b hb))⟩
theorem Zx {S:Nat->Prop} {w0 w:World} {v:Value} {l:List Int} (h:MInts w0 v l) (h0:Below w0.heap.size w0 w) (hS:∀ k,S k->w0.heap.size<=k):Kept S w (fun w'=>MInts w' v l):=fun w' ho=>by
  obtain ⟨h1,h2⟩:=Kd h0 hS ho;exact h.mono h1 h2
theorem y36 {S:Nat->Prop} {w0 w:World} {c:Md.Cn} {vt vx vb vr:Value} (h:CnAt w0 c vt vx vb vr) (h0:Below w0.heap.size w0 w) (hS:∀ k,S k->w0.heap.size<=k):Kept S w (fun w'=>CnAt w' c vt vx vb vr):=fun w' ho=>by
  obtain ⟨h1,h2⟩:=Kd h0 hS ho;refine ⟨?_,h.x.mono h1 h2,h.xcap,h.b.mono h1 h2,?_⟩
  · obtain ⟨a,cap,hv,hl,hc⟩:=h.t
    refine ⟨a,cap,hv,hl,fun hp=>?_⟩;obtain ⟨b,off,ha,hb,hj⟩:=hc hp;exact ⟨b,off,ha,by omega,fun j hjl=>⟨(h2 _ _ hb).trans (hj j hjl).1,(h2 _ _ hb).trans (hj j hjl).2⟩⟩
  · obtain ⟨a,cap,hv,hl,hc⟩:=h.r
    refine ⟨a,cap,hv,hl,fun hp=>?_⟩;obtain ⟨b,off,ha,hb,hj⟩:=hc hp;refine ⟨b,off,ha,by omega,fun j hjl=>?_⟩;obtain ⟨u,hu,hi⟩:=hj j hjl;exact ⟨u,(h2 _ _ hb).trans hu,hi.mono h1 h2⟩
theorem zZ {w:World} {B:Nat} {e:TypeId} {size:Nat} {v:Value} {n:Nat} {xs:List Value} (h:w.ownsRow B e size v n xs):(v=.slice none 0 0/\n=0)∨∃ g cap,v=.slice (some ⟨g,0,none⟩) n cap/\B<=g/\g<w.heap.size/\n<=cap/\∀ j u,xs[j]?=some u->w.cell? ⟨g,j,none⟩=some u:=by
  rcases h.2 with h1 | ⟨g,cap,cur,hv,hg,hc,hm,_,_,ht⟩
  · exact .inl h1
  · refine .inr ⟨g,cap,hv,hg,(hLt hc),hm,fun j u hj=>?_⟩
    have hjl:j<n * size:=by rw [<-h.1];exact (List.getElem?_eq_some_iff.1 hj).1
    rw [<-ht,List.getElem?_take,if_pos hjl] at hj;have hj3:cur[j]?=some u:=by simpa using hj
    simp [World.cell?,hc,hj3]
theorem yG {S:Nat->Prop} {w w':World} {B:Nat} {e:TypeId} {size:Nat} {v:Value} {n:Nat} {xs:List Value} (h:w.ownsRow B e size v n xs) (hS:∀ g,v.ownBlock=some g->¬ S g) (ho:MOff S w w'):w'.ownsRow B e size v n xs:=by
  refine ⟨h.1,?_⟩;rcases h.2 with h1 | ⟨g,cap,cur,hv,hg,hc,h2⟩
  · exact .inl h1
  · refine .inr ⟨g,cap,cur,hv,hg,?_,h2⟩
    rw [ho.block g (hLt hc) (hS g (by rw [hv];rfl))];exact hc
theorem QB {w:World} {B:Nat} {e:TypeId} {v:Value} {l:List Int} (h:w.ownsRow B e 1 v l.length (l.map (.int .i64))) (hm:l.length<=maxLen):MInts w v l:=by
  rcases zZ h with ⟨rfl,hn⟩ | ⟨g,cap,rfl,_,hg,_,hc⟩
  · exact ⟨none,0,by rw [hn],hm,fun h0=>by omega⟩
  · exact ⟨_,cap,rfl,hm,fun _=>⟨g,0,rfl,hg,fun j hj=>by rw [Nat.zero_add];exact hc j _ (by simp [hj])⟩⟩
theorem QA {w:World} {B:Nat} {e:TypeId} {v:Value} {l:List (Int × Int)} (h:w.ownsRow B e 2 v l.length (zp l)) (hm:l.length<=maxLen):TermsAt w v l:=by
  rcases zZ h with ⟨rfl,hn⟩ | ⟨g,cap,rfl,_,hg,_,hc⟩
  · exact ⟨none,0,by rw [hn],hm,fun h0=>by omega⟩
  · exact ⟨_,cap,rfl,hm,fun _=>⟨g,0,rfl,hg,fun j hj=>by rw [Nat.zero_add];exact ⟨hc _ _ (Zy l j hj).1,hc _ _ (Zy l j hj).2⟩⟩⟩
theorem y37 {w:World} {B:Nat} {e:TypeId} {v:Value} {l:List Md.Vr} (h:w.ownsRow B e 3 v l.length (zC l)) (hm:l.length<=maxLen) (hn:∀ x∈l,x.name.size<=maxLen):VarsAt w v l:=by
  rcases zZ h with ⟨rfl,h0⟩ | ⟨g,cap,rfl,_,hg,_,hc⟩
  · exact ⟨none,0,by rw [h0],hm,hn,fun h1=>by omega⟩
  · exact ⟨_,cap,rfl,hm,hn,fun _=>⟨g,0,rfl,hg,fun j hj=>by rw [Nat.zero_add];exact ⟨hc _ _ (YP l j hj).1,hc _ _ (YP l j hj).2.1,hc _ _ (YP l j hj).2.2⟩⟩⟩
theorem Qz {w:World} {B:Nat} {e:TypeId} {size:Nat} {v:Value} {n:Nat} {xs:List Value} (h:w.ownsRow B e size v n xs):∀ a k cp,v=.slice a k cp->k<=cp:=by
  intro a k cp hv;rcases zZ h with ⟨rfl,_⟩ | ⟨g,cap,rfl,_,_,hm,_⟩
  · injection hv with _ e2 e3;omega
  · injection hv with _ e2 e3;omega
theorem QC {S:Nat->Prop} {w:World} {B:Nat} {e:TypeId} {v:Value} {l:List Int} (h:w.ownsRow B e 1 v l.length (l.map (.int .i64))) (hS:∀ g,B<=g->¬ S g) (hm:l.length<=maxLen):Kept S w (fun w'=>MInts w' v l):=fun _ ho=>QB (yG h (fun g hg=>hS g (h.lt g hg).1) ho) hm
theorem y39 {S:Nat->Prop} {w:World} {B:Nat} {e:TypeId} {v:Value} {l:List (Int × Int)} (h:w.ownsRow B e 2 v l.length (zp l)) (hS:∀ g,B<=g->¬ S g) (hm:l.length<=maxLen):Kept S w (fun w'=>TermsAt w' v l):=fun _ ho=>QA (yG h (fun g hg=>hS g (h.lt g hg).1) ho) hm
end Go.Proofs.YtjgghimjnbjlbaaGreatDoor

namespace Go.Proofs.YtjgghimjnbjlbaaGreatDoor
open Go.RowKit
theorem y3a:Tryz.prog.underlying 22=some (.slice 49):=by kernel_rfl
theorem y3b:Tryz.prog.underlying 23=some (.slice 51):=by kernel_rfl
theorem y3c:Tryz.prog.underlying 24=some (.slice 67):=by kernel_rfl
theorem Zm:Tryz.prog.underlying 27=some (.slice 3):=by kernel_rfl
theorem XC:Tryz.prog.underlying 30=some (.slice 27):=by kernel_rfl
theorem y3d:(Tryz.prog.info? 49).map (fun i=>(i.zero,i.size,i.bytes))=some (some (.agg #[.string ⟨#[]⟩,.int .i64 0,.int .i64 0]),3,32):=by kernel_rfl
theorem y3e:(Tryz.prog.info? 51).map (fun i=>(i.zero,i.size,i.bytes))=some (some (.agg #[.int .i64 0,.int .i64 0,.slice none 0 0,.int .i64 0,.int .i64 0,.int .i64 0,.int .i64 0,.slice none 0 0,.slice none 0 0,.slice none 0 0]),10,144):=by kernel_rfl
theorem y3f:(Tryz.prog.info? 67).map (fun i=>(i.zero,i.size,i.bytes))=some (some (.agg #[.int .i64 0,.int .i64 0]),2,16):=by kernel_rfl
theorem XK:(Tryz.prog.info? 3).map (fun i=>(i.zero,i.size,i.bytes))=some (some (.int .i64 0),1,8):=by kernel_rfl
theorem XD:(Tryz.prog.info? 27).map (fun i=>(i.zero,i.size,i.bytes))=some (some (.slice none 0 0),1,24):=by kernel_rfl
theorem y2Z (x:Value) (n:Nat) (news:List Value) (w:World) (h:MSrc w x n 3 news) (hn:n<=4398046511104):Calls Tryz.prog 43 #[x] w fun e w'=>∃ v,e=.returned v/\w'.ownsRow w.heap.size 49 3 v n news/\Below w.heap.size w w':=by
  have HS:Hid (MSrc w x n 3 news):=h;have HO:Hid (w.ownsRow w.heap.size 49 3 (.slice none 0 0) 0 []):=World.ownsRow_nil _ _ _ _;clear h;go_enter Tryz.func43,Tryz.ntmps43;go_wp2_with (at_builtin;refine Y5 w rfl (.const (.slice none 0 0)) (.tmp 3) 22 49 (.agg #[.string ⟨#[]⟩,.int .i64 0,.int .i64 0]) 3 32 rfl y3a y3d rfl (by decide) w.heap.size _ _ 0 n [] _ (by rfl) (by rfl) HO.out HS.out (by unfold maxLen;omega) (by omega) (Nat.le_refl _) ?_;intro v1 w1 ho1 hg1 hn1);have HO1:Hid (w1.ownsRow w.heap.size 49 3 v1 n news):=by
    show World.ownsRow _ _ _ _ _ _ _;rw [Nat.zero_add,List.nil_append] at ho1;exact ho1
  have HB1:Hid (Below w.heap.size w w1):=(Below.refl _ _).grown hg1 (Nat.le_refl _) (fun g hg=>by simp [Value.ownBlock] at hg);clear ho1 hg1 hn1;go_ret;exact ⟨_,rfl,HO1.out,HB1.out⟩
theorem y30 (x:Value) (n:Nat) (news:List Value) (w:World) (h:MSrc w x n 10 news) (hn:n<=977343669134):Calls Tryz.prog 44 #[x] w fun e w'=>∃ v,e=.returned v/\w'.ownsRow w.heap.size 51 10 v n news/\Below w.heap.size w w':=by
  have HS:Hid (MSrc w x n 10 news):=h;have HO:Hid (w.ownsRow w.heap.size 51 10 (.slice none 0 0) 0 []):=World.ownsRow_nil _ _ _ _;clear h;go_enter Tryz.func44,Tryz.ntmps44;go_wp2_with (at_builtin;refine Y5 w rfl (.const (.slice none 0 0)) (.tmp 3) 23 51 (.agg #[.int .i64 0,.int .i64 0,.slice none 0 0,.int .i64 0,.int .i64 0,.int .i64 0,.int .i64 0,.slice none 0 0,.slice none 0 0,.slice none 0 0]) 10 144 rfl y3b y3e rfl (by decide) w.heap.size _ _ 0 n [] _ (by rfl) (by rfl) HO.out HS.out (by unfold maxLen;omega) (by omega) (Nat.le_refl _) ?_;intro v1 w1 ho1 hg1 hn1);have HO1:Hid (w1.ownsRow w.heap.size 51 10 v1 n news):=by
    show World.ownsRow _ _ _ _ _ _ _;rw [Nat.zero_add,List.nil_append] at ho1;exact ho1
  have HB1:Hid (Below w.heap.size w w1):=(Below.refl _ _).grown hg1 (Nat.le_refl _) (fun g hg=>by simp [Value.ownBlock] at hg);clear ho1 hg1 hn1;go_ret;exact ⟨_,rfl,HO1.out,HB1.out⟩
theorem Qv (x:Value) (n:Nat) (news:List Value) (w:World) (h:MSrc w x n 2 news) (hn:n<=8796093022208):Calls Tryz.prog 45 #[x] w fun e w'=>∃ v,e=.returned v/\w'.ownsRow w.heap.size 67 2 v n news/\Below w.heap.size w w':=by
  have HS:Hid (MSrc w x n 2 news):=h;have HO:Hid (w.ownsRow w.heap.size 67 2 (.slice none 0 0) 0 []):=World.ownsRow_nil _ _ _ _;clear h;go_enter Tryz.func45,Tryz.ntmps45;go_wp2_with (at_builtin;refine Y5 w rfl (.const (.slice none 0 0)) (.tmp 3) 24 67 (.agg #[.int .i64 0,.int .i64 0]) 2 16 rfl y3c y3f rfl (by decide) w.heap.size _ _ 0 n [] _ (by rfl) (by rfl) HO.out HS.out (by unfold maxLen;omega) (by omega) (Nat.le_refl _) ?_;intro v1 w1 ho1 hg1 hn1);have HO1:Hid (w1.ownsRow w.heap.size 67 2 v1 n news):=by
    show World.ownsRow _ _ _ _ _ _ _;rw [Nat.zero_add,List.nil_append] at ho1;exact ho1
  have HB1:Hid (Below w.heap.size w w1):=(Below.refl _ _).grown hg1 (Nat.le_refl _) (fun g hg=>by simp [Value.ownBlock] at hg);clear ho1 hg1 hn1;go_ret;exact ⟨_,rfl,HO1.out,HB1.out⟩
theorem Zw (x:Value) (n:Nat) (news:List Value) (w:World) (h:MSrc w x n 1 news) (hn:n<=17592186044416):Calls Tryz.prog 46 #[x] w fun e w'=>∃ v,e=.returned v/\w'.ownsRow w.heap.size 3 1 v n news/\Below w.heap.size w w':=by
  have HS:Hid (MSrc w x n 1 news):=h;have HO:Hid (w.ownsRow w.heap.size 3 1 (.slice none 0 0) 0 []):=World.ownsRow_nil _ _ _ _;clear h;go_enter Tryz.func46,Tryz.ntmps46;go_wp2_with (at_builtin;refine Y5 w rfl (.const (.slice none 0 0)) (.tmp 3) 27 3 (.int .i64 0) 1 8 rfl Zm XK rfl (by decide) w.heap.size _ _ 0 n [] _ (by rfl) (by rfl) HO.out HS.out (by unfold maxLen;omega) (by omega) (Nat.le_refl _) ?_;intro v1 w1 ho1 hg1 hn1);have HO1:Hid (w1.ownsRow w.heap.size 3 1 v1 n news):=by
    show World.ownsRow _ _ _ _ _ _ _;rw [Nat.zero_add,List.nil_append] at ho1;exact ho1
  have HB1:Hid (Below w.heap.size w w1):=(Below.refl _ _).grown hg1 (Nat.le_refl _) (fun g hg=>by simp [Value.ownBlock] at hg);clear ho1 hg1 hn1;go_ret;exact ⟨_,rfl,HO1.out,HB1.out⟩
theorem y32 (x:Value) (n:Nat) (news:List Value) (w:World) (h:MSrc w x n 1 news) (hn:n<=5864062014805):Calls Tryz.prog 47 #[x] w fun e w'=>∃ v,e=.returned v/\w'.ownsRow w.heap.size 27 1 v n news/\Below w.heap.size w w':=by
  have HS:Hid (MSrc w x n 1 news):=h;have HO:Hid (w.ownsRow w.heap.size 27 1 (.slice none 0 0) 0 []):=World.ownsRow_nil _ _ _ _;clear h;go_enter Tryz.func47,Tryz.ntmps47;go_wp2_with (at_builtin;refine Y5 w rfl (.const (.slice none 0 0)) (.tmp 3) 30 27 (.slice none 0 0) 1 24 rfl XC XD rfl (by decide) w.heap.size _ _ 0 n [] _ (by rfl) (by rfl) HO.out HS.out (by unfold maxLen;omega) (by omega) (Nat.le_refl _) ?_;intro v1 w1 ho1 hg1 hn1);have HO1:Hid (w1.ownsRow w.heap.size 27 1 v1 n news):=by
    show World.ownsRow _ _ _ _ _ _ _;rw [Nat.zero_add,List.nil_append] at ho1;exact ho1
  have HB1:Hid (Below w.heap.size w w1):=(Below.refl _ _).grown hg1 (Nat.le_refl _) (fun g hg=>by simp [Value.ownBlock] at hg);clear ho1 hg1 hn1;go_ret;exact ⟨_,rfl,HO1.out,HB1.out⟩
end Go.Proofs.YtjgghimjnbjlbaaGreatDoor

namespace Go.Proofs.YtjgghimjnbjlbaaGreatDoor
open Go.RowKit
theorem Kept.young {S T:Nat->Prop} {w w1:World} {p:World->Prop} (h:Kept S w p) (ho:MOff S w w1) (hT:∀ b,T b->S b∨w.heap.size<=b):Kept T w1 p:=fun w2 h2=>
  h w2 ⟨Nat.le_trans ho.size h2.size,fun k hk hs=>(h2.block k (Nat.lt_of_lt_of_le hk ho.size) fun ht=>(hT k ht).elim hs (fun h=>by omega)).trans (ho.block k hk hs)⟩
theorem Kept.less {S T:Nat->Prop} {w:World} {p:World->Prop} (h:Kept T w p) (hs:∀ k,S k->T k):Kept S w p:=fun w2 h2=>h w2 (h2.less hs)
theorem y35 {P:Nat->Value->Prop} {n:Nat} (h:∀ j,j<n->∃ u,P j u):∃ us:List Value,us.length=n/\∀ j (hj:j<us.length),P j us[j]:=by
  induction n with
  | zero=>exact ⟨[],rfl,fun j hj=>absurd hj (Nat.not_lt_zero _)⟩
  | succ n ih =>
    obtain ⟨us,hl,hp⟩:=ih fun j hj=>h j (by omega)
    obtain ⟨u,hu⟩:=h n (by omega);refine ⟨us++[u],by simp [hl],fun j hj=>?_⟩;rcases Nat.lt_or_ge j us.length with h1 | h1
    · rw [List.getElem_append_left h1];exact hp j h1
    · have:j=n:=by simp at hj;omega
      subst this;rw [List.getElem_append_right h1];simp [hl];exact hu
structure KRows (S:Nat->Prop) (w:World) (v:Value) (l:List (List Int)) (us:List Value):Prop where
  len:us.length=l.length
  form:∃ a cap,v=.slice a l.length cap/\l.length<=maxLen/\(0<l.length->∃ b off,a=some ⟨b,off,none⟩/\b<w.heap.size/\¬ S b/\∀ j (h:j<us.length),w.cell? ⟨b,off+j,none⟩=some us[j])
  each:∀ j (h:j<us.length) (h2:j<l.length),Kept S w (fun w'=>MInts w' us[j] l[j])
theorem KRows.next {S:Nat->Prop} {w w':World} {v:Value} {l:List (List Int)} {us:List Value} (h:KRows S w v l us) (ho:MOff S w w'):KRows S w' v l us:=by
  refine ⟨h.len,?_,fun j hj h2=>(h.each j hj h2).next ho⟩;obtain ⟨a,cap,hv,hm,hc⟩:=h.form;refine ⟨a,cap,hv,hm,fun h0=>?_⟩;obtain ⟨b,off,ha,hb,hS,hj⟩:=hc h0;exact ⟨b,off,ha,Nat.lt_of_lt_of_le hb ho.size,hS,fun j h=>(World.cell?_of_block (a:=⟨b,off+j,none⟩) (ho.block b hb hS)).trans (hj j h)⟩
theorem KRows.rows {S:Nat->Prop} {w:World} {v:Value} {l:List (List Int)} {us:List Value} (h:KRows S w v l us):RowsAt w v l:=by
  obtain ⟨a,cap,hv,hm,hc⟩:=h.form;refine ⟨a,cap,hv,hm,fun h0=>?_⟩;obtain ⟨b,off,ha,hb,_,hj⟩:=hc h0;exact ⟨b,off,ha,hb,fun j h1=>⟨us[j]'(by rw [h.len];exact h1),hj j _,(h.each j (by rw [h.len];exact h1) h1).now⟩⟩
theorem KRows.src {S:Nat->Prop} {w:World} {v:Value} {l:List (List Int)} {us:List Value} (h:KRows S w v l us):MSrc w v l.length 1 us:=by
  obtain ⟨a,cap,hv,hm,hc⟩:=h.form;refine ⟨a,cap,hv,by rw [h.len,Nat.mul_one],fun u hu=>?_,fun ha=>?_,fun ad ha j u hj=>?_⟩
  · obtain ⟨j,hj,rfl⟩:=List.mem_iff_getElem.1 hu
    obtain ⟨a',c',he,_⟩:=(h.each j hj (by rw [<-h.len];exact hj)).now;rw [he];rfl
  · rcases Nat.eq_zero_or_pos l.length with h0 | h0
    · exact h0
    · obtain ⟨b,off,hb,_⟩:=hc h0
      rw [ha] at hb;cases hb
  · obtain ⟨hj',he⟩:=List.getElem?_eq_some_iff.1 hj
    obtain ⟨b,off,hb,_,_,hcell⟩:=hc (by rw [<-h.len];omega);rw [ha] at hb;injection hb with hb;subst hb;rw [zx,<-he];exact hcell j hj'
theorem KRows.old {S:Nat->Prop} {w0 w:World} {v:Value} {l:List (List Int)} (h:RowsAt w0 v l) (h0:Below w0.heap.size w0 w) (hS:∀ k,S k->w0.heap.size<=k):∃ us,KRows S w v l us:=by
  obtain ⟨a,cap,hv,hm,hc⟩:=h;rcases Nat.eq_zero_or_pos l.length with hz | hz
  · exact ⟨[],by rw [hz];rfl,⟨a,cap,hv,hm,fun h=>by omega⟩,fun j hj=>absurd hj (Nat.not_lt_zero _)⟩
  · obtain ⟨b,off,ha,hb,hj⟩:=hc hz
    obtain ⟨us,hl,hp⟩:=y35 (n:=l.length) (P:=fun j u=>w0.cell? ⟨b,off+j,none⟩=some u/\∀ (h:j<l.length),MInts w0 u l[j]) (fun j h1=>by
      obtain ⟨u,h2,h3⟩:=hj j h1
      exact ⟨u,h2,fun _=>h3⟩)
    refine ⟨us,hl,⟨a,cap,hv,hm,fun _=>⟨b,off,ha,Nat.lt_of_lt_of_le hb h0.size,fun e=>by have:=hS b e;omega,fun j h1=>?_⟩⟩,fun j h1 h2=>Zx ((hp j h1).2 h2) h0 hS⟩;exact (h0.cell (p:=⟨b,off+j,none⟩) hb).trans (hp j h1).1
theorem KRows.own {S:Nat->Prop} {w:World} {B:Nat} {v:Value} {l:List (List Int)} {us:List Value} {e:TypeId} (h:w.ownsRow B e 1 v l.length us) (hl:us.length=l.length) (hm:l.length<=maxLen) (hS:∀ g,B<=g->¬ S g) (hk:∀ j (h:j<us.length) (h2:j<l.length),Kept S w (fun w'=>MInts w' us[j] l[j])):KRows S w v l us:=by
  refine ⟨hl,?_,hk⟩;rcases zZ h with ⟨rfl,hn⟩ | ⟨g,cap,rfl,hB,hg,_,hc⟩
  · exact ⟨none,0,by rw [hn],hm,fun h0=>by omega⟩
  · exact ⟨_,cap,rfl,hm,fun _=>⟨g,0,rfl,hg,hS g hB,fun j hj=>by rw [Nat.zero_add];exact hc j _ (List.getElem?_eq_getElem hj)⟩⟩
structure KCn (S:Nat->Prop) (w:World) (c:Md.Cn) (vt vx vb vr:Value):Prop where
  t:Kept S w (fun w'=>TermsAt w' vt c.terms)
  x:Kept S w (fun w'=>MInts w' vx c.xs)
  xcap:∀ a n cp,vx=.slice a n cp->n<=cp
  b:Kept S w (fun w'=>MInts w' vb c.table)
  r:∃ us,KRows S w vr c.rows us
theorem KCn.at {S:Nat->Prop} {w:World} {c:Md.Cn} {vt vx vb vr:Value} (h:KCn S w c vt vx vb vr):CnAt w c vt vx vb vr:=by
  obtain ⟨us,hr⟩:=h.r;exact ⟨h.t.now,h.x.now,h.xcap,h.b.now,hr.rows⟩
theorem KCn.next {S:Nat->Prop} {w w':World} {c:Md.Cn} {vt vx vb vr:Value} (h:KCn S w c vt vx vb vr) (ho:MOff S w w'):KCn S w' c vt vx vb vr:=by
  obtain ⟨us,hr⟩:=h.r;exact ⟨h.t.next ho,h.x.next ho,h.xcap,h.b.next ho,us,hr.next ho⟩
theorem KCn.old {S:Nat->Prop} {w0 w:World} {c:Md.Cn} {vt vx vb vr:Value} (h:CnAt w0 c vt vx vb vr) (h0:Below w0.heap.size w0 w) (hS:∀ k,S k->w0.heap.size<=k):KCn S w c vt vx vb vr:=
  ⟨(y36 h h0 hS).imp fun _ h=>h.t,Zx h.x h0 hS,h.xcap,Zx h.b h0 hS,KRows.old h.r h0 hS⟩
def yJ (c:Md.Cn) (vt vx vb vr:Value):List Value:=[.int .i64 c.kind,.int .i64 c.op,vt,.int .i64 c.k,.int .i64 c.v,.int .i64 c.x,.int .i64 c.y,vx,vb,vr]
def InArr (cur:Array Value) (o:Nat) (L:List Value):Prop:=∀ i u,L[i]?=some u->cur[o+i]?=some u
theorem InArr.far {cur:Array Value} {o p:Nat} {L:List Value} {v:Value} (h:InArr cur o L) (hp:p<o∨o+L.length<=p):InArr (cur.setIfInBounds p v) o L:=fun i u hi=>by
  have hl:=(List.getElem?_eq_some_iff.1 hi).1;rw [Array.getElem?_setIfInBounds_ne (by omega)];exact h i u hi
theorem InArr.set {cur:Array Value} {o q:Nat} {L:List Value} (h:InArr cur o L) (hq:q<L.length) (v:Value):InArr (cur.setIfInBounds (o+q) v) o (L.set q v):=fun i u hi=>by
  rw [List.getElem?_set] at hi
  by_cases e:q=i
  · subst e
    rw [if_pos rfl,if_pos hq] at hi;have hs:o+q<cur.size:=(Array.getElem?_eq_some_iff.1 (h q _ (List.getElem?_eq_getElem hq))).1;rw [Array.getElem?_setIfInBounds_self_of_lt hs];exact hi
  · rw [if_neg e] at hi
    rw [Array.getElem?_setIfInBounds_ne (by omega)];exact h i u hi
theorem InArr.cells {w:World} {g:Nat} {cur:Array Value} {t:TypeId} {o:Nat} {c:Md.Cn} {vt vx vb vr:Value} (h:InArr cur o (yJ c vt vx vb vr)) (hg:w.heap[g]?=some (.cells cur t (0,0))):CnCells w g o c vt vx vb vr:=by
  have key:∀ i u,(yJ c vt vx vb vr)[i]?=some u->w.cell? ⟨g,o+i,none⟩=some u:=fun i u hi=>by
    have:=h i u hi;simp [World.cell?,hg,this]
  exact ⟨key 0 _ rfl,key 1 _ rfl,key 2 _ rfl,key 3 _ rfl,key 4 _ rfl,key 5 _ rfl,key 6 _ rfl,key 7 _ rfl,key 8 _ rfl,key 9 _ rfl⟩
theorem KRows.less {S T:Nat->Prop} {w:World} {v:Value} {l:List (List Int)} {us:List Value} (h:KRows T w v l us) (hs:∀ k,S k->T k):KRows S w v l us:=by
  refine ⟨h.len,?_,fun j hj h2=>(h.each j hj h2).less hs⟩;obtain ⟨a,cap,hv,hm,hc⟩:=h.form;refine ⟨a,cap,hv,hm,fun h0=>?_⟩;obtain ⟨b,off,ha,hb,hS,hj⟩:=hc h0;exact ⟨b,off,ha,hb,fun e=>hS (hs b e),hj⟩
theorem KCn.less {S T:Nat->Prop} {w:World} {c:Md.Cn} {vt vx vb vr:Value} (h:KCn T w c vt vx vb vr) (hs:∀ k,S k->T k):KCn S w c vt vx vb vr:=by
  obtain ⟨us,hr⟩:=h.r;exact ⟨h.t.less hs,h.x.less hs,h.xcap,h.b.less hs,us,hr.less hs⟩
structure KCons (B0 q:Nat) (w:World) (g r cap:Nat) (l:List Md.Cn) (cur:Array Value):Prop where
  blk:w.heap[g]?=some (.cells cur 51 (0,0))
  size:cur.size=cap * 10
  le:l.length<=cap
  max:cap<=maxLen
  each:∀ j (h:j<l.length),∃ vt vx vb vr,InArr cur (j * 10) (yJ l[j] vt vx vb vr)/\KCn (fun b=>(j<q/\b<B0)∨b=g∨b=r) w l[j] vt vx vb vr
theorem KCons.write {B0:Nat} {w w':World} {g r cap k:Nat} {l:List Md.Cn} {cur:Array Value} {vt vx vb vr vt' vx' vb' vr':Value} (h:KCons B0 k w g r cap l cur) (hk:k<l.length) (h0:InArr cur (k * 10) (yJ l[k] vt vx vb vr)) (ho:MOff (fun b=>b=g∨b=r) w w')
    (hb:w'.heap[g]?=some (.cells ((((cur.setIfInBounds (k * 10+2) vt').setIfInBounds (k * 10+7) vx').setIfInBounds (k * 10+8) vb').setIfInBounds (k * 10+9) vr') 51 (0,0))) (hn:KCn (fun b=>b<B0∨b=g∨b=r) w' l[k] vt' vx' vb' vr') :
    KCons B0 (k+1) w' g r cap l ((((cur.setIfInBounds (k * 10+2) vt').setIfInBounds (k * 10+7) vx').setIfInBounds (k * 10+8) vb').setIfInBounds (k * 10+9) vr'):=by
  refine ⟨hb,by simp [h.size],h.le,h.max,fun j hj=>?_⟩
  by_cases e:j=k
  · subst e
    refine ⟨vt',vx',vb',vr',?_,hn.less fun b e=>e.imp (fun e=>e.2) id⟩;exact ((((h0.set (q:=2) (by simp [yJ]) vt').set (q:=7) (by simp [yJ]) vx').set (q:=8) (by simp [yJ]) vb').set (q:=9) (by simp [yJ]) vr')
  · obtain ⟨v1,v2,v3,v4,h1,h2⟩:=h.each j hj
    have hlen:(yJ l[j] v1 v2 v3 v4).length=10:=rfl;refine ⟨v1,v2,v3,v4,?_,(h2.next (ho.less fun _=>.inr)).less fun b e=>e.imp (fun e=>⟨by omega,e.2⟩) id⟩;exact (((h1.far (by rw [hlen];omega)).far (by rw [hlen];omega)).far (by rw [hlen];omega)).far (by rw [hlen];omega)
theorem Qw (f:Nat->List Value) (s:Nat) (hf:∀ j,(f j).length=s) (n:Nat):((List.range n).flatMap f).length=n * s:=by
  induction n with
  | zero=>simp
  | succ n ih=>rw [List.range_succ,List.flatMap_append,List.length_append,ih,Nat.succ_mul];simp [hf]
theorem Qx (f:Nat->List Value) (s:Nat) (hf:∀ j,(f j).length=s) (n j i:Nat) (hj:j<n) (hi:i<s):((List.range n).flatMap f)[j * s+i]?=(f j)[i]?:=by
  induction n with
  | zero=>omega
  | succ n ih =>
    rw [List.range_succ,List.flatMap_append];have hl:=Qw f s hf n;rcases Nat.lt_or_ge j n with h | h
    · have:j * s+i<n * s:=by
        have:=Nat.mul_le_mul_right s (show j+1<=n from h);rw [Nat.succ_mul] at this;omega
      rw [List.getElem?_append_left (by rw [hl];exact this)];exact ih h
    · have hjn:j=n:=by omega
      subst hjn;rw [List.getElem?_append_right (by rw [hl];omega),hl,Nat.add_sub_cancel_left];simp
theorem ConsAt.srcs {w:World} {v:Value} {l:List Md.Cn} (h:ConsAt w v l):∃ D:Nat->Value × Value × Value × Value,MSrc w v l.length 10 ((List.range l.length).flatMap fun j=>yJ (l.getD j ⟨0,0,[],0,0,0,0,[],[],[]⟩) (D j).1 (D j).2.1 (D j).2.2.1 (D j).2.2.2)/\∀ j (h:j<l.length),CnAt w l[j] (D j).1 (D j).2.1 (D j).2.2.1 (D j).2.2.2:=by
  obtain ⟨a,cap,hv,hm,hc⟩:=h;have hflat:∀ D:Nat->Value × Value × Value × Value,((List.range l.length).flatMap fun j=>yJ (l.getD j ⟨0,0,[],0,0,0,0,[],[],[]⟩) (D j).1 (D j).2.1 (D j).2.2.1 (D j).2.2.2).length=l.length * 10:=fun D=>Qw _ 10 (fun j=>rfl) _
  rcases Nat.eq_zero_or_pos l.length with hz | hz
  · refine ⟨fun _=>(undef,undef,undef,undef),⟨a,cap,hv,hflat _,fun u hu=>?_,fun _=>hz,fun ad _ j u hj=>?_⟩,fun j hj=>by omega⟩
    · rw [hz] at hu;simp at hu
    · rw [hz] at hj;simp at hj
  · obtain ⟨b,off,ha,hb,hj⟩:=hc hz
    have hD:∀ j,∃ d:Value × Value × Value × Value,∀ (h:j<l.length),CnAt w l[j] d.1 d.2.1 d.2.2.1 d.2.2.2/\CnCells w b (off+j * 10) l[j] d.1 d.2.1 d.2.2.1 d.2.2.2:=fun j=>by
      by_cases h1:j<l.length
      · obtain ⟨v1,v2,v3,v4,h2,h3⟩:=hj j h1
        exact ⟨(v1,v2,v3,v4),fun _=>⟨h2,h3⟩⟩
      · exact ⟨(undef,undef,undef,undef),fun h=>absurd h h1⟩
    obtain ⟨D,hD⟩:=Classical.axiomOfChoice hD;have key:∀ q u,((List.range l.length).flatMap fun j=>yJ (l.getD j ⟨0,0,[],0,0,0,0,[],[],[]⟩) (D j).1 (D j).2.1 (D j).2.2.1 (D j).2.2.2)[q]?=some u->w.cell? ⟨b,off+q,none⟩=some u/\u.oneCell'=true:=fun q u hq=>by
      have hql:q<l.length * 10:=by rw [<-hflat D];exact (List.getElem?_eq_some_iff.1 hq).1
      have hjl:q / 10<l.length:=by omega
      have e:q=q / 10 * 10+q % 10:=by omega
      rw [e,Qx _ 10 (fun j=>rfl) _ _ _ hjl (by omega)] at hq;obtain ⟨hA,h0,h1,h2,h3,h4,h5,h6,h7,h8,h9⟩:=hD (q / 10) hjl;have hgd:l.getD (q / 10) ⟨0,0,[],0,0,0,0,[],[],[]⟩=l[q / 10]:=by rw [List.getD_eq_getElem?_getD,List.getElem?_eq_getElem hjl];rfl
      rw [hgd] at hq;obtain ⟨at1,ct1,et,_⟩:=hA.t;obtain ⟨ax1,cx1,ex,_⟩:=hA.x;obtain ⟨ab1,cb1,eb,_⟩:=hA.b;obtain ⟨ar1,cr1,er,_⟩:=hA.r;have e2:off+q=off+q / 10 * 10+q % 10:=by omega
      rw [e2];have hi:q % 10<10:=Nat.mod_lt _ (by decide);generalize q % 10=i at *
      match i,hi with
      | 0,_=>cases hq;exact ⟨h0,rfl⟩
      | 1,_=>cases hq;exact ⟨h1,rfl⟩
      | 2,_=>simp only [yJ] at hq;cases hq;exact ⟨h2,by rw [et];rfl⟩
      | 3,_=>cases hq;exact ⟨h3,rfl⟩
      | 4,_=>cases hq;exact ⟨h4,rfl⟩
      | 5,_=>cases hq;exact ⟨h5,rfl⟩
      | 6,_=>cases hq;exact ⟨h6,rfl⟩
      | 7,_=>simp only [yJ] at hq;cases hq;exact ⟨h7,by rw [ex];rfl⟩
      | 8,_=>simp only [yJ] at hq;cases hq;exact ⟨h8,by rw [eb];rfl⟩
      | 9,_=>simp only [yJ] at hq;cases hq;exact ⟨h9,by rw [er];rfl⟩
    refine ⟨D,⟨a,cap,hv,hflat D,fun u hu=>?_,fun hn=>(by rw [hn] at ha;cases ha),fun ad hd q u hq=>?_⟩,fun j h=>(hD j h).1⟩
    · obtain ⟨q,hq,rfl⟩:=List.mem_iff_getElem.1 hu
      exact (key q _ (List.getElem?_eq_getElem hq)).2
    · rw [ha] at hd
      injection hd with hd;subst hd;rw [zx];exact (key q u hq).1
end Go.Proofs.YtjgghimjnbjlbaaGreatDoor

namespace Go.Proofs.YtjgghimjnbjlbaaGreatDoor
open Go.RowKit
theorem MSrc.below {w w':World} {x:Value} {m size:Nat} {news:List Value} (h:MSrc w x m size news) (hb:Below w.heap.size w w'):MSrc w' x m size news:=by
  obtain ⟨a,c,h1,h2,h3,h4,h5⟩:=h;exact ⟨a,c,h1,h2,h3,h4,fun ad ha j u hj=>yA hb (h5 ad ha j u hj)⟩
abbrev ob (v:Value):Nat->Prop:=fun b=>v.ownBlock=some b
structure COwn (B0 q B r:Nat) (w:World) (v:Value) (l:List Md.Cn) (xs:List Value):Prop where
  own:w.ownsRow B 51 10 v l.length xs
  each:∀ j (h:j<l.length),∃ vt vx vb vr,(∀ i u,(yJ l[j] vt vx vb vr)[i]?=some u->xs[j * 10+i]?=some u)/\KCn (fun b=>(j<q/\b<B0)∨ob v b∨b=r) w l[j] vt vx vb vr
theorem COwn.start {w0 w:World} {B0 B r:Nat} {v:Value} {l:List Md.Cn} {D:Nat->Value × Value × Value × Value} (h:w.ownsRow B 51 10 v l.length ((List.range l.length).flatMap fun j=>yJ (l.getD j ⟨0,0,[],0,0,0,0,[],[],[]⟩) (D j).1 (D j).2.1 (D j).2.2.1 (D j).2.2.2)) (hD:∀ j (h:j<l.length),CnAt w0 l[j] (D j).1 (D j).2.1 (D j).2.2.1 (D j).2.2.2) (h0:Below w0.heap.size w0 w) (hB:w0.heap.size<=B) (hr:w0.heap.size<=r):COwn B0 0 B r w v l ((List.range l.length).flatMap fun j=>yJ (l.getD j ⟨0,0,[],0,0,0,0,[],[],[]⟩) (D j).1 (D j).2.1 (D j).2.2.1 (D j).2.2.2):=by
  refine ⟨h,fun j hj=>⟨_,_,_,_,fun i u hi=>?_,KCn.old (hD j hj) h0 (fun k hk=>hk.elim (fun hk=>absurd hk.1 (by omega)) fun hk=>hk.elim (fun hk=>Nat.le_trans hB (h.lt k hk).1) (fun hk=>by omega))⟩⟩;have hi10:i<10:=(List.getElem?_eq_some_iff.1 hi).1;have hq:=Qx (fun j=>yJ (l.getD j ⟨0,0,[],0,0,0,0,[],[],[]⟩) (D j).1 (D j).2.1 (D j).2.2.1 (D j).2.2.2) 10 (fun j=>rfl) l.length j i hj hi10;have hgd:l.getD j ⟨0,0,[],0,0,0,0,[],[],[]⟩=l[j]:=by rw [List.getD_eq_getElem?_getD,List.getElem?_eq_getElem hj];rfl
  rw [hq];simp only [hgd];exact hi
theorem COwn.kcons {B0 q B r n cap g:Nat} {w:World} {l:List Md.Cn} {xs:List Value} (h:COwn B0 q B r w (.slice (some ⟨g,0,none⟩) n cap) l xs):B<=g/\∃ cur,KCons B0 q w g r cap l cur:=by
  rcases h.own.2 with ⟨hv,_⟩ | ⟨g',cap',cur,hv,hg,hc,hm,hx,hs,ht⟩
  · injection hv with h1 _ _;cases h1
  · injection hv with h1 _ h3
    injection h1 with h1;injection h1 with h1;subst h1 h3;refine ⟨hg,cur,hc,hs,hm,hx,fun j hj=>?_⟩;obtain ⟨vt,vx,vb,vr,h1,h2⟩:=h.each j hj;refine ⟨vt,vx,vb,vr,fun i u hi=>?_,h2.less fun k hk=>hk.imp id (fun hk=>hk.imp (fun e=>by rw [e];rfl) id)⟩;have hi10:i<10:=(List.getElem?_eq_some_iff.1 hi).1;have:=h1 i u hi;rw [<-ht,List.getElem?_take,if_pos (by omega)] at this;simpa using this
theorem KCons.cown {B0 q B r cap g:Nat} {w:World} {l:List Md.Cn} {cur:Array Value} (h:KCons B0 q w g r cap l cur) (hB:B<=g):COwn B0 q B r w (.slice (some ⟨g,0,none⟩) l.length cap) l (cur.toList.take (l.length * 10)):=by
  have hle:l.length * 10<=cur.size:=by rw [h.size];exact Nat.mul_le_mul_right 10 h.le
  refine ⟨⟨by simp;omega,.inr ⟨g,cap,cur,rfl,hB,h.blk,h.le,h.max,h.size,rfl⟩⟩,fun j hj=>?_⟩;obtain ⟨vt,vx,vb,vr,h1,h2⟩:=h.each j hj;refine ⟨vt,vx,vb,vr,fun i u hi=>?_,h2.less fun k hk=>hk.imp id (fun hk=>hk.imp (fun hk=>by simp [ob,Value.ownBlock] at hk;exact hk.symm) id)⟩;have hi10:i<10:=(List.getElem?_eq_some_iff.1 hi).1;rw [List.getElem?_take,if_pos (by omega)];simpa using h1 i u hi
theorem COwn.cons {B0 q B r:Nat} {w:World} {v:Value} {l:List Md.Cn} {xs:List Value} (h:COwn B0 q B r w v l xs) (hm:l.length<=maxLen):ConsAt w v l:=by
  rcases zZ h.own with ⟨rfl,hn⟩ | ⟨g,cap,rfl,_,hg,_,hc⟩
  · exact ⟨none,0,by rw [hn],hm,fun h0=>by omega⟩
  · refine ⟨_,cap,rfl,hm,fun _=>⟨g,0,rfl,hg,fun j hj=>?_⟩⟩
    obtain ⟨vt,vx,vb,vr,h1,h2⟩:=h.each j hj;have key:∀ i u,(yJ l[j] vt vx vb vr)[i]?=some u->w.cell? ⟨g,0+j * 10+i,none⟩=some u:=fun i u hi=>by rw [Nat.zero_add];exact hc _ _ (h1 i u hi)
    exact ⟨vt,vx,vb,vr,h2.at,key 0 _ rfl,key 1 _ rfl,key 2 _ rfl,key 3 _ rfl,key 4 _ rfl,key 5 _ rfl,key 6 _ rfl,key 7 _ rfl,key 8 _ rfl,key 9 _ rfl⟩
structure CopyI (w:World) (m:Md.Mo) (vv vc vg:Value) (q:Nat) (wr:World):Prop where
  box:wr.heap[w.heap.size]?=some (.cells #[vv,vc,.bool m.has,vg] 26 (0,0))
  res:wr.heap[w.heap.size+1]?=some (.cells #[.slice none 0 0,.slice none 0 0,.bool false,.slice none 0 0] 26 (0,0))
  below:Below w.heap.size w wr
  cons:∃ xs,COwn w.heap.size q (w.heap.size+2) (w.heap.size+1) wr vc m.cons xs
  vars:Kept (fun b=>b<w.heap.size∨ob vc b∨b=w.heap.size+1) wr (fun w'=>VarsAt w' vv m.vars)
  vcap:∀ a n cp,vv=.slice a n cp->n<=cp
  goal:Kept (fun b=>b<w.heap.size∨ob vc b∨b=w.heap.size+1) wr (fun w'=>TermsAt w' vg m.goal)
theorem CopyI.next {w wr w':World} {m:Md.Mo} {vv vc vg:Value} {q q':Nat} (h:CopyI w m vv vc vg q wr) (ho:MOff (ob vc) wr w') (hb:Below w.heap.size w w') (hc:∃ xs,COwn w.heap.size q' (w.heap.size+2) (w.heap.size+1) w' vc m.cons xs):CopyI w m vv vc vg q' w':=by
  obtain ⟨xs,hx⟩:=h.cons;have hlt:=hx.own.lt;have hb1:=(hLt h.box);have hb2:=(hLt h.res);exact ⟨(ho.block _ hb1 (fun e=>by have:=(hlt _ e).1;omega)).trans h.box,(ho.block _ hb2 (fun e=>by have:=(hlt _ e).1;omega)).trans h.res,hb,hc,h.vars.next (ho.less fun _ e=>.inr (.inl e)),h.vcap,h.goal.next (ho.less fun _ e=>.inr (.inl e))⟩
def Y3 (w:World) (m:Md.Mo) (e:Ending) (w':World):Prop:=
  ∃ vv vc vg xs,e=.returned (.agg #[vv,vc,.bool m.has,vg])/\Below w.heap.size w w'/\COwn w.heap.size m.cons.length w.heap.size (w.heap.size+1) w' vc m.cons xs/\Kept (fun b=>b<w.heap.size∨ob vc b∨b=w.heap.size+1) w' (fun w2=>VarsAt w2 vv m.vars)/\(∀ a n cp,vv=.slice a n cp->n<=cp)/\Kept (fun b=>b<w.heap.size∨ob vc b∨b=w.heap.size+1) w' (fun w2=>TermsAt w2 vg m.goal)
theorem MOff.setG {w:World} {g i:Nat} (v:Value):MOff (fun b=>b=g) w (w.setCell ⟨g,i,none⟩ v):=MOff.set (S:=fun b=>b=g) v rfl
theorem MOff.then {S T:Nat->Prop} {a b c:World} (h:MOff S a b) (k:MOff T b c) (hT:∀ x,T x->a.heap.size<=x):MOff S a c:=
  ⟨Nat.le_trans h.size k.size,fun i hi hs=>(k.block i (Nat.lt_of_lt_of_le hi h.size) fun ht=>by have:=hT i ht;omega).trans (h.block i hi hs)⟩
theorem Qy {w:World} {B B':Nat} {e:TypeId} {size:Nat} {v:Value} {n:Nat} {xs:List Value} (h:w.ownsRow B e size v n xs) (hB:B'<=B):w.ownsRow B' e size v n xs:=by
  refine ⟨h.1,?_⟩;rcases h.2 with h1 | ⟨g,cap,cur,hv,hg,h2⟩
  · exact .inl h1
  · exact .inr ⟨g,cap,cur,hv,Nat.le_trans hB hg,h2⟩
theorem y31 {w W w1 w2 w3:World} {m:Md.Mo} {vv vc vg v1 v2 v3:Value} {D:Nat->Value × Value × Value × Value} (hN:W.heap[w.heap.size]?=some (.cells #[vv,vc,.bool m.has,vg] 26)) (hN1:W.heap[w.heap.size+1]?=some (.cells #[.slice none 0 0,.slice none 0 0,.bool false,.slice none 0 0] 26)) (hs:W.heap.size=w.heap.size+2) (hbW:Below w.heap.size w W)
    (hb1:Below W.heap.size W w1) (hb2:Below w1.heap.size w1 w2) (hb3:Below w2.heap.size w2 w3) (ho1:w1.ownsRow W.heap.size 49 3 v1 m.vars.length (zC m.vars)) (ho2:w2.ownsRow w1.heap.size 51 10 v2 m.cons.length ((List.range m.cons.length).flatMap fun j=>yJ (m.cons.getD j ⟨0,0,[],0,0,0,0,[],[],[]⟩) (D j).1 (D j).2.1 (D j).2.2.1 (D j).2.2.2)) (ho3:w3.ownsRow w2.heap.size 67 2 v3 m.goal.length (zp m.goal))
    (hD:∀ j (h:j<m.cons.length),CnAt w m.cons[j] (D j).1 (D j).2.1 (D j).2.2.1 (D j).2.2.2) (hn:∀ x∈m.vars,x.name.size<=maxLen) (hl:m.vars.length<=maxLen) (hg:m.goal.length<=maxLen) :
    CopyI w m v1 v2 v3 0 (((w3.setCell ⟨w.heap.size,0,none⟩ v1).setCell ⟨w.heap.size,1,none⟩ v2).setCell ⟨w.heap.size,3,none⟩ v3):=by
  have s1:=hb1.size;have s2:=hb2.size;have s3:=hb3.size;have hb13:Below W.heap.size W w3:=(hb1.trans (hb2.mono s1)).trans (hb3.mono (by omega));have hbw:Below w.heap.size w w3:=hbW.trans (hb13.mono (by omega));have hbx:Below w.heap.size w (((w3.setCell ⟨w.heap.size,0,none⟩ v1).setCell ⟨w.heap.size,1,none⟩ v2).setCell ⟨w.heap.size,3,none⟩ v3):=((hbw.setCell (Nat.le_refl _) _).setCell (Nat.le_refl _) _).setCell (Nat.le_refl _) _;have hoff:MOff (fun b=>b=w.heap.size) w3 (((w3.setCell ⟨w.heap.size,0,none⟩ v1).setCell ⟨w.heap.size,1,none⟩ v2).setCell ⟨w.heap.size,3,none⟩ v3):=((MOff.setG _).trans (MOff.setG _)).trans (MOff.setG _);have e0:w3.heap[w.heap.size]?=some (.cells #[vv,vc,.bool m.has,vg] 26):=(hb13.block _ (by omega)).trans hN;have l1:=ho1.lt;have l2:=ho2.lt;have l3:=ho3.lt
  have q1:=yG (yG (yG (S:=fun _=>False) ho1 (fun _ _ h=>h) (MOff.of_below hb2)) (fun _ _ h=>h) (MOff.of_below hb3)) (fun g hg=>by have:=(l1 g hg).1;omega) hoff;have q2:=yG (yG (S:=fun _=>False) ho2 (fun _ _ h=>h) (MOff.of_below hb3)) (fun g hg=>by have:=(l2 g hg).1;omega) hoff;have q3:=yG ho3 (fun g hg=>by have:=(l3 g hg).1;omega) hoff;have hc:=COwn.start (B0:=w.heap.size) (r:=w.heap.size+1) q2 hD hbx (by omega) (by omega)
  refine ⟨?_,?_,hbx,⟨_,Qy hc.own (by omega),hc.each⟩,fun w' ho=>y37 (yG q1 (fun g hg e=>e.elim (fun e=>by have:=(l1 g hg).1;omega) fun e=>e.elim (fun e=>by have:=(l1 g hg).2;have:=(l2 g e).1;omega) (fun e=>by have:=(l1 g hg).1;omega)) ho) hl hn,Qz q1,fun w' ho=>QA (yG q3 (fun g hg e=>e.elim (fun e=>by have:=(l3 g hg).1;omega) fun e=>e.elim (fun e=>by have:=(l3 g hg).1;have:=(l2 g e).2;omega) (fun e=>by have:=(l3 g hg).1;omega)) ho) hg⟩
  · have e1:=heap_setCell_same w3 w.heap.size 0 _ 26 v1 e0
    have e2:=heap_setCell_same _ w.heap.size 1 _ 26 v2 e1;have e3:=heap_setCell_same _ w.heap.size 3 _ 26 v3 e2;exact e3
  · exact (hoff.block _ (by omega) (by omega)).trans ((hb13.block _ (by omega)).trans hN1)
theorem y38 {w:World} {B:Nat} {e:TypeId} {g n cap j:Nat} {xs:List Value} (h:w.ownsRow B e 1 (.slice (some ⟨g,0,none⟩) n cap) n xs) (u:Value):(w.setCell ⟨g,j,none⟩ u).ownsRow B e 1 (.slice (some ⟨g,0,none⟩) n cap) n (xs.set j u):=by
  rcases h.2 with ⟨hv,_⟩ | ⟨g',cap',cur,hv,hg,hc,hm,hx,hs,ht⟩
  · injection hv with h1 _ _;cases h1
  · injection hv with h1 _ h3
    injection h1 with h1;injection h1 with h1;subst h1 h3;refine ⟨by rw [List.length_set];exact h.1,.inr ⟨g,cap,cur.setIfInBounds j u,rfl,hg,heap_setCell_same w g j cur e u hc,hm,hx,by simp [hs],?_⟩⟩;rw [Array.toList_setIfInBounds,<-ht,List.take_set]
structure RowsC (B0 q:Nat) (V:World) (g r:Nat) (v:Value) (l:List (List Int)) (B:Nat) (wq:World):Prop where
  off:MOff (ob v) V wq
  row:∃ us,wq.ownsRow B 27 1 v l.length us/\us.length=l.length/\∀ j (h:j<us.length) (h2:j<l.length),Kept (fun b=>(j<q/\b<B0)∨(b=g∨b=r)∨ob v b) wq (fun w'=>MInts w' us[j] l[j])
theorem RowsC.step {B0:Nat} {V wq w1:World} {g r h n cap j B:Nat} {l:List (List Int)} {v':Value} (hR:RowsC B0 j V g r (.slice (some ⟨h,0,none⟩) n cap) l B wq) (hB0:B0<=wq.heap.size) (hn:l.length=n) (hj:j<n) (hg:g<wq.heap.size) (hr:r<wq.heap.size) (hb:Below wq.heap.size wq w1) (ho:w1.ownsRow wq.heap.size 3 1 v' (l[j]'(by omega)).length ((l[j]'(by omega)).map (.int .i64))) (hm:(l[j]'(by omega)).length<=maxLen):RowsC B0 (j+1) V g r (.slice (some ⟨h,0,none⟩) n cap) l B (w1.setCell ⟨h,j,none⟩ v'):=by
  subst hn;obtain ⟨us,h1,h2,h3⟩:=hR.row;have hh:h<wq.heap.size:=(h1.lt h rfl).2;have o1:MOff (fun b=>(b=g∨b=r)∨ob (.slice (some ⟨h,0,none⟩) l.length cap) b) wq (w1.setCell ⟨h,j,none⟩ v'):=(MOff.of_below hb).trans (MOff.set _ (.inr rfl));refine ⟨hR.off.trans ((MOff.of_below hb).trans (MOff.set _ rfl)),us.set j v',y38 (yG (S:=fun _=>False) h1 (fun _ _ h=>h) (MOff.of_below hb)) v',by rw [List.length_set];exact h2,fun i hi h4=>?_⟩;rw [List.length_set] at hi;rw [List.getElem_set]
  by_cases e:j=i
  · subst e
    rw [if_pos rfl];intro w' hw'
    have ho':=yG (S:=fun b=>(j<j+1/\b<B0)∨(b=g∨b=r)∨ob (.slice (some ⟨h,0,none⟩) l.length cap) b) ho (fun k hk hS=>by
      have:=(ho.lt k hk).1;rcases hS with hS | (rfl | rfl) | hS
      · omega
      · omega
      · omega
      · simp [ob,Value.ownBlock] at hS;omega) ((MOff.set _ (.inr (.inr rfl))).trans hw')
    exact QB ho' hm
  · rw [if_neg e]
    exact ((h3 i hi h4).next (o1.less fun _=>.inr)).less fun b e=>e.imp (fun e=>⟨by omega,e.2⟩) id
theorem y34 {w wr w6 w7 w8 w9 wq V:World} {m:Md.Mo} {g cap k:Nat} {cur:Array Value} {vv vg vt vx vb vr vt' vx' vb' vr':Value} {us:List Value} (hI:CopyI w m vv (.slice (some ⟨g,0,none⟩) m.cons.length cap) vg k wr) (hg:w.heap.size+2<=g) (hK:KCons w.heap.size k wr g (w.heap.size+1) cap m.cons cur) (hk:k<m.cons.length) (h0:InArr cur (k * 10) (yJ m.cons[k] vt vx vb vr))
    (hb6:Below wr.heap.size wr w6) (hb7:Below w6.heap.size w6 w7) (hb8:Below w7.heap.size w7 w8) (hb9:Below w8.heap.size w8 w9) (ht:w6.ownsRow wr.heap.size 67 2 vt' m.cons[k].terms.length (zp m.cons[k].terms)) (hx:w7.ownsRow w6.heap.size 3 1 vx' m.cons[k].xs.length (m.cons[k].xs.map (.int .i64))) (hbt:w8.ownsRow w7.heap.size 3 1 vb' m.cons[k].table.length (m.cons[k].table.map (.int .i64))) (hr:w9.ownsRow w8.heap.size 27 1 vr' m.cons[k].rows.length us)
    (hV:(((w9.setCell ⟨g,k * 10+2,none⟩ vt').setCell ⟨g,k * 10+7,none⟩ vx').setCell ⟨g,k * 10+8,none⟩ vb').setCell ⟨g,k * 10+9,none⟩ vr'=V) {q:Nat} (hR:RowsC w.heap.size q V g (w.heap.size+1) vr' m.cons[k].rows w8.heap.size wq) (hq:m.cons[k].rows.length<=q) (hb:Below w.heap.size w wq)
    (hm:m.cons[k].terms.length<=maxLen/\m.cons[k].xs.length<=maxLen/\m.cons[k].table.length<=maxLen/\m.cons[k].rows.length<=maxLen):CopyI w m vv (.slice (some ⟨g,0,none⟩) m.cons.length cap) vg (k+1) wq:=by
  have s0:=hI.below.size;have s6:=hb6.size;have s7:=hb7.size;have s8:=hb8.size;have s9:=hb9.size;have hgl:g<wr.heap.size:=(hLt hK.blk);have hb69:Below wr.heap.size wr w9:=((hb6.trans (hb7.mono s6)).trans (hb8.mono (by omega))).trans (hb9.mono (by omega));have hoV:MOff (fun b=>b=g) w9 V:=by rw [<-hV];exact (((MOff.setG _).trans (MOff.setG _)).trans (MOff.setG _)).trans (MOff.setG _)
  have hoW:MOff (fun b=>b=g) wr V:=(MOff.of_below hb69).trans hoV;have hrl:=hr.lt;have hyoung:∀ x,ob vr' x->wr.heap.size<=x:=fun x hx=>by have:=(hrl x hx).1;omega
  have hoq:MOff (fun b=>b=g) wr wq:=hoW.then hR.off hyoung;have e9:w9.heap[g]?=some (.cells cur 51 (0,0)):=(hb69.block g hgl).trans hK.blk;have eV:V.heap[g]?=some (.cells ((((cur.setIfInBounds (k * 10+2) vt').setIfInBounds (k * 10+7) vx').setIfInBounds (k * 10+8) vb').setIfInBounds (k * 10+9) vr') 51 (0,0)):=by
    rw [<-hV];exact heap_setCell_same _ g _ _ 51 vr' (heap_setCell_same _ g _ _ 51 vb' (heap_setCell_same _ g _ _ 51 vx' (heap_setCell_same w9 g _ cur 51 vt' e9)))
  have hsV:w9.heap.size<=V.heap.size:=hoV.size;have eq:wq.heap[g]?=some (.cells ((((cur.setIfInBounds (k * 10+2) vt').setIfInBounds (k * 10+7) vx').setIfInBounds (k * 10+8) vb').setIfInBounds (k * 10+9) vr') 51 (0,0)):=(hR.off.block g (by omega) (fun e=>by have:=(hrl g e).1;omega)).trans eV;have lt:=ht.lt;have lx:=hx.lt;have lb:=hbt.lt;have t2:=yG (yG (yG (yG (yG (S:=fun _=>False) ht (fun _ _ h=>h) (MOff.of_below hb7)) (fun _ _ h=>h) (MOff.of_below hb8)) (fun _ _ h=>h) (MOff.of_below hb9)) (fun b hb=>by have:=(lt b hb).1;omega) hoV) (fun b hb e=>by have:=(lt b hb).2;have:=(hrl b e).1;omega) hR.off
  have x2:=yG (yG (yG (yG (S:=fun _=>False) hx (fun _ _ h=>h) (MOff.of_below hb8)) (fun _ _ h=>h) (MOff.of_below hb9)) (fun b hb=>by have:=(lx b hb).1;omega) hoV) (fun b hb e=>by have:=(lx b hb).2;have:=(hrl b e).1;omega) hR.off;have b2:=yG (yG (yG (S:=fun _=>False) hbt (fun _ _ h=>h) (MOff.of_below hb9)) (fun b hb=>by have:=(lb b hb).1;omega) hoV) (fun b hb e=>by have:=(lb b hb).2;have:=(hrl b e).1;omega) hR.off;obtain ⟨us',r1,r2,r3⟩:=hR.row;have hn:KCn (fun b=>b<w.heap.size∨b=g∨b=w.heap.size+1) wq m.cons[k] vt' vx' vb' vr':=
    ⟨y39 t2 (fun b hb e=>by omega) hm.1,QC x2 (fun b hb e=>by omega) hm.2.1,Qz x2,QC b2 (fun b hb e=>by omega) hm.2.2.1,us',KRows.own r1 r2 hm.2.2.2 (fun b hb e=>by omega) fun j hj h2=>(r3 j hj h2).less fun _ e=>e.imp (fun e=>⟨Nat.lt_of_lt_of_le h2 hq,e⟩) .inl⟩
  have hKn:=hK.write hk h0 (hoq.less fun _=>.inl) eq hn;exact hI.next (hoq.less fun b e=>by rw [e];rfl) hb ⟨_,hKn.cown hg⟩
theorem y33 {B0:Nat} {wr w8 w9 V:World} {g r:Nat} {vr vr':Value} {l:List (List Int)} {us:List Value} (hU:KRows (fun b=>b=g∨b=r) wr vr l us) (hb:Below wr.heap.size wr w9) (h8:wr.heap.size<=w8.heap.size) (hr:w9.ownsRow w8.heap.size 27 1 vr' l.length us) (hV:MOff (fun b=>b=g) w9 V) (hg:g<wr.heap.size):RowsC B0 0 V g r vr' l w8.heap.size V:=
  ⟨MOff.refl _ _,us,yG hr (fun b hb=>by have:=(hr.lt b hb).1;omega) hV,hU.len,fun j h h2=>(hU.each j h h2).young ((MOff.of_below hb).trans (hV.less fun _=>.inl)) (fun b e=>e.elim (fun e=>absurd e.1 (by omega)) fun e=>e.elim .inl (fun e=>.inr (by have:=(hr.lt b e).1;omega)))⟩
theorem CopyI.done {w wr w':World} {m:Md.Mo} {vv vc vg:Value} (h:CopyI w m vv vc vg m.cons.length wr) (ho:MOff (fun b=>b=w.heap.size+1) wr w') (hb:Below w.heap.size w w'):Y3 w m (.returned (.agg #[vv,vc,.bool m.has,vg])) w':=by
  obtain ⟨xs,hx⟩:=h.cons;refine ⟨vv,vc,vg,xs,rfl,hb,⟨Qy (yG hx.own (fun b hb=>by have:=(hx.own.lt b hb).1;omega) ho) (by omega),fun j hj=>?_⟩,h.vars.next (ho.less fun _ e=>.inr (.inr e)),h.vcap,h.goal.next (ho.less fun _ e=>.inr (.inr e))⟩;obtain ⟨vt,vx,vb,vr,h1,h2⟩:=hx.each j hj;exact ⟨vt,vx,vb,vr,h1,h2.next (ho.less fun _ e=>.inr (.inr e))⟩
end Go.Proofs.YtjgghimjnbjlbaaGreatDoor
