import Derived.Test.YtjnckfchgcmmpaaGreatDoorJ34
import Derived.Laws.BitsAllLaws
import Derived.Test.YtjnckfchgcmmpaaGreatDoorPpBitN
import Derived.Test.YtjnckfchgcmmpaaGreatDoorDmCut
namespace Go.Proofs.YtjnckfchgcmmpaaGreatDoor
open Go.RowKit
def wb (x:Int) (j:Nat):Bool:=x.toNat.testBit j
theorem wb_and {x y:Int} (hx:IsW x) (hy:IsW y) (j:Nat):wb (bits .and .u32 x y) j=(wb x j&&wb y j):=by
  unfold wb;rw [u32_and x y hx.1 hx.2 hy.1 hy.2,Int.toNat_natCast,Nat.testBit_and]
theorem wb_less {x y:Int} (hx:IsW x) (hy:IsW y) (j:Nat) (hj:j<32):wb (bits .andNot .u32 x y) j=(wb x j&&!wb y j):=by
  unfold wb;rw [u32_andNot x y hx.1 hx.2 hy.1 hy.2,Int.toNat_natCast,Nat.testBit_and]
  congr 1
  have h:=Nat.testBit_two_pow_sub_succ (n:=32) (x:=y.toNat) (by have:=hy.2;have:=hy.1;omega) j;rw [show 4294967295-y.toNat=2 ^ 32-(y.toNat+1) by omega,h];simp [hj]
theorem wb_from (k i:Int) (j:Nat) (hj:j<32):wb (fWd k i) j=decide (k-i*32<=(j:Int)):=by
  unfold wb fWd;obtain ⟨s,hs,hs2⟩:∃ s:Nat,(fCl (k-i*32)).toNat=s/\(s<=j↔k-i*32<=(j:Int)):=by
    refine ⟨_,rfl,?_⟩;unfold fCl
    split
    · split at*<;> omega
    · split at*<;> omega
  rw [hs];have e:((4294967295:Int)*2 ^ s % 4294967296).toNat=(4294967295*2 ^ s) % 2 ^ 32:=by
    have:((4294967295:Int)*2 ^ s % 4294967296)=(((4294967295*2 ^ s) % 2 ^ 32:Nat):Int):=by
      rw [Int.natCast_emod,Int.natCast_mul,Int.natCast_pow];rfl
    rw [this,Int.toNat_natCast]
  rw [e,Nat.testBit_mod_two_pow,Nat.testBit_mul_two_pow];have h1:(4294967295:Nat).testBit (j-s)=true:=by
    have:=Nat.testBit_two_pow_sub_one 32 (j-s);rw [show (4294967295:Nat)=2 ^ 32-1 by decide,this];simp;omega
  rw [h1];simp [hj,hs2]
def bt (a b:Int) (k:Nat):Bool:=if k<32 then wb a k else wb b (k-32)
theorem wb_at {x:Int} (hx:IsW x) (j:Nat):(bits .and .u32 (x / 2 ^ j) 1==1)=wb x j:=by
  have hp:(0:Int)<2 ^ j:=Int.pow_pos (by decide);have h1:0<=x / 2 ^ j:=Int.ediv_nonneg hx.1 (Int.le_of_lt hp);have h2:x / 2 ^ j<4294967296:=Int.lt_of_le_of_lt (Int.ediv_le_self _ hx.1) hx.2;rw [u32_and _ 1 h1 h2 (by decide) (by decide)];unfold wb;obtain ⟨n,rfl⟩:∃ n:Nat,x=(n:Int):=⟨x.toNat,by have:=hx.1;omega⟩;have e:((n:Int) / 2 ^ j).toNat=n / 2 ^ j:=by
    have:((n:Int) / 2 ^ j)=((n / 2 ^ j:Nat):Int):=by rw [Int.natCast_ediv,Int.natCast_pow];rfl
    rw [this,Int.toNat_natCast]
  rw [e,Int.toNat_natCast,Nat.testBit_eq_decide_div_mod_eq,show (1:Int).toNat=1 from rfl,Nat.and_one_is_mod];have hm:n / 2 ^ j % 2=0∨n / 2 ^ j % 2=1:=by omega
  rcases hm with h | h <;> simp [h]
theorem btAt_bt {a b:Int} (ha:IsW a) (hb:IsW b) (k:Nat) (hk:k<64):btAt a b (k:Int)=bt a b k:=by
  unfold btAt bt;have h0:(0:Int)<=(k:Int):=by omega
  have h1:(k:Int)<64:=by omega
  simp only [h0,h1,decide_true,Bool.true_and]
  by_cases h:k<32
  · have e:((k:Int) % 32).toNat=k:=by omega
    rw [if_pos (by omega),if_pos h,e];exact wb_at ha k
  · have e:((k:Int) % 32).toNat=k-32:=by omega
    rw [if_neg (by omega),if_neg h,e];exact wb_at hb (k-32)
theorem bt_from (q:Int) (k:Nat) (hk:k<64):bt (fWd q 0) (fWd q 1) k=decide (q<=(k:Int)):=by
  unfold bt
  split
  · rename_i h
    rw [wb_from q 0 k h]
    congr 1
    exact propext (by omega)
  · rename_i h
    rw [wb_from q 1 (k-32) (by omega)]
    congr 1
    exact propext (by omega)
theorem bt_and {a b c d:Int} (ha:IsW a) (hb:IsW b) (hc:IsW c) (hd:IsW d) (k:Nat):bt (bits .and .u32 a c) (bits .and .u32 b d) k=(bt a b k&&bt c d k):=by
  unfold bt
  split
  · exact wb_and ha hc k
  · exact wb_and hb hd (k-32)
theorem bt_less {a b c d:Int} (ha:IsW a) (hb:IsW b) (hc:IsW c) (hd:IsW d) (k:Nat) (hk:k<64):bt (bits .andNot .u32 a c) (bits .andNot .u32 b d) k=(bt a b k&&!bt c d k):=by
  unfold bt
  split
  · rename_i h
    exact wb_less ha hc k h
  · exact wb_less hb hd (k-32) (by omega)
def takesB (kind cv v:Int):Bool:=(kind==1&&decide (v<cv))||(kind==2&&decide (cv<v))||(kind==3&&v==cv)
theorem bt_cut {f a b:Int} (ha:IsW a) (hb:IsW b) (kind cv:Int) (k:Nat) (hk:k<64):bt (lWd (dPlc f cv) kind a 0) (lWd (dPlc f cv) kind b 1) k=(bt a b k&&!takesB kind cv (f+(k:Int))):=by
  have w0:=isW_fWd;unfold lWd takesB
  by_cases h1:kind=1
  · subst h1
    rw [if_pos rfl,if_pos rfl,bt_and ha hb (w0 _ _) (w0 _ _),bt_from _ k hk]
    congr 1
    have:(dPlc f cv<=(k:Int))↔¬ (f+(k:Int)<cv):=by unfold dPlc;omega
    by_cases h:dPlc f cv<=(k:Int)
    · simp [h,this.1 h]
    · have h2:f+(k:Int)<cv:=by
        rcases Int.lt_or_le (f+(k:Int)) cv with h3 | h3
        · exact h3
        · exact absurd (this.2 (by omega)) h
      simp [h,h2]
  by_cases h2:kind=2
  · subst h2
    rw [if_neg (by decide),if_pos rfl,if_neg (by decide),if_pos rfl,bt_less ha hb (w0 _ _) (w0 _ _) k hk,bt_from _ k hk]
    congr 1
    have:(dPlc f cv+1<=(k:Int))↔(cv<f+(k:Int)):=by unfold dPlc;omega
    by_cases h:dPlc f cv+1<=(k:Int)
    · simp [h,this.1 h]
    · have h3:¬ cv<f+(k:Int):=fun e=>h (this.2 e)
      simp [h,h3]
  by_cases h3:kind=3
  · subst h3
    rw [if_neg (by decide),if_neg (by decide),if_pos rfl,if_neg (by decide),if_neg (by decide),if_pos rfl];unfold oWd;rw [bt_less ha hb (isW_bits _ _ _) (isW_bits _ _ _) k hk,bt_less (w0 _ _) (w0 _ _) (w0 _ _) (w0 _ _) k hk,bt_from _ k hk,bt_from _ k hk]
    congr 1
    have:(dPlc f cv<=(k:Int)/\¬ dPlc f cv+1<=(k:Int))↔f+(k:Int)=cv:=by unfold dPlc;omega
    by_cases h:f+(k:Int)=cv
    · have h4:=this.2 h
      simp [h,h4.1,h4.2]
    · by_cases h5:dPlc f cv<=(k:Int)
      · have h6:dPlc f cv+1<=(k:Int):=by
          rcases Int.lt_or_le (k:Int) (dPlc f cv+1) with h7 | h7
          · exact absurd (this.1 ⟨h5,by omega⟩) h
          · exact h7
        simp [h,h5,h6]
      · simp [h,h5]
  · rw [if_neg h1,if_neg h2,if_neg h3,if_neg h1,if_neg h2,if_neg h3]
    simp [h1,h2,h3]
theorem bt_whole (lo hi:Int) (k:Nat) (hk:k<64):bt (wWd lo hi 0) (wWd lo hi 1) k=decide ((k:Int)<=hi-lo):=by
  have w0:=isW_fWd;unfold wWd;rw [bt_less (w0 _ _) (w0 _ _) (w0 _ _) (w0 _ _) k hk,bt_from _ k hk,bt_from _ k hk];have h0:(0:Int)<=(k:Int):=by omega
  by_cases h:(k:Int)<=hi-lo
  · have:¬ hi-lo+1<=(k:Int):=by omega
    simp [h,h0,this]
  · have:hi-lo+1<=(k:Int):=by omega
    simp [h,h0,this]
structure Ct where
  k:Int
  x:Int
  v:Int
theorem Dm.ext {d e:Dm} (h1:d.f=e.f) (h2:d.a=e.a) (h3:d.b=e.b):d=e:=by
  cases d;cases e;simp_all
theorem may_cut {s:St} (c:Ct) (h:s.may c.k c.x c.v=true) (y:Nat) (hy:y<s.now.length):∃ h2:y<(s.cut c.k c.x c.v).now.length,(s.cut c.k c.x c.v).now[y]=if c.x=(y:Int) then s.now[y].cut c.k c.v else s.now[y]:=by
  have hl:=(cut_len s c.k c.x c.v).1;refine ⟨by omega,?_⟩
  cases hi:isB s.now.length c.x with
  | false =>
    have hne:c.x≠(y:Int):=fun e=>by
      rw [e] at hi;simp [isB] at hi;omega
    have e:=(cut_no (k:=c.k) (v:=c.v) hi).1;simp only [e,if_neg hne]
  | true =>
    obtain ⟨q,hq,hq2⟩:∃ q:Nat,c.x=(q:Int)/\q<s.now.length:=by
      simp [isB] at hi;exact ⟨c.x.toNat,by omega,by omega⟩
    rw [hq] at h;obtain ⟨e1,e2,e3⟩:=cut_yes (s:=s) (k:=c.k) (v:=c.v) hq2;rw [e3] at h;simp only [hq]
    cases hw:s.now[q].went c.k c.v with
    | true =>
      have e4:s.cut c.k q c.v={ s with now:=s.now.set q (s.now[q].cut c.k c.v) }:=by rw [e1,hw,if_pos rfl]
      simp only [e4]
      by_cases hyq:q=y
      · subst hyq
        simp
      · rw [List.getElem_set_ne hyq,if_neg (by omega)]
    | false =>
      have e4:s.cut c.k q c.v=s:=by rw [e1,hw];rfl
      simp only [e4]
      by_cases hyq:q=y
      · subst hyq
        rw [if_pos rfl];unfold Dm.may at h;unfold Dm.went at hw;have heq:(s.now[q].cut c.k c.v).eqB s.now[q]=true:=by
          cases h1:(s.now[q].cut c.k c.v).eqB s.now[q] with
          | true=>rfl
          | false =>
            rw [h1] at h hw;simp at h hw;rw [h] at hw
            cases hw
        unfold Dm.eqB at heq;simp at heq;exact (Dm.ext (d:=s.now[q].cut c.k c.v) (e:=s.now[q]) rfl heq.1 heq.2).symm
      · rw [if_neg (by omega)]
end Go.Proofs.YtjnckfchgcmmpaaGreatDoor
namespace Go.Proofs.YtjnckfchgcmmpaaGreatDoor
open Go.RowKit
set_option maxRecDepth 10000
set_option maxHeartbeats 8000000
def Ct.cells (c:Ct):List Value:=[.int .i64 c.k,.int .i64 c.x,.int .i64 c.v]
def cts (L:List Ct):List Value:=L.flatMap Ct.cells
theorem cts_len (L:List Ct):(cts L).length=L.length*3:=by
  induction L with
  | nil=>rfl
  | cons d L ih=>simp only [cts,List.flatMap_cons,List.length_append,List.length_cons] at ih ⊢;rw [ih];simp [Ct.cells];omega
theorem cts_append (L M:List Ct):cts (L++M)=cts L++cts M:=by simp [cts]
theorem cts_get (L:List Ct) (j:Nat) (hj:j<L.length):(cts L)[j*3]?=some (.int .i64 L[j].k)/\(cts L)[j*3+1]?=some (.int .i64 L[j].x)/\(cts L)[j*3+2]?=some (.int .i64 L[j].v):=by
  induction L generalizing j with
  | nil=>exact absurd hj (by simp)
  | cons d L ih =>
    cases j with
    | zero=>exact ⟨rfl,rfl,rfl⟩
    | succ j =>
      have h:=ih j (by simpa using hj);have e:cts (d :: L)=d.cells++cts L:=by simp [cts]
      have key:∀ i,(cts (d :: L))[(j+1)*3+i]?=(cts L)[j*3+i]?:=fun i=>by
        rw [e,List.getElem?_append_right (by simp [Ct.cells];omega)];simp only [Ct.cells,List.length_cons,List.length_nil]
        congr 1
        omega
      refine ⟨?_,?_,?_⟩
      · have:=key 0
        simp only [Nat.add_zero] at this;rw [this];exact h.1
      · rw [key 1];exact h.2.1
      · rw [key 2];exact h.2.2
theorem und27w:Tryz.prog.underlying 140=some (.slice 41):=by kernel_rfl
theorem info46:(Tryz.prog.info? 41).map (fun i=>(i.zero,i.size,i.bytes))=some (some (.agg #[.int .i64 0,.int .i64 0,.int .i64 0]),3,24):=by kernel_rfl
theorem one3 (a b c:Int):∀ u∈([.int .i64 a,.int .i64 b,.int .i64 c]:List Value),u.oneCell'=true:=by
  intro u hu;simp only [List.mem_cons,List.not_mem_nil,or_false] at hu
  rcases hu with rfl | rfl | rfl <;> rfl
def CsOut (L:List Ct) (w:World) (e:Ending) (w':World):Prop:=∃ v,e=.returned v/\w'.ownsRow w.heap.size 41 3 v L.length (cts L)/\Below w.heap.size w w'
def endsL (x:Int) (vs kept:List Int):List Ct:=(if kept.getD 0 0≠vs.getD 0 0 then [⟨1,x,kept.getD 0 0⟩] else [])++(if kept.getD (kept.length-1) 0≠vs.getD (vs.length-1) 0 then [⟨2,x,kept.getD (kept.length-1) 0⟩] else [])
theorem ends_any (x:Int) (vv kv:Value) (vs kept:List Int) (w:World) (hv:IntsAt w vv vs) (hk:IntsAt w kv kept) (h0:0<vs.length) (h1:0<kept.length) (h2:vs.length<=1000) (h3:kept.length<=1000):Calls Tryz.prog 169 #[.int .i64 x,vv,kv] w (CsOut (endsL x vs kept) w):=by
  obtain ⟨va,vc,rfl,_,hvc⟩:=hv;obtain ⟨ka,kc,rfl,_,hkc⟩:=hk;obtain ⟨b,off,rfl,hb,hcl⟩:=hvc h0;obtain ⟨b2,off2,rfl,hb2,hcl2⟩:=hkc h1;have e0:vs.getD 0 0=vs[0]:=by rw [List.getD_eq_getElem?_getD,List.getElem?_eq_getElem h0];rfl
  have e1:kept.getD 0 0=kept[0]:=by rw [List.getD_eq_getElem?_getD,List.getElem?_eq_getElem h1];rfl
  have e2:vs.getD (vs.length-1) 0=vs[vs.length-1]:=by rw [List.getD_eq_getElem?_getD,List.getElem?_eq_getElem (by omega)];rfl
  have e3:kept.getD (kept.length-1) 0=kept[kept.length-1]:=by rw [List.getD_eq_getElem?_getD,List.getElem?_eq_getElem (by omega)];rfl
  have f0:=hcl 0 h0;have f1:=hcl2 0 h1;have f2:=hcl (vs.length-1) (by omega);have f3:=hcl2 (kept.length-1) (by omega);unfold endsL;rw [e0,e1,e2,e3];obtain ⟨p0,hp0⟩:∃ p,vs[0]=p:=⟨_,rfl⟩;obtain ⟨p1,hp1⟩:∃ p,kept[0]=p:=⟨_,rfl⟩;obtain ⟨p2,hp2⟩:∃ p,vs[vs.length-1]=p:=⟨_,rfl⟩;obtain ⟨p3,hp3⟩:∃ p,kept[kept.length-1]=p:=⟨_,rfl⟩;rw [hp0] at f0 ⊢;rw [hp1] at f1 ⊢;rw [hp2] at f2 ⊢;rw [hp3] at f3 ⊢;rw [Nat.add_zero] at f0 f1;have HF:Hid (∀ w',Below w.heap.size w w'->w'.cell? ⟨b,off+(vs.length-1),none⟩=some (.int .i64 p2)/\w'.cell? ⟨b2,off2+(kept.length-1),none⟩=some (.int .i64 p3)):=fun w' hq=>⟨(hq.cell (p:=⟨b,_,none⟩) hb).trans f2,(hq.cell (p:=⟨b2,_,none⟩) hb2).trans f3⟩
  obtain ⟨n2,hn2⟩:∃ n,vs.length-1=n:=⟨_,rfl⟩;obtain ⟨n3,hn3⟩:∃ n,kept.length-1=n:=⟨_,rfl⟩;have i2:(vs.length:Int)-1=(n2:Int):=by omega
  have i3:(kept.length:Int)-1=(n3:Int):=by omega
  have j2:(n2:Int)<(vs.length:Int):=by omega
  have j3:(n3:Int)<(kept.length:Int):=by omega
  have h0I:(0:Int)<(vs.length:Int):=by omega
  have h1I:(0:Int)<(kept.length:Int):=by omega
  rw [hn2,hn3] at HF;have HNil:Hid (w.ownsRow w.heap.size 41 3 (.slice none 0 0) 0 []):=World.ownsRow_nil _ _ _ _;clear hvc hkc hcl hcl2 e0 e1 e2 e3 hp0 hp1 hp2 hp3 hn2 hn3 f2 f3 hb hb2
  by_cases hd1:p1=p0
  · have d1:(p1 != p0)=false:=by simp [hd1]
    obtain ⟨g2,g3⟩:=HF.out w (Below.refl _ _);rw [if_neg (by simpa using hd1),List.nil_append];clear hd1
    by_cases hd2:p3=p2
    · have d2:(p3 != p2)=false:=by simp [hd2]
      rw [if_neg (by simpa using hd2)];clear hd2;go_enter Tryz.func169,Tryz.ntmps169;go_wp2_with fail
      go_ret;exact ⟨_,rfl,HNil.out,Below.refl _ _⟩
    · have d2:(p3 != p2)=true:=by simpa using hd2
      rw [if_pos hd2];clear hd2;go_enter Tryz.func169,Tryz.ntmps169;go_wp2_with (at_builtin;refine append_els w [.int .i64 2,.int .i64 x,.int .i64 p3] 3 rfl (by decide) rfl (.tmp 38) (.tmp 42) 140 41 (.agg #[.int .i64 0,.int .i64 0,.int .i64 0]) 24 rfl und27w info46 rfl w.heap.size _ 0 [] (by rfl) HNil.out (one3 _ _ _) _ rfl (by rfl) (by unfold maxLen;omega) (by omega) (Nat.le_refl _) ?_;intro v2 w2 ho2 hgr2 hn2);go_ret;exact ⟨_,rfl,ho2,((Below.refl _ _).alloc (Nat.le_refl _) _).grown hgr2 (by simp) (fun g hg=>by cases hg)⟩
  · have d1:(p1 != p0)=true:=by simpa using hd1
    rw [if_pos hd1];clear hd1
    by_cases hd2:p3=p2
    · have d2:(p3 != p2)=false:=by simp [hd2]
      rw [if_neg (by simpa using hd2),List.append_nil];clear hd2;go_enter Tryz.func169,Tryz.ntmps169;go_wp2_with (at_builtin;refine append_els w [.int .i64 1,.int .i64 x,.int .i64 p1] 3 rfl (by decide) rfl (.tmp 18) (.tmp 22) 140 41 (.agg #[.int .i64 0,.int .i64 0,.int .i64 0]) 24 rfl und27w info46 rfl w.heap.size _ 0 [] (by rfl) HNil.out (one3 _ _ _) _ rfl (by rfl) (by unfold maxLen;omega) (by omega) (Nat.le_refl _) ?_;intro v2 w2 ho2 hgr2 hn2;(have hbz:Below w.heap.size w w2:=((Below.refl _ _).alloc (Nat.le_refl _) _).grown hgr2 (by simp) (fun g hg=>by cases hg));obtain ⟨g2,g3⟩:=HF.out w2 hbz;(have HO2:Hid (w2.ownsRow w.heap.size 41 3 v2 1 [.int .i64 1,.int .i64 x,.int .i64 p1]):=ho2);(have HB2:Hid (Below w.heap.size w w2):=hbz);clear ho2 hgr2 hn2 hbz);go_ret;exact ⟨_,rfl,HO2.out,HB2.out⟩
    · have d2:(p3 != p2)=true:=by simpa using hd2
      rw [if_pos hd2];clear hd2;go_enter Tryz.func169,Tryz.ntmps169
      go_wp2_with (first
        | (at_builtin;refine append_els w [.int .i64 1,.int .i64 x,.int .i64 p1] 3 rfl (by decide) rfl (.tmp 18) (.tmp 22) 140 41 (.agg #[.int .i64 0,.int .i64 0,.int .i64 0]) 24 rfl und27w info46 rfl w.heap.size _ 0 [] (by rfl) HNil.out (one3 _ _ _) _ rfl (by rfl) (by unfold maxLen;omega) (by omega) (Nat.le_refl _) ?_;intro v2 w2 ho2 hgr2 hn2;(have hbz:Below w.heap.size w w2:=((Below.refl _ _).alloc (Nat.le_refl _) _).grown hgr2 (by simp) (fun g hg=>by cases hg));obtain ⟨g2,g3⟩:=HF.out w2 hbz;(have HO2:Hid (w2.ownsRow w.heap.size 41 3 v2 1 [.int .i64 1,.int .i64 x,.int .i64 p1]):=ho2);(have HB2:Hid (Below w.heap.size w w2):=hbz);clear ho2 hgr2 hn2 hbz)
        | (at_builtin;refine append_els w2 [.int .i64 2,.int .i64 x,.int .i64 p3] 3 rfl (by decide) rfl (.tmp 38) (.tmp 42) 140 41 (.agg #[.int .i64 0,.int .i64 0,.int .i64 0]) 24 rfl und27w info46 rfl w.heap.size _ 1 _ (by rfl) HO2.out (one3 _ _ _) _ rfl (by rfl) (by unfold maxLen;omega) (by omega) HB2.out.size ?_;intro v4 w4 ho4 hgr4 hn4;(have HB4:Hid (Below w.heap.size w w4):=(HB2.out.alloc HB2.out.size _).grown hgr4 (by have:=HB2.out.size;simp;omega) (fun g hg=>(HO2.out.lt g hg).1));(have HO4:Hid (w4.ownsRow w.heap.size 41 3 v4 2 [.int .i64 1,.int .i64 x,.int .i64 p1,.int .i64 2,.int .i64 x,.int .i64 p3]):=ho4);clear ho4 hgr4 hn4))
      go_ret;exact ⟨_,rfl,HO4.out,HB4.out⟩
end Go.Proofs.YtjnckfchgcmmpaaGreatDoor
namespace Go.Proofs.YtjnckfchgcmmpaaGreatDoor
open Go.RowKit
theorem w_nat {a:Int} (h:IsW a):a.toNat<2 ^ 32/\(a.toNat:Int)=a:=by
  have:=h.1;have:=h.2;omega
theorem w_zero {a:Int} (h:IsW a) (h0:a≠0):∃ j:Nat,j<32/\wb a j=true:=by
  obtain ⟨h1,h2⟩:=w_nat h;obtain ⟨i,hi⟩:=Nat.exists_testBit_of_ne_zero (x:=a.toNat) (by omega);refine ⟨i,?_,hi⟩;rcases Nat.lt_or_ge i 32 with h3 | h3
  · exact h3
  · rw [Nat.testBit_lt_two_pow (Nat.lt_of_lt_of_le h1 (Nat.pow_le_pow_right (by decide) h3))] at hi;cases hi
theorem deB_two:∀ j:Fin 32,deB.getD (2 ^ j.val*125613361 % 4294967296 / 134217728) 0=(j.val:Int):=by decide +kernel
theorem ntz_is {a:Int} (h:IsW a) (h0:a≠0):∃ j:Nat,j<32/\ntz a=(j:Int)/\wb a j=true/\∀ k:Nat,k<j->wb a k=false:=by
  obtain ⟨i,hi,hb⟩:=w_zero h h0;obtain ⟨h1,h2⟩:=w_nat h;obtain ⟨j,hj,hj1,hj2⟩:=PpN.first_of (wb a) 32 i hi hb;refine ⟨j,by omega,?_,hj1,hj2⟩;have e:=PpN.low_bit a.toNat j h1 hj1 hj2;have hpos:0<a:=by have:=h.1;omega
  have hlt:=h.2;have e2:bits .and .u32 a (4294967296-a)=((2 ^ j:Nat):Int):=by
    rw [u32_and a (4294967296-a) h.1 h.2 (by omega) (by omega)];rw [show (4294967296-a).toNat=2 ^ 32-a.toNat by omega,e]
  unfold ntz;rw [if_neg h0];have e3:(ntzI a).toNat=2 ^ j*125613361 % 4294967296 / 134217728:=by
    unfold ntzI;rw [e2];generalize 2 ^ j=P
    have e9:(P:Int)*125613361 % 4294967296 / 134217728=((P*125613361 % 4294967296 / 134217728:Nat):Int):=by rw [Int.natCast_ediv,Int.natCast_emod,Int.natCast_mul];rfl
    rw [e9,Int.toNat_natCast]
  rw [e3];exact deB_two ⟨j,by omega⟩
theorem ones_is {a:Int} (h:IsW a):ones a=(PpN.cnt (wb a) 32:Int):=by
  obtain ⟨h1,h2⟩:=w_nat h;have e:=PpN.ones_cnt a.toNat h1;have e1:((a.toNat / 2 ^ 24:Nat):Int)=a / 16777216:=by omega
  have e2:((a.toNat / 2 ^ 16 % 256:Nat):Int)=a / 65536 % 256:=by omega
  have e3:((a.toNat / 2 ^ 8 % 256:Nat):Int)=a / 256 % 256:=by omega
  have e4:((a.toNat % 256:Nat):Int)=a % 256:=by omega
  rw [e1,e2,e3,e4] at e;exact e
theorem high_is {a:Int} (h:IsW a) (h0:a≠0):∃ j:Nat,j<32/\(Lib.bitLen a.toNat:Int)-1=(j:Int)/\wb a j=true/\∀ k:Nat,j<k->wb a k=false:=by
  obtain ⟨h1,h2⟩:=w_nat h;obtain ⟨a1,a2,a3,a4⟩:=PpN.high_bit a.toNat h1 (by omega);exact ⟨Lib.bitLen a.toNat-1,by omega,by omega,a3,fun k hk=>a4 k (by omega)⟩
theorem bt_lo (a b:Int) {k:Nat} (h:k<32):bt a b k=wb a k:=by unfold bt;rw [if_pos h]
theorem bt_hi (a b:Int) (k:Nat):bt a b (32+k)=wb b k:=by
  unfold bt;rw [if_neg (by omega)]
  congr 1
  omega
theorem bLow_is {a b:Int} (ha:IsW a) (hb:IsW b) (h:∃ k:Nat,k<64/\bt a b k=true):∃ j:Nat,j<64/\bLow a b=(j:Int)/\bt a b j=true/\∀ k:Nat,k<j->bt a b k=false:=by
  unfold bLow
  by_cases h0:a=0
  · have hz:∀ k,k<32->bt a b k=false:=fun k hk=>by
      rw [bt_lo a b hk,h0];show (0:Int).toNat.testBit k=false;exact Nat.zero_testBit k
    by_cases h1:b=0
    · obtain ⟨k,hk,hb2⟩:=h
      rcases Nat.lt_or_ge k 32 with h3 | h3
      · rw [hz k h3] at hb2;cases hb2
      · obtain ⟨m,rfl⟩:∃ m,k=32+m:=⟨k-32,by omega⟩
        rw [bt_hi,h1] at hb2;have:(0:Int).toNat.testBit m=true:=hb2;rw [show (0:Int).toNat=0 from rfl,Nat.zero_testBit] at this
        cases this
    · obtain ⟨j,hj,e,h3,h4⟩:=ntz_is hb h1
      rw [if_neg (by simpa using h0),if_pos h1,e];refine ⟨32+j,by omega,by omega,by rw [bt_hi];exact h3,fun k hk=>?_⟩;rcases Nat.lt_or_ge k 32 with h5 | h5
      · exact hz k h5
      · obtain ⟨m,rfl⟩:∃ m,k=32+m:=⟨k-32,by omega⟩
        rw [bt_hi];exact h4 m (by omega)
  · obtain ⟨j,hj,e,h3,h4⟩:=ntz_is ha h0
    rw [if_pos h0,e];exact ⟨j,by omega,rfl,by rw [bt_lo a b hj];exact h3,fun k hk=>by rw [bt_lo a b (by omega)];exact h4 k hk⟩
theorem bHigh_is {a b:Int} (ha:IsW a) (hb:IsW b) (h:∃ k:Nat,k<64/\bt a b k=true):∃ j:Nat,j<64/\bHigh a b=(j:Int)/\bt a b j=true/\∀ k:Nat,j<k->k<64->bt a b k=false:=by
  unfold bHigh
  by_cases h1:b=0
  · have hz:∀ k,bt a b (32+k)=false:=fun k=>by
      rw [bt_hi,h1];show (0:Int).toNat.testBit k=false;exact Nat.zero_testBit k
    by_cases h0:a=0
    · obtain ⟨k,hk,hb2⟩:=h
      rcases Nat.lt_or_ge k 32 with h3 | h3
      · rw [bt_lo a b h3,h0] at hb2
        have:(0:Int).toNat.testBit k=true:=hb2;rw [show (0:Int).toNat=0 from rfl,Nat.zero_testBit] at this
        cases this
      · obtain ⟨m,rfl⟩:∃ m,k=32+m:=⟨k-32,by omega⟩
        rw [hz m] at hb2;cases hb2
    · obtain ⟨j,hj,e,h3,h4⟩:=high_is ha h0
      rw [if_neg (by simpa using h1),if_pos h0,e];refine ⟨j,by omega,rfl,by rw [bt_lo a b hj];exact h3,fun k hk hk2=>?_⟩;rcases Nat.lt_or_ge k 32 with h5 | h5
      · rw [bt_lo a b h5]
        exact h4 k hk
      · obtain ⟨m,rfl⟩:∃ m,k=32+m:=⟨k-32,by omega⟩
        exact hz m
  · obtain ⟨j,hj,e,h3,h4⟩:=high_is hb h1
    rw [if_pos h1];refine ⟨32+j,by omega,by omega,by rw [bt_hi];exact h3,fun k hk hk2=>?_⟩;obtain ⟨m,rfl⟩:∃ m,k=32+m:=⟨k-32,by omega⟩;rw [bt_hi];exact h4 m (by omega)
theorem bSize_is {a b:Int} (ha:IsW a) (hb:IsW b):bSize a b=(PpN.cnt (bt a b) 64:Int):=by
  unfold bSize;rw [ones_is ha,ones_is hb,show (64:Nat)=32+32 by decide,PpN.cnt_add];have e1:PpN.cnt (bt a b) 32=PpN.cnt (wb a) 32:=PpN.cnt_congr fun k hk=>bt_lo a b hk
  have e2:PpN.cnt (fun k=>bt a b (32+k)) 32=PpN.cnt (wb b) 32:=PpN.cnt_congr fun k _=>bt_hi a b k
  rw [e1,e2];omega
def Dm.Any (d:Dm):Prop:=∃ k:Nat,k<64/\bt d.a d.b k=true
theorem Dm.has_is {d:Dm} (h:d.Ok) (v:Int):d.has v=true↔∃ k:Nat,k<64/\v=d.f+(k:Int)/\bt d.a d.b k=true:=by
  unfold Dm.has dHas
  constructor
  · intro hh
    have h0:0<=dPlc d.f v/\dPlc d.f v<64:=by
      unfold btAt at hh;simp only [Bool.and_eq_true,decide_eq_true_eq] at hh;exact hh.1
    obtain ⟨k,hk⟩:∃ k:Nat,dPlc d.f v=(k:Int):=⟨(dPlc d.f v).toNat,by omega⟩;rw [hk] at hh h0;rw [btAt_bt h.a h.b k (by omega)] at hh;refine ⟨k,by omega,?_,hh⟩;unfold dPlc at hk;omega
  · rintro ⟨k,hk,rfl,hb⟩
    have e:dPlc d.f (d.f+(k:Int))=(k:Int):=by unfold dPlc;omega
    rw [e,btAt_bt h.a h.b k hk];exact hb
theorem fine_of {d:Dm} (h:d.Ok) (hs:d.Any):d.Fine:=by
  obtain ⟨l,l1,l2,l3,l4⟩:=bLow_is h.a h.b hs;obtain ⟨g,g1,g2,g3,g4⟩:=bHigh_is h.a h.b hs;have el:d.lo=d.f+(l:Int):=by unfold Dm.lo;rw [l2]
  have eg:d.hi=d.f+(g:Int):=by unfold Dm.hi;rw [g2]
  have hl:d.has d.lo=true:=(d.has_is h _).2 ⟨l,l1,el,l3⟩;have hg:d.has d.hi=true:=(d.has_is h _).2 ⟨g,g1,eg,g3⟩;have least:∀ v,d.has v=true->d.lo<=v:=fun v hv=>by
    obtain ⟨k,hk,rfl,hb⟩:=(d.has_is h v).1 hv;rcases Nat.lt_or_ge k l with hlt | hge
    · rw [l4 k hlt] at hb;cases hb
    · omega
  have most:∀ v,d.has v=true->v<=d.hi:=fun v hv=>by
    obtain ⟨k,hk,rfl,hb⟩:=(d.has_is h v).1 hv;rcases Nat.lt_or_ge g k with hlt | hge
    · rw [g4 k hlt hk] at hb;cases hb
    · omega
  have hsz:d.size=(PpN.cnt (bt d.a d.b) 64:Int):=bSize_is h.a h.b;have h1:=h.f1;have h2:=h.f2;refine ⟨hl,hg,least,most,?_,?_,?_,?_,by omega,by omega⟩
  · unfold Dm.one
    rw [decide_eq_true_eq,hsz]
    constructor
    · intro hc
      have hle:=least _ hg;rcases Nat.lt_or_ge l g with hlt | hge
      · have:=PpN.cnt_two hlt g1 l3 g3
        omega
      · omega
    · intro he
      have hlg:l=g:=by omega
      have:=PpN.cnt_one (p:=bt d.a d.b) (n:=64) fun i j hij hj hi=>by
        rcases Nat.lt_or_ge i l with hlt | hge
        · rw [l4 i hlt] at hi;cases hi
        · exact g4 j (by omega) hj
      omega
  · rw [hsz]
    have:=PpN.cnt_pos l1 l3;omega
  · intro v
    unfold Dm.all dAll dVals;rw [List.mem_filter,List.mem_map]
    constructor
    · exact fun hh=>hh.2
    · intro hv
      refine ⟨⟨(v-d.lo).toNat,?_,?_⟩,hv⟩
      · rw [List.mem_range]
        have:=most v hv;have:=least v hv;unfold dN;unfold Dm.lo Dm.hi at *;omega
      · have:=least v hv
        unfold Dm.lo at *;omega
  · unfold Dm.all dAll dVals
    refine List.Pairwise.sublist List.filter_sublist ?_;rw [List.pairwise_map];exact List.pairwise_lt_range.imp fun {a b} hab=>by omega
def Alls (s:St):Prop:=∀ d∈s.now,d.Ok/\d.Any
theorem any_new {v:Md.Vr} (h:Md.boundsB v.lo v.hi=true):(wholeD v).Any:=by
  have hb:=Md.bounds_of h;refine ⟨0,by omega,?_⟩;show bt (wWd v.lo v.hi 0) (wWd v.lo v.hi 1) 0=true;rw [bt_whole v.lo v.hi 0 (by omega)];simp;omega
theorem alls_new (m:Md.Mo):Alls (newS m):=by
  intro d hd;unfold newS at hd
  split at hd
  · rename_i h
    obtain ⟨v,hv,rfl⟩:=List.mem_map.1 hd;exact ⟨wholeD_ok ((Md.right_of h).var v hv).2,any_new ((Md.right_of h).var v hv).2⟩
  · cases hd
theorem any_words {d:Dm} (h:d.Ok) (h0:d.eqB ⟨0,0,0⟩=false):d.Any:=by
  unfold Dm.eqB at h0
  by_cases ha:d.a=0
  · have hb:d.b≠0:=fun e=>by
      rw [ha,e] at h0;simp at h0
    obtain ⟨j,hj,hw⟩:=w_zero h.b hb;exact ⟨32+j,by omega,by rw [bt_hi];exact hw⟩
  · obtain ⟨j,hj,hw⟩:=w_zero h.a ha
    exact ⟨j,by omega,by rw [bt_lo _ _ hj];exact hw⟩
theorem cut_get {s:St} (k x v:Int) (y:Nat) (hy:y<s.now.length):∃ h2:y<(s.cut k x v).now.length,(s.cut k x v).now[y]=s.now[y]∨((s.cut k x v).now[y]=s.now[y].cut k v/\s.now[y].went k v=true):=by
  unfold St.cut
  split
  · exact ⟨hy,.inl rfl⟩
  · rename_i d hd
    split
    · rename_i hw
      rw [Bool.and_eq_true] at hw;refine ⟨by simpa using hy,?_⟩
      by_cases e:x.toNat=y
      · subst e
        rw [List.getElem?_eq_getElem hy] at hd;injection hd with hd;refine .inr ⟨?_,by rw [hd];exact hw.2⟩;simp [hd]
      · refine .inl ?_
        simp [e]
    · exact ⟨hy,.inl rfl⟩
theorem alls_cut {s:St} (h:Alls s) (k x v:Int):Alls (s.cut k x v):=by
  intro d hd;obtain ⟨y,hy,rfl⟩:=List.mem_iff_getElem.1 hd;have hl:y<s.now.length:=by
    have:(s.cut k x v).now.length=s.now.length:=by
      unfold St.cut
      split
      · rfl
      · split
        · simp
        · rfl
    omega
  obtain ⟨_,h3 | ⟨h3,h4⟩⟩:=cut_get (s:=s) k x v y hl
  · rw [h3]
    exact h _ (List.getElem_mem hl)
  · rw [h3]
    have ho:=(h _ (List.getElem_mem hl)).1.cut k v;refine ⟨ho,any_words ho ?_⟩;unfold Dm.went at h4;simp at h4;exact h4.2
theorem stcut_len (s:St) (k x v:Int):(s.cut k x v).now.length=s.now.length:=by
  unfold St.cut
  split
  · rfl
  · split
    · simp
    · rfl
theorem cut_fewer {d:Dm} (h:d.Ok) (k v:Int) (u:Int) (hu:(d.cut k v).has u=true):d.has u=true/\takesB k v u=false:=by
  obtain ⟨j,hj,rfl,hb⟩:=(Dm.has_is (h.cut k v) u).1 hu;have hb:bt (lWd (dPlc d.f v) k d.a 0) (lWd (dPlc d.f v) k d.b 1) j=true:=hb;rw [bt_cut h.a h.b k v j hj] at hb;simp at hb;exact ⟨(Dm.has_is h _).2 ⟨j,hj,rfl,hb.1⟩,hb.2⟩
theorem cut_has {d:Dm} (h:d.Ok) (k v:Int) (u:Int) (hu:d.has u=true) (ht:takesB k v u=false):(d.cut k v).has u=true:=by
  obtain ⟨j,hj,rfl,hb⟩:=(Dm.has_is h u).1 hu;refine (Dm.has_is (h.cut k v) _).2 ⟨j,hj,rfl,?_⟩;show bt (lWd (dPlc d.f v) k d.a 0) (lWd (dPlc d.f v) k d.b 1) j=true;rw [bt_cut h.a h.b k v j hj,hb,ht];rfl
theorem new_has {v:Md.Vr} (h:Md.boundsB v.lo v.hi=true) (u:Int):(wholeD v).has u=true↔v.lo<=u/\u<=v.hi:=by
  have hb:=Md.bounds_of h;rw [Dm.has_is (wholeD_ok h)]
  constructor
  · rintro ⟨k,hk,e,h2⟩
    have h2:bt (wWd v.lo v.hi 0) (wWd v.lo v.hi 1) k=true:=h2;rw [bt_whole v.lo v.hi k hk] at h2;have:=of_decide_eq_true h2;have e:u=v.lo+(k:Int):=e;omega
  · rintro ⟨h1,h2⟩
    refine ⟨(u-v.lo).toNat,by omega,?_,?_⟩
    · show u=v.lo+_
      omega
    · show bt (wWd v.lo v.hi 0) (wWd v.lo v.hi 1) _=true
      rw [bt_whole v.lo v.hi _ (by omega)];exact decide_eq_true (by omega)
def stB (q:Ct) (x v:Int):Bool:=(q.x != x)||(((q.k==1)&&decide (q.v<=v))||(((q.k==2)&&decide (v<=q.v))||((q.k==3)&&(v != q.v))))
def someB (L:List Ct) (x v:Int):Bool:=L.all fun q=>stB q x v
def foldC (s:St) (L:List Ct):St:=L.foldl (fun s c=>s.cut c.k c.x c.v) s
end Go.Proofs.YtjnckfchgcmmpaaGreatDoor
