/-
  Put together: TrCols, TrRow1.
-/
import Derived.Test.YthohnmplbjhjaaaGreatDoorQs
import Derived.Test.YthohnmplbjhjaaaGreatDoorTrList
namespace Go.Proofs.YthohnmplbjhjaaaGreatDoor
open Go Go.RowKit Go.Shelf Go.Lib
set_option maxHeartbeats 4000000
set_option maxRecDepth 100000
attribute [local go_sem] Oper.semAt_some
theorem X3 {w0:World} {V:List Md.Vr} {va:Value} {b:Nat} {s:St} (w:World) (h:Ln w0 V va b s w):Calls Tryz.prog 72 #[.pointer (some ⟨b,0,none⟩)] w (RL w0 V va b 3 1 (yp (yE V) s).1.length (encL encI (yp (yE V) s).1) (yp (yE V) s).2 w):=by
 have HC:Hid (Calls Tryz.prog 125 #[.pointer (some ⟨b,0,none⟩),.func (.func 123) #[.pointer (some ⟨b,0,none⟩)] #[]] w (RL w0 V va b 3 1 (yp (yE V) s).1.length (encL encI (yp (yE V) s).1) (yp (yE V) s).2 w)):=y3O w h
 obtain ⟨R,hR⟩:∃ R,yp (yE V) s=R:=⟨_,rfl⟩
 rw [hR] at HC ⊢
 clear h hR
 go_enter Tryz.func72,Tryz.ntmps72
 go_wp2_with fail
 refine cZ HC.out ?_
 rintro e w1 ⟨v,rfl,h1,h2,h3⟩
 go_wp2_with fail
 go_ret
 exact ⟨v,rfl,h1,h2,h3⟩
theorem y3P {w0:World} {V:List Md.Vr} {va:Value} {b:Nat} {s:St} (w:World) (h:Ln w0 V va b s w):Calls Tryz.prog 90 #[.pointer (some ⟨b,0,none⟩)] w (RL w0 V va b 3 1 (yp yN s).1.length (encL encI (yp yN s).1) (yp yN s).2 w):=by
 have HC:Hid (Calls Tryz.prog 125 #[.pointer (some ⟨b,0,none⟩),.func (.func 130) #[.pointer (some ⟨b,0,none⟩)] #[]] w (RL w0 V va b 3 1 (yp yN s).1.length (encL encI (yp yN s).1) (yp yN s).2 w)):=y3Q w h
 obtain ⟨R,hR⟩:∃ R,yp yN s=R:=⟨_,rfl⟩
 rw [hR] at HC ⊢
 clear h hR
 go_enter Tryz.func90,Tryz.ntmps90
 go_wp2_with fail
 refine cZ HC.out ?_
 rintro e w1 ⟨v,rfl,h1,h2,h3⟩
 go_wp2_with fail
 go_ret
 exact ⟨v,rfl,h1,h2,h3⟩
theorem X4 {w0:World} {V:List Md.Vr} {va:Value} {b:Nat} {s:St} (w:World) (h:Ln w0 V va b s w):Calls Tryz.prog 82 #[.pointer (some ⟨b,0,none⟩)] w (RL w0 V va b 87 2 (yp (yO V) s).1.length (encL encT (yp (yO V) s).1) (yp (yO V) s).2 w):=by
 have HC:Hid (Calls Tryz.prog 131 #[.pointer (some ⟨b,0,none⟩),.func (.func 132) #[.pointer (some ⟨b,0,none⟩)] #[]] w (RL w0 V va b 87 2 (yp (yO V) s).1.length (encL encT (yp (yO V) s).1) (yp (yO V) s).2 w)):=y3R w h
 obtain ⟨R,hR⟩:∃ R,yp (yO V) s=R:=⟨_,rfl⟩
 rw [hR] at HC ⊢
 clear h hR
 go_enter Tryz.func82,Tryz.ntmps82
 go_wp2_with fail
 refine cZ HC.out ?_
 rintro e w1 ⟨v,rfl,h1,h2,h3⟩
 go_wp2_with fail
 go_ret
 exact ⟨v,rfl,h1,h2,h3⟩
theorem y3S {w0:World} {V:List Md.Vr} {va:Value} {b:Nat} {s:St} (w:World) (h:Ln w0 V va b s w):Calls Tryz.prog 134 #[.pointer (some ⟨b,0,none⟩)] w (RL w0 V va b 3 1 (zB V s).1.length (encL encI (zB V s).1) (zB V s).2 w):=by
  obtain ⟨a0,ha0⟩:∃ a,(yz V s).1=a:=⟨_,rfl⟩
  obtain ⟨t1,ht1⟩:∃ t,(yz V s).2=t:=⟨_,rfl⟩
  obtain ⟨RR,hRR⟩:∃ RR,yQ V 7 [a0] t1=RR:=⟨_,rfl⟩
  have he:zB V s=RR:=by unfold zB;rw [ha0,ht1,hRR]
  have HRR:Hid (yQ V 7 [a0] t1=RR):=hRR
  rw [he]
  obtain ⟨W1,hW1⟩:∃ W1,w.alloc (.cells #[.pointer (some ⟨b,0,none⟩)] 113)=W1:=⟨_,rfl⟩
  obtain ⟨W2,hW2⟩:∃ W2,W1.alloc (.cells #[.slice none 0 0] 58)=W2:=⟨_,rfl⟩
  have hb1:Below w.heap.size w W1:=hW1▸(Below.refl _ _).alloc (Nat.le_refl _) _
  have hs1:W1.heap.size=w.heap.size+1:=by rw [<-hW1];simp
  have hb2:Below W1.heap.size W1 W2:=hW2▸(Below.refl _ _).alloc (Nat.le_refl _) _
  have hs2:W2.heap.size=w.heap.size+2:=by rw [<-hW2];simp [hs1]
  have hbw:Below w.heap.size w W2:=hb1.trans (hb2.mono hb1.size)
  have hp2:W2.heap[w.heap.size]?=some (.cells #[.pointer (some ⟨b,0,none⟩)] 113):=(hb2.block _ (by omega)).trans (hW1▸World.alloc_heap_new w _)
  have hq2:W2.heap[w.heap.size+1]?=some (.cells #[.slice none 0 0] 58):=by rw [<-hs1,<-hW2];exact World.alloc_heap_new W1 _
  have hlt:=h.lt
  have hbg:=h.big
  have x2:W2.cell? ⟨w.heap.size,0,none⟩=some (.pointer (some ⟨b,0,none⟩)):=by rw [yd hp2 0];rfl
  have HN:Hid (Calls Tryz.prog 71 #[.pointer (some ⟨b,0,none⟩)] W2 (RO w0 V va b (.int .i64 a0) t1 W2)):=by
    have:=xS W2 (h.below hbw)
    rw [ha0,ht1] at this
    exact this
  have hm:Tryz.prog.follows .mixedOrders=true:=by kernel_rfl
  clear ha0 ht1 hRR he
  refine (callsIn_wide (n:=5)).1 ?_
  refine callsIn_of_wp_marks Tryz.func134 rfl trivial ?_ rfl
  simp only [Tryz.ntmps134,List.size_toArray,List.length_cons,List.length_nil,Nat.reduceAdd,Nat.reduceSub,Array.replicate_succ,Array.replicate_zero,List.push_toArray,List.append_toArray,List.nil_append,List.cons_append]
  gi_wp2_with (refine ⟨trivial,?_⟩;gi_at_call 71;refine (callsIn_wide.2 HN.out).mono ?_;rintro e wn ⟨rfl,hln,hof⟩;obtain ⟨wc,hwc⟩:∃ wc,(wn.alloc (.cells #[.int .i64 a0] 3)).alloc (.cells #[.slice (some ⟨wn.heap.size,0,none⟩) 1 1] 58)=wc:=⟨_,rfl⟩;have hpn:=(hof.block _ (Array.getElem?_eq_some_iff.1 hp2).1 (by omega)).trans hp2;have c1:wc.cell? ⟨w.heap.size,0,none⟩=some (.pointer (some ⟨b,0,none⟩)):=(by rw [<-hwc];have h1:=(Array.getElem?_eq_some_iff.1 hpn).1;rw [yd ((Below.heap_alloc _ _ _ (by simp;omega)).trans ((Below.heap_alloc _ _ _ h1).trans hpn)) 0];rfl))
  have z1:w.heap.size+2<=wn.heap.size:=by have:=hof.size;omega
  have hbc:Below wn.heap.size wn wc:=hwc▸((Below.refl _ _).alloc (Nat.le_refl _) _).alloc (by simp) _
  have hXc:wc.heap[wn.heap.size]?=some (.cells #[.int .i64 a0] 3):=by rw [<-hwc];exact (Below.heap_alloc _ _ _ (by simp)).trans (World.alloc_heap_new wn _)
  have hAc:wc.heap[wn.heap.size+1]?=some (.cells #[.slice (some ⟨wn.heap.size,0,none⟩) 1 1] 58):=by
    rw [<-hwc]
    have:=World.alloc_heap_new (wn.alloc (.cells #[.int .i64 a0] 3)) (.cells #[.slice (some ⟨wn.heap.size,0,none⟩) 1 1] 58)
    rwa [World.size_alloc] at this
  have p1:=(hbc.block _ (Array.getElem?_eq_some_iff.1 hpn).1).trans hpn
  have hqn:=(hof.block _ (Array.getElem?_eq_some_iff.1 hq2).1 (by omega)).trans hq2
  have q1:=(hbc.block _ (Array.getElem?_eq_some_iff.1 hqn).1).trans hqn
  have hlc:Ln w0 V va b t1 wc:=hln.below hbc
  have o1:Ofw (fun k=>k=b) w wc:=((Ofw.of_below hbw).trans hof).trans (Ofw.of_below hbc)
  have hX:=xT (F:=Fence.wide) (5-1) b wc rfl
  obtain ⟨g,hg⟩:∃ g,wn.heap.size=g:=⟨_,rfl⟩
  rw [hg] at hXc hAc z1 ⊢
  obtain ⟨A,hA⟩:∃ A,g+1=A:=⟨_,rfl⟩
  rw [hA] at hAc ⊢
  have hA2:A<wc.heap.size:=(Array.getElem?_eq_some_iff.1 hAc).1
  clear HN hW1 hW2 hb1 hb2 hbw hp2 hq2 hs1 hs2 hwc hpn hqn hof hln hbc x2
  refine ⟨trivial,?_⟩
  refine hX.mono ?_
  rintro e w' ⟨rfl,rfl⟩
  obtain ⟨W3,hW3⟩:∃ W3,wc.alloc (.cells #[.pointer (some ⟨b,0,none⟩)] 113)=W3:=⟨_,rfl⟩
  gi_wp2
  try rw [hW3]
  obtain ⟨T,hT⟩:∃ T,wc.heap.size=T:=⟨_,rfl⟩
  have hb3:Below wc.heap.size wc W3:=hW3▸(Below.refl _ _).alloc (Nat.le_refl _) _
  have hs3:W3.heap.size=T+1:=by rw [<-hW3,<-hT];simp
  have hB3:W3.heap[T]?=some (.cells #[.pointer (some ⟨b,0,none⟩)] 113):=by rw [<-hT,<-hW3];exact World.alloc_heap_new wc _
  have hT2:w.heap.size+2<=T:=by omega
  have hA1:w.heap.size+2<=A:=by omega
  have hAT:A<T:=by omega
  have hgT:g<T:=by omega
  have o3:Ofw (fun k=>k=b) wc W3:=Ofw.of_below hb3
  have hLA:LAt w.heap.size A 58 3 1 W3.heap.size 1 (encL encI [a0]) (.slice (some ⟨g,0,none⟩) 1 1) W3:=by
    refine ⟨(hb3.block _ hA2).trans hAc,Yw ((hb3.block _ (Array.getElem?_eq_some_iff.1 hXc).1).trans hXc) (by omega) rfl,fun g' hg'=>?_⟩
    injection hg' with hg'
    have hg2:g=g':=hg'
    omega
  have hL3:Ln w0 V va b t1 W3:=hlc.below hb3
  have hO3:Ofw (fun k=>k=b) w W3:=o1.trans o3
  have hP3:=(hb3.block _ (Array.getElem?_eq_some_iff.1 p1).1).trans p1
  have hQ3:=(hb3.block _ (Array.getElem?_eq_some_iff.1 q1).1).trans q1
  try rw [hT]
  rw [hs3] at hLA
  clear hX hW3 c1 hAc hXc o1 o3 hlc p1 q1 hb3 z1 hT
  refine Ye rfl (by omega) (gf:=105) (lb:=#[.pointer (some ⟨T,0,none⟩)]) rfl trivial (enters_of Tryz.func105 (by kernel_rfl) rfl) (w0:=w0) (V:=V) (va:=va) (b:=b) t1 (T:=fun k=>k=T) (fun k hk=>by omega)
    (fun W hb=>Yf _ (by omega) T W ((hb.block _ (by omega)).trans hB3) (by omega)) rfl
    (fun s' W=>∃ (k:Nat) (all:List Int) (v:Value),LAt w.heap.size A 58 3 1 (T+1) all.length (encL encI all) v W/\Ln w0 V va b s' W/\Ofw (fun k=>k=b) w W/\(W.heap[w.heap.size]?=some (.cells #[.pointer (some ⟨b,0,none⟩)] 113)/\W.heap[w.heap.size+1]?=some (.cells #[.slice none 0 0] 58)/\W.heap[T]?=some (.cells #[.pointer (some ⟨b,0,none⟩)] 113))/\all.length+k=8/\yQ V k all s'=RR)
    (fun c W=>(c=.ret/\∃ v,W.heap[w.heap.size+1]?=some (.cells #[v] 58)/\W.ownsRow w.heap.size 3 1 v RR.1.length (encL encI RR.1)/\(∀ g,v.ownBlock=some g->g≠T+1/\g≠T+1+1)/\Ln w0 V va b RR.2 W/\Ofw (fun k=>k=b) w W)∨(c=.exit 0/\∃ s' all v,LAt w.heap.size A 58 3 1 (T+1) all.length (encL encI all) v W/\Ln w0 V va b s' W/\Ofw (fun k=>k=b) w W/\(W.heap[w.heap.size]?=some (.cells #[.pointer (some ⟨b,0,none⟩)] 113)/\W.heap[w.heap.size+1]?=some (.cells #[.slice none 0 0] 58))/\(all,yh 52 s')=RR))
    (fun s' W hI=>by obtain ⟨k,all,v,_,h2,_⟩:=hI;exact h2) ?_ ?_ ⟨7,[a0],_,hLA,hL3,hO3,⟨hP3,hQ3,hB3⟩,rfl,HRR.out⟩
    (fun x=>{ tmps:=#[.pointer (some ⟨b,0,none⟩),.pointer (some ⟨w.heap.size,0,none⟩),.pointer (some ⟨w.heap.size+1,0,none⟩),.pointer (some ⟨A,0,none⟩),.string (yc x),.pointer (some ⟨b,0,none⟩),.int .i64 a0,.slice (some ⟨g,0,none⟩) 1 1,.pointer (some ⟨b,0,none⟩),.func (.func 105) #[] #[.pointer (some ⟨T,0,none⟩)],.string (yc x),undef,undef,undef,undef,undef,undef,undef,undef,undef,undef,undef,undef,undef,undef,undef,undef,undef],defers:=[] }) ?assign ?body ?done ?stop
  · rintro s' W W' ⟨k,all,v,hla,hl,ho,⟨hp,hq,ht⟩,hk,hgo⟩ kk
    exact ⟨k,all,v,hla.loop (by omega) (by rw [hs3] at kk;exact kk),hl.keep (fun k hk=>by omega) kk,ho.new kk (fun i hi=>by omega),⟨(kk.block _ (Array.getElem?_eq_some_iff.1 hp).1 (by omega)).trans hp,(kk.block _ (Array.getElem?_eq_some_iff.1 hq).1 (by omega)).trans hq,(kk.block _ (Array.getElem?_eq_some_iff.1 ht).1 (by omega)).trans ht⟩,hk,hgo⟩
  · rintro c W W' (⟨rfl,v,hq,hr,hf,hl,ho⟩ | ⟨rfl,s',all,v,hla,hl,ho,⟨hp,hq⟩,hR⟩) kk
    · exact .inl ⟨rfl,v,(kk.block _ (Array.getElem?_eq_some_iff.1 hq).1 (by omega)).trans hq,yB hr (fun g hg e=>by have:=hf g hg;rw [hs3] at e;omega) kk,hf,hl.keep (fun k hk=>by omega) kk,ho.new kk (fun i hi=>by omega)⟩
    · exact .inr ⟨rfl,s',all,v,hla.loop (by omega) (by rw [hs3] at kk;exact kk),hl.keep (fun k hk=>by omega) kk,ho.new kk (fun i hi=>by omega),⟨(kk.block _ (Array.getElem?_eq_some_iff.1 hp).1 (by omega)).trans hp,(kk.block _ (Array.getElem?_eq_some_iff.1 hq).1 (by omega)).trans hq⟩,hR⟩
  case assign=>
    intro l' x W K hK
    gi_wp2
    exact hK
  case body=>
    rintro l' s' x s1 W Wa ⟨k,all,v,hla,hl,ho,⟨hp,hq,ht⟩,hk,hgo⟩ hx hlna hoa hsz
    rw [hs3] at hoa hsz
    have hbt:W.heap[b]?=some (.cells #[va,.string (yc s'.1),.int .i64 s'.2] 115 (0,0)):=hl.o
    have hAb:A≠b:=by omega
    have hfar:=hla.far
    have hla1:LAt w.heap.size A 58 3 1 (T+1) all.length (encL encI all) v Wa:=
      ⟨(hoa.block A (Array.getElem?_eq_some_iff.1 hla.box).1 (by omega)).trans hla.box,yB hla.row (fun g hg e=>by
        have h1:=hfar g hg
        obtain ⟨h2,cur,hc⟩:=yn hla.row hg
        rcases e with e | e | e
        · rw [e,hbt] at hc;injection hc with hc;injection hc with _ hc _;cases hc
        · exact h1.1 e
        · exact h1.2 e) hoa,hfar⟩
    have hpa:=(hoa.block _ (Array.getElem?_eq_some_iff.1 hp).1 (by omega)).trans hp
    have hqa:=(hoa.block _ (Array.getElem?_eq_some_iff.1 hq).1 (by omega)).trans hq
    have hta:=(hoa.block _ (Array.getElem?_eq_some_iff.1 ht).1 (by omega)).trans ht
    have hoa1:Ofw (fun k=>k=b) w Wa:=ho.new hoa (fun i hi=>by omega)
    obtain ⟨ad,cp,hv⟩:=yq hla1.row
    subst hv
    have cA:Wa.cell? ⟨A,0,none⟩=some (.slice ad all.length cp):=by rw [yd hla1.box 0];rfl
    have c0:Wa.cell? ⟨w.heap.size,0,none⟩=some (.pointer (some ⟨b,0,none⟩)):=by rw [yd hpa 0];rfl
    have c1:Wa.cell? ⟨w.heap.size+1,0,none⟩=some (.slice none 0 0):=by rw [yd hqa 0];rfl
    have z1:=yt hqa 0
    have hxl:x.length<=70000:=Nat.le_trans (zf hx).2.1 hl.n
    clear hla hl ho hp hq ht hbt hoa
    have hxq:=YR x [58]
    by_cases hw:x=[58]
    · have hxe:((yc x).toList==[58])=true:=by
        rw [hxq,decide_eq_true hw]
      have hR:RR=(all,s1):=by
        rw [<-hgo]
        cases k <;> (unfold yQ;rw [hx];simp only [if_pos hw])
      clear hgo hxq
      have HR:Hid (RR=(all,s1)):=hR
      have HE:Hid (∀ V',V'=Wa.setCell ⟨w.heap.size+1,0,none⟩ (.slice ad all.length cp)->(V'.heap[w.heap.size+1]?=some (.cells #[.slice ad all.length cp] 58)/\V'.ownsRow w.heap.size 3 1 (.slice ad all.length cp) RR.1.length (encL encI RR.1)/\(∀ g,(Value.slice ad all.length cp).ownBlock=some g->g≠T+1/\g≠T+1+1)/\Ln w0 V va b RR.2 V'/\Ofw (fun k=>k=b) w V')/\Wa.heap.size<=V'.heap.size/\∀ k,(k=T∨k=W3.heap.size∨k=W3.heap.size+1)->V'.heap[k]?=Wa.heap[k]?):=fun V' hV=>by
        subst hV
        rw [hR]
        have hoo:Ofw (fun k=>k=w.heap.size+1) Wa (Wa.setCell ⟨w.heap.size+1,0,none⟩ (.slice ad all.length cp)):=Ofw.set _ rfl
        exact ⟨⟨yC hqa 0 _,yB hla1.row (fun g hg e=>by
          obtain ⟨_,cur,hc⟩:=yn hla1.row hg
          have e':g=w.heap.size+1:=e
          rw [e',hqa] at hc
          injection hc with hc
          injection hc with _ hc _
          cases hc) hoo,hfar,hlna.keep (fun k hk=>by omega) hoo,hoa1.new hoo (fun i hi=>by omega)⟩,hoo.size,fun k hk=>hoo.block k (by omega) (by omega)⟩
      clear hR hla1 hlna hpa hqa hta hk hsz hoa1 hfar hw
      gi_wp2
      obtain ⟨⟨q1,q2,q3,q4,q5⟩,q6,q7⟩:=HE.out _ rfl
      exact ⟨.inr (.inl ⟨rfl,.inl ⟨rfl,_,q1,q2,q3,q4,q5⟩⟩),q6,q7⟩
    · have hxe:((yc x).toList==[58])=false:=by
        rw [hxq,decide_eq_false hw]
      clear hxq
      cases k with
      | zero =>
        have h64:((all.length:Int)==8)=true:=by simp;omega
        have hR:(all,yh 47 s1)=RR:=by rw [<-hgo];unfold yQ;rw [hx];simp only [if_neg hw]
        have hs0:s1.2=0:=(zf hx).2.2.1
        have HF:Hid (Calls Tryz.prog 109 #[.pointer (some ⟨b,0,none⟩),.int .i64 47] Wa (RO w0 V va b (.tuple #[]) (yh 47 s1) Wa)):=zC 47 Wa hlna
        have HR:Hid ((all,yh 52 (yh 47 s1))=RR):=by
          rw [xQ (by unfold yh;rw [if_pos hs0];show (47:Int)≠0;decide)]
          exact hR
        have HE:Hid (LAt w.heap.size A 58 3 1 (T+1) all.length (encL encI all) (.slice ad all.length cp) Wa/\Ofw (fun k=>k=b) w Wa/\Wa.heap[b]?=some (.cells #[va,.string (yc s1.1),.int .i64 s1.2] 115 (0,0))/\Wa.heap[w.heap.size]?=some (.cells #[.pointer (some ⟨b,0,none⟩)] 113)/\Wa.heap[w.heap.size+1]?=some (.cells #[.slice none 0 0] 58)):=⟨hla1,hoa1,hlna.o,hpa,hqa⟩
        have HSz:Hid (T+1+2<=Wa.heap.size):=hsz
        clear hR hgo hla1 hoa1 hlna hpa hqa hta hk hsz hs0
        gi_wp2_with (refine ⟨trivial,?_⟩;gi_at_call 109;refine (zr HF.out).mono ?_;rintro e w3 ⟨rfl,h3,o3⟩;have HV:Hid (Ln w0 V va b (yh 47 s1) w3/\Ofw (fun k=>k=b) Wa w3):=⟨h3,o3⟩;clear h3 o3)
        have hk1:LAt w.heap.size A 58 3 1 (T+1) all.length (encL encI all) (.slice ad all.length cp) w3:=HE.out.1.keep HV.out.2 (fun k hk=>⟨by omega,fun c e=>by
          rw [hk,HE.out.2.2.1] at e
          injection e with e
          injection e with _ e _
          cases e⟩)
        exact ⟨.inr (.inr ⟨0,rfl,.inr ⟨rfl,_,_,_,hk1,HV.out.1,HE.out.2.1.trans HV.out.2,⟨(HV.out.2.block _ (Array.getElem?_eq_some_iff.1 HE.out.2.2.2.1).1 (by omega)).trans HE.out.2.2.2.1,(HV.out.2.block _ (Array.getElem?_eq_some_iff.1 HE.out.2.2.2.2).1 (by omega)).trans HE.out.2.2.2.2⟩,HR.out⟩⟩),HV.out.2.size,fun k hk=>HV.out.2.block k (by have:=HSz.out;omega) (by omega)⟩
      | succ k =>
        have h64:((all.length:Int)==8)=false:=by simp;omega
        have hal:all.length<=64:=by omega
        obtain ⟨aa,haa⟩:∃ aa,(yE V x s1).1=aa:=⟨_,rfl⟩
        obtain ⟨s2,hs2'⟩:∃ s2,(yE V x s1).2=s2:=⟨_,rfl⟩
        have HI1:Hid (∀ w',Ln w0 V va b s1 w'->Calls Tryz.prog 123 #[.pointer (some ⟨b,0,none⟩),.string (yc x)] w' (RO w0 V va b (.int .i64 aa) s2 w')):=fun w' h'=>by
          have:=X5 x w' h' hxl
          rw [haa,hs2'] at this
          exact this
        have HGo:Hid (yQ V k (all++[aa]) s2=RR):=by
          show _=_
          rw [<-hgo]
          conv=>rhs;unfold yQ
          rw [hx]
          simp only [if_neg hw,haa,hs2']
        have HM1:Hid (s2.1.length<=s1.1.length):=by rw [<-hs2'];exact Nat.le_of_eq (congrArg List.length (Zg V x s1))
        have HE:Hid (LAt w.heap.size A 58 3 1 (T+1) all.length (encL encI all) (.slice ad all.length cp) Wa/\Ofw (fun k=>k=b) w Wa/\Wa.heap[b]?=some (.cells #[va,.string (yc s1.1),.int .i64 s1.2] 115 (0,0))/\Ln w0 V va b s1 Wa):=⟨hla1,hoa1,hlna.o,hlna⟩
        have HBx:Hid (Wa.heap[w.heap.size]?=some (.cells #[.pointer (some ⟨b,0,none⟩)] 113)/\Wa.heap[w.heap.size+1]?=some (.cells #[.slice none 0 0] 58)/\Wa.heap[T]?=some (.cells #[.pointer (some ⟨b,0,none⟩)] 113)):=⟨hpa,hqa,hta⟩
        have HSz:Hid (T+1+2<=Wa.heap.size):=hsz
        have hm:Tryz.prog.follows .mixedOrders=true:=by kernel_rfl
        clear hgo haa hs2' hla1 hoa1 hlna hpa hqa hta
        gi_wp2
        refine zT (fun w'=>w'.cell? ⟨w.heap.size,0,none⟩=some (.pointer (some ⟨b,0,none⟩))) (fun w'=>w'.cell? ⟨A,0,none⟩=some (.slice ad all.length cp)) [6] hm ⟨c0,cA⟩ (fun hHeld=>?_)
        refine xU (i:=0) (oi:=⟨some 19,.load 58 (.tmp 3),_,_,_,none⟩) (v:=?va) rfl (by kernel_rfl) (by kernel_rfl) (by kernel_rfl) (by kernel_rfl) (by kernel_rfl) (by kernel_rfl) yr ⟨Or.inl ⟨by rfl,?ha⟩,fun _=>rfl,fun _ e=>by cases e⟩ (by assumption) ?ra
        case ha=>(intro w hSw;(try dsimp only at hSw);go_simp;try (with_reducible rfl))
        try simp only [Act.put,qa,qb,qc]
        refine yv (i:=1) (oi:=⟨some 20,.load 113 (.tmp 1),_,_,_,none⟩) (v:=?vb) rfl (by kernel_rfl) (by kernel_rfl) (by kernel_rfl) (by kernel_rfl) (by kernel_rfl) yr ⟨Or.inl ⟨by rfl,?hb⟩,fun _=>rfl,fun _ e=>by cases e⟩ (by assumption) ?rb
        case hb=>(intro w hSw;(try dsimp only at hSw);go_simp;try (with_reducible rfl))
        try simp only [Act.put,qa,qb,qc]
        refine yv (i:=2) (oi:=⟨some 21,.move (.tmp 4),_,_,_,none⟩) (v:=?vc) rfl (by kernel_rfl) (by kernel_rfl) (by kernel_rfl) (by kernel_rfl) (by kernel_rfl) yr ⟨Or.inl ⟨by rfl,?hc⟩,fun _=>rfl,fun _ e=>by cases e⟩ (by assumption) ?rc
        case hc=>(intro w hSw;(try dsimp only at hSw);go_simp;try (with_reducible rfl))
        try simp only [Act.put,qa,qb,qc]
        refine yo (i:=3) (o:=⟨some 22,.call { callee:=.value (.func 123),args:=#[.tmp 20,.tmp 21],argTypes:=#[113,9] },_,_,_,none⟩) (by kernel_rfl) rfl (fun K hK=>?_)
        go_simp
        gi_wp2_with (refine ⟨trivial,?_⟩;gi_at_call 123;refine (zr (HI1.out _ (HE.out.2.2.2.below (Below.refl _ _).drew))).mono ?_;rintro e w3 ⟨rfl,h3,o3⟩;have H3:Hid (Ln w0 V va b s2 w3/\Ofw (fun k=>k=b) Wa w3):=⟨h3,(Ofw.of_below (Below.refl _ _).drew).trans o3⟩;clear h3 o3)
        have hla3:LAt w.heap.size A 58 3 1 (T+1) all.length (encL encI all) (.slice ad all.length cp) w3:=HE.out.1.keep H3.out.2 (fun k hk=>⟨by omega,fun c e=>by
          rw [hk,HE.out.2.2.1] at e
          injection e with e
          injection e with _ e _
          cases e⟩)
        have q3:w3.heap[w.heap.size+1]?=some (.cells #[.slice none 0 0] 58):=(H3.out.2.block _ (Array.getElem?_eq_some_iff.1 HBx.out.2.1).1 (by omega)).trans HBx.out.2.1
        have p3:=(H3.out.2.block _ (Array.getElem?_eq_some_iff.1 HBx.out.1).1 (by omega)).trans HBx.out.1
        have cA3:w3.cell? ⟨A,0,none⟩=some (.slice ad all.length cp):=by rw [yd hla3.box 0];rfl
        have c13:w3.cell? ⟨w.heap.size,0,none⟩=some (.pointer (some ⟨b,0,none⟩)):=by rw [yd p3 0];rfl
        refine hK.out _ _ ⟨c13,fun _=>cA3⟩ ?_
        clear hK K
        try simp only [Act.put,qa,qb,qc]
        refine yo (i:=4) (o:=⟨some 23,.buildSlice 58 1 #[(0,.tmp 22)],_,_,_,none⟩) (by kernel_rfl) rfl (fun K hK=>?_)
        obtain ⟨V1,hV1⟩:∃ V1,w3.alloc (.cells #[.int .i64 aa] 3)=V1:=⟨_,rfl⟩
        have bV:Below w3.heap.size w3 V1:=hV1▸(Below.refl _ _).alloc (Nat.le_refl _) _
        go_simp
        try rw [hV1]
        refine hK.out _ _ ⟨(bV.cell (p:=⟨w.heap.size,0,none⟩) (Array.getElem?_eq_some_iff.1 p3).1).trans c13,fun _=>(bV.cell (p:=⟨A,0,none⟩) (Array.getElem?_eq_some_iff.1 hla3.box).1).trans cA3⟩ ?_
        clear hK K
        try simp only [Act.put,qa,qb,qc]
        refine yo (i:=5) (o:=⟨some 24,.call { callee:=.builtin .append,args:=#[.tmp 19,.tmp 23],argTypes:=#[58,58] },_,_,_,none⟩) (by kernel_rfl) rfl (fun K hK=>?_)
        have hs3':T+1+2<=w3.heap.size:=Nat.le_trans HSz.out H3.out.2.size
        refine xV w3 V1 (.tmp 19) (.tmp 23) 58 3 (.int .i64 0) 1 8 rfl Tryz.underlying58 (by kernel_rfl) rfl (by decide) w.heap.size (.slice ad all.length cp) all.length (encL encI all) #[.int .i64 aa] (by rfl) (by rfl) hV1 hla3.row rfl (by intro u hu;simp at hu;first | (subst hu;rfl) | (rcases hu with rfl | rfl <;> rfl)) (by unfold maxLen;omega) (by omega) (by omega) (by rfl) ?_
        intro v5 w5 g1 g2 g3
        obtain ⟨P1,P2,P3⟩:=hla3.push (by decide) g1 g2 g3 (by omega)
        obtain ⟨ad5,cp5,hv5⟩:=yq g1
        subst hv5
        have cA5:w5.cell? ⟨A,0,none⟩=some (.slice ad all.length cp):=by rw [yd P3 0];rfl
        have zA5:=yt P3 0
        have ne:∀ k c t,w3.heap[k]?=some (.cells c t (0,0))->t≠3->(Value.slice ad all.length cp).ownBlock≠some k:=fun k c t hk ht e=>by
          obtain ⟨_,cur,hc⟩:=yn hla3.row e
          rw [hk] at hc
          injection hc with hc
          injection hc with _ hc _
          exact ht hc
        have q5:=(g2.block _ (Array.getElem?_eq_some_iff.1 p3).1 (ne _ _ _ p3 (by decide))).trans p3
        have c15:w5.cell? ⟨w.heap.size,0,none⟩=some (.pointer (some ⟨b,0,none⟩)):=by rw [yd q5 0];rfl
        refine hK.out _ _ ⟨c15,fun _=>cA5⟩ ?_
        clear hK K
        try simp only [Act.put,qa,qb,qc]
        refine xW (i:=6) (o:=⟨none,.store 58 (.tmp 3) (.tmp 24),_,_,_,none⟩) (by kernel_rfl) rfl (by kernel_rfl) (fun K hK=>?_)
        go_simp
        refine hK.out _ _ (by rw [World.cell?,Below.heap_setCell _ ⟨A,0,none⟩ _ _ (by simp only;omega)];exact c15) ?_
        clear hK K
        try simp only [Act.put,qa,qb,qc]
        refine yY (by kernel_rfl) ⟨rfl,?_⟩ _
        have t3:=(H3.out.2.block _ (Array.getElem?_eq_some_iff.1 HBx.out.2.2).1 (by omega)).trans HBx.out.2.2
        have st:∀ k c t,w3.heap[k]?=some (.cells c t (0,0))->t≠3->k≠A->(w5.setCell ⟨A,0,none⟩ (.slice ad5 (all.length+1) cp5)).heap[k]?=some (.cells c t (0,0)):=fun k c t hk ht hkA=>
          (P2.block k (Array.getElem?_eq_some_iff.1 hk).1 (fun e=>e.elim hkA (ne k c t hk ht))).trans hk
        have hl6:Ln w0 V va b s2 (w5.setCell ⟨A,0,none⟩ (.slice ad5 (all.length+1) cp5)):=H3.out.1.keep (fun k hk=>by
          rcases hk with hk | hk
          · omega
          · obtain ⟨h2,_⟩:=yn hla3.row hk
            exact ⟨by omega,fun e=>by omega⟩) P2
        have ho6:Ofw (fun k=>k=b) w (w5.setCell ⟨A,0,none⟩ (.slice ad5 (all.length+1) cp5)):=(HE.out.2.1.trans H3.out.2).new P2 (fun i hi=>by
          rcases hi with hi | hi
          · omega
          · exact .inl (yn hla3.row hi).1)
        have hla6:LAt w.heap.size A 58 3 1 (T+1) (all++[aa]).length (encL encI (all++[aa])) (.slice ad5 (all.length+1) cp5) (w5.setCell ⟨A,0,none⟩ (.slice ad5 (all.length+1) cp5)):=by
          rw [Yx,List.length_append]
          exact P1
        have far:=hla3.far
        have hW3s:=hs3
        have kp:∀ k,(k=T∨k=W3.heap.size∨k=W3.heap.size+1)->(w5.setCell ⟨A,0,none⟩ (.slice ad5 (all.length+1) cp5)).heap[k]?=Wa.heap[k]?:=fun k hk=>by
          have hkA:k≠A:=by omega
          have hkb:k≠b:=by omega
          have hks:k<Wa.heap.size:=by have:=HSz.out;omega
          refine (P2.block k (Nat.lt_of_lt_of_le hks H3.out.2.size) (fun e=>?_)).trans (H3.out.2.block k hks hkb)
          rcases e with e | e
          · exact hkA e
          · rcases hk with hk | hk | hk
            · subst hk;exact ne _ _ _ t3 (by decide) e
            · have:=far k e;omega
            · have:=far k e;omega
        have hsz6:Wa.heap.size<=(w5.setCell ⟨A,0,none⟩ (.slice ad5 (all.length+1) cp5)).heap.size:=Nat.le_trans H3.out.2.size P2.size
        have HX6:=Hid.mk' (And.intro hla6 (And.intro hl6 ho6))
        have HB6:=Hid.mk' (And.intro (st _ _ _ p3 (by decide) (by omega)) (And.intro (st _ _ _ q3 (by decide) (by omega)) (st _ _ _ t3 (by decide) (by omega))))
        have HK6:=Hid.mk' (And.intro hsz6 kp)
        clear P1 P2 P3 g1 g2 g3 hla3 hla6 hl6 ho6 kp st p3 q3 t3 hsz6 ne far
        gi_wp2
        exact ⟨.inl ⟨rfl,s2,⟨k,all++[aa],_,HX6.out.1,HX6.out.2.1,HX6.out.2.2,HB6.out,by simp;omega,HGo.out⟩,HM1.out⟩,HK6.out⟩
  case done=>
    rintro s' W ⟨k,all,v,hla,hl,ho,⟨hp,hq,_⟩,hk,hgo⟩ ht hK
    have hR:(all,yh 52 s')=RR:=by
      rw [<-hgo]
      cases k <;> (unfold yQ;rw [ht])
    clear hgo
    obtain ⟨ad,cp,hv⟩:=yq hla.row
    subst hv
    have HF:Hid (Calls Tryz.prog 109 #[.pointer (some ⟨b,0,none⟩),.int .i64 52] W (RO w0 V va b (.tuple #[]) (yh 52 s') W)):=zC 52 W hl
    have c0:W.cell? ⟨w.heap.size,0,none⟩=some (.pointer (some ⟨b,0,none⟩)):=by rw [yd hp 0];rfl
    have HN:Hid (W.heap[w.heap.size+1]?=some (.cells #[.slice none 0 0] 58)/\Ofw (fun k=>k=b) w W/\W.heap[W3.heap.size]?=some (.deferred (some []))/\LAt w.heap.size A 58 3 1 (T+1) all.length (encL encI all) (.slice ad all.length cp) W/\W.heap[b]?=some (.cells #[va,.string (yc s'.1),.int .i64 s'.2] 115 (0,0))):=⟨hq,ho,hK,hla,hl.o⟩
    have HR:Hid ((all,yh 52 s')=RR):=hR
    clear hp hq hl ho hK hla hR
    gi_wp2_with (refine ⟨trivial,?_⟩;gi_at_call 109;refine (callsIn_wide.2 HF.out).mono ?_;rintro e w3 ⟨rfl,h3,o3⟩;have hn3:=(o3.block _ (Array.getElem?_eq_some_iff.1 HN.out.1).1 (by omega)).trans HN.out.1;have hk3:=(o3.block _ (Array.getElem?_eq_some_iff.1 HN.out.2.2.1).1 (by omega)).trans HN.out.2.2.1;have hl3:=HN.out.2.2.2.1.keep o3 (fun k hk=>⟨by omega,fun c e=>by rw [hk,HN.out.2.2.2.2] at e;injection e with e;injection e with _ e _;cases e⟩);have c3:=yd hn3 0;have z3:=yt hn3 0;have cA:w3.cell? ⟨A,0,none⟩=some (.slice ad all.length cp):=(by rw [yd hl3.box 0];rfl))
    obtain ⟨V3,hV3⟩:∃ V3,w3.setCell ⟨w.heap.size+1,0,none⟩ (.slice ad all.length cp)=V3:=⟨_,rfl⟩
    rw [hV3]
    have ov:Ofw (fun k=>k=w.heap.size+1) w3 V3:=hV3▸Ofw.set _ rfl
    have kV:V3.heap[T+1]?=some (.deferred (some [])):=hs3▸(ov.block _ (by have:=(Array.getElem?_eq_some_iff.1 hk3).1;omega) (by omega)).trans hk3
    have nV:V3.heap[w.heap.size+1]?=some (.cells #[(.slice ad all.length cp)] 58):=hV3▸yC hn3 0 _
    refine ⟨by simp,.inl ⟨_,_,rfl,run_takeDeferred kV,?_⟩⟩
    have hp:=zd (S:=fun k=>k=T+1) V3 (T+1) (.deferred none) rfl
    have c2:(V3.putObj (T+1) (.deferred none)).cell? ⟨w.heap.size+1,0,none⟩=some (.slice ad all.length cp):=by rw [yd ((hp.block _ (Array.getElem?_eq_some_iff.1 nV).1 (by omega)).trans nV) 0];rfl
    refine ⟨_,by simp [results,Tryz.results134,go_sem,c2];try rfl,_,rfl,?_,?_,?_⟩
    · rw [<-HR.out];exact (h3.keep (fun k hk=>by omega) ov).keep (fun k hk=>by omega) hp
    · exact ((HN.out.2.1.trans o3).new ov (fun i hi=>by omega)).new hp (fun i hi=>by omega)
    · rw [<-HR.out]
      exact yB (yB hl3.row (fun g hg e=>by
          obtain ⟨_,cur,hc⟩:=yn hl3.row hg
          have e':g=w.heap.size+1:=e
          rw [e',hn3] at hc
          injection hc with hc
          injection hc with _ hc _
          cases hc) ov) (fun g hg e=>by have h1:=hl3.far g hg;have e':g=T+1:=e;omega) hp
  case stop=>
    rintro c W (⟨rfl,v,hq,hr,hf,hl,ho⟩ | ⟨rfl,s',all,v,hla,hl,ho,⟨hp,hq⟩,hR⟩) hK
    · have c2:W.cell? ⟨w.heap.size+1,0,none⟩=some v:=by rw [yd hq 0];rfl
      refine wpIn_ret ?_
      gi_wp2
      refine ⟨by simp,.inl ⟨_,_,rfl,run_takeDeferred hK,?_⟩⟩
      have hp:=zd (S:=fun k=>k=W3.heap.size) W W3.heap.size (.deferred none) rfl
      have c3:(W.putObj W3.heap.size (.deferred none)).cell? ⟨w.heap.size+1,0,none⟩=some v:=by rw [yd ((hp.block _ (Array.getElem?_eq_some_iff.1 hq).1 (by omega)).trans hq) 0];rfl
      refine ⟨v,by simp [results,Tryz.results134,go_sem,c3];try rfl,v,rfl,hl.keep (fun k hk=>by omega) hp,ho.new hp (fun i hi=>by omega),yB hr (fun g hg e=>by have h1:=hf g hg;have e':g=W3.heap.size:=e;omega) hp⟩
    · obtain ⟨ad,cp,hv⟩:=yq hla.row
      subst hv
      have HF:Hid (Calls Tryz.prog 109 #[.pointer (some ⟨b,0,none⟩),.int .i64 52] W (RO w0 V va b (.tuple #[]) (yh 52 s') W)):=zC 52 W hl
      have c0:W.cell? ⟨w.heap.size,0,none⟩=some (.pointer (some ⟨b,0,none⟩)):=by rw [yd hp 0];rfl
      have HN:Hid (W.heap[w.heap.size+1]?=some (.cells #[.slice none 0 0] 58)/\Ofw (fun k=>k=b) w W/\W.heap[W3.heap.size]?=some (.deferred (some []))/\LAt w.heap.size A 58 3 1 (T+1) all.length (encL encI all) (.slice ad all.length cp) W/\W.heap[b]?=some (.cells #[va,.string (yc s'.1),.int .i64 s'.2] 115 (0,0))):=⟨hq,ho,hK,hla,hl.o⟩
      have HR:Hid ((all,yh 52 s')=RR):=hR
      clear hp hq hl ho hK hla hR
      refine wpIn_exit ?_
      gi_wp2_with (refine ⟨trivial,?_⟩;gi_at_call 109;refine (callsIn_wide.2 HF.out).mono ?_;rintro e w3 ⟨rfl,h3,o3⟩;have hn3:=(o3.block _ (Array.getElem?_eq_some_iff.1 HN.out.1).1 (by omega)).trans HN.out.1;have hk3:=(o3.block _ (Array.getElem?_eq_some_iff.1 HN.out.2.2.1).1 (by omega)).trans HN.out.2.2.1;have hl3:=HN.out.2.2.2.1.keep o3 (fun k hk=>⟨by omega,fun c e=>by rw [hk,HN.out.2.2.2.2] at e;injection e with e;injection e with _ e _;cases e⟩);have c3:=yd hn3 0;have z3:=yt hn3 0;have cA:w3.cell? ⟨A,0,none⟩=some (.slice ad all.length cp):=(by rw [yd hl3.box 0];rfl))
      obtain ⟨V3,hV3⟩:∃ V3,w3.setCell ⟨w.heap.size+1,0,none⟩ (.slice ad all.length cp)=V3:=⟨_,rfl⟩
      rw [hV3]
      have ov:Ofw (fun k=>k=w.heap.size+1) w3 V3:=hV3▸Ofw.set _ rfl
      have kV:V3.heap[T+1]?=some (.deferred (some [])):=hs3▸(ov.block _ (by have:=(Array.getElem?_eq_some_iff.1 hk3).1;omega) (by omega)).trans hk3
      have nV:V3.heap[w.heap.size+1]?=some (.cells #[(.slice ad all.length cp)] 58):=hV3▸yC hn3 0 _
      refine ⟨by simp,.inl ⟨_,_,rfl,run_takeDeferred kV,?_⟩⟩
      have hp:=zd (S:=fun k=>k=T+1) V3 (T+1) (.deferred none) rfl
      have c2:(V3.putObj (T+1) (.deferred none)).cell? ⟨w.heap.size+1,0,none⟩=some (.slice ad all.length cp):=by rw [yd ((hp.block _ (Array.getElem?_eq_some_iff.1 nV).1 (by omega)).trans nV) 0];rfl
      refine ⟨_,by simp [results,Tryz.results134,go_sem,c2];try rfl,_,rfl,?_,?_,?_⟩
      · rw [<-HR.out];exact (h3.keep (fun k hk=>by omega) ov).keep (fun k hk=>by omega) hp
      · exact ((HN.out.2.1.trans o3).new ov (fun i hi=>by omega)).new hp (fun i hi=>by omega)
      · rw [<-HR.out]
        exact yB (yB hl3.row (fun g hg e=>by
            obtain ⟨_,cur,hc⟩:=yn hl3.row hg
            have e':g=w.heap.size+1:=e
            rw [e',hn3] at hc
            injection hc with hc
            injection hc with _ hc _
            cases hc) ov) (fun g hg e=>by have h1:=hl3.far g hg;have e':g=T+1:=e;omega) hp
end Go.Proofs.YthohnmplbjhjaaaGreatDoor

namespace Go.Proofs.YthohnmplbjhjaaaGreatDoor
open Go Go.RowKit Go.Shelf Go.Lib
theorem zl {w w':World} {o:Obj} {row:Option Nat} (h:(w.alloc o).grownBy w' row):Ofw (fun k=>row=some k) w w':=by
 have hb:Below w.heap.size w (w.alloc o):=(Below.refl _ _).alloc (Nat.le_refl _) _
 have hsV:(w.alloc o).heap.size=w.heap.size+1:=by simp
 exact ⟨h.os.trans hb.os,h.tape.trans hb.tape,h.output.trans hb.output,Nat.le_trans hb.size h.size,fun k hk hv=>(h.block k (by omega) (fun e=>hv e.symm)).trans (hb.block k hk)⟩
theorem un58:Tryz.prog.underlying 58=some (.slice 3):=by kernel_rfl
theorem inf3:(Tryz.prog.info? 3).map (fun i=>(i.zero,i.size,i.bytes))=some (some (.int .i64 0),1,8):=by kernel_rfl
set_option maxRecDepth 10000 in
set_option maxHeartbeats 2000000 in
theorem y4M {w0:World} {V:List Md.Vr} {va:Value} {b:Nat} {s:St} (n:Nat) (x:List UInt8) (w:World) (h:Ln w0 V va b s w) (hx:x.length<=70000) (hn:n<=1000):Calls Tryz.prog 170 #[.pointer (some ⟨b,0,none⟩),.string (yc x),.int .i64 n] w (RL w0 V va b 3 1 (yT n x s).1.length (encL encI (yT n x s).1) (yT n x s).2 w):=by
  have hlt:=h.lt
  have hbg:=h.big
  have HV:Hid (Calls Tryz.prog 130 #[.pointer (some ⟨b,0,none⟩),.string (yc x)] w (RO w0 V va b (.int .i64 (yN x s).1) (yN x s).2 w)):=X9 x w h hx
  have HNu:Hid (∀ t w',Ln w0 V va b t w'->Calls Tryz.prog 81 #[.pointer (some ⟨b,0,none⟩)] w' (RO w0 V va b (.int .i64 (yI t).1) (yI t).2 w')):=fun t w' h'=>YC w' h'
  have HD:Hid (zk (n-1) [(yN x s).1] (yN x s).2=yT n x s):=rfl
  obtain ⟨RR,hRR⟩:∃ RR,yT n x s=RR:=⟨_,rfl⟩
  rw [hRR] at HD ⊢
  obtain ⟨a0,ha0⟩:∃ a,(yN x s).1=a:=⟨_,rfl⟩
  obtain ⟨t1,ht1⟩:∃ t,(yN x s).2=t:=⟨_,rfl⟩
  rw [ha0,ht1] at HV HD
  clear hRR ha0 ht1
  obtain ⟨X,hX⟩:∃ X,yc x=X:=⟨_,rfl⟩
  rw [hX] at HV ⊢
  clear h hx hX
  go_enter Tryz.func170,Tryz.ntmps170
  go_wp2_with fail
  refine cZ HV.out ?_
  rintro e w1 ⟨rfl,h1,o1⟩
  have hs1:=o1.size
  have W2:Hid (Ln w0 V va b t1 (w1.alloc (.cells #[.int .i64 a0] 3))/\Ofw (fun k=>k=b) w (w1.alloc (.cells #[.int .i64 a0] 3))/\(w1.alloc (.cells #[.int .i64 a0] 3)).ownsRow w.heap.size 3 1 (.slice (some ⟨w1.heap.size,0,none⟩) 1 1) 1 (encL encI [a0])):=by
    have hb:Below w1.heap.size w1 (w1.alloc (.cells #[.int .i64 a0] 3)):=(Below.refl _ _).alloc (Nat.le_refl _) _
    exact ⟨h1.below hb,o1.trans (Ofw.of_below hb),Yw (heap_alloc_new w1 _) hs1 rfl⟩
  clear h1 o1
  go_wp2_with fail
  go_loopg [7] (n-1) (fun g v7 wr=>∃ (ad:Option Addr) (m cp:Nat) (row:List Int) (sc:St),v7=.slice ad m cp/\m=row.length/\(row.length+g=n∨(g=0/\n<=row.length))/\row.length<=1000/\Hid (zk g row sc=RR)/\Hid (wr.ownsRow w.heap.size 3 1 (.slice ad row.length cp) row.length (encL encI row))/\Hid (Ln w0 V va b sc wr)/\Hid (Ofw (fun k=>k=b) w wr))
  case atStart=>exact ⟨_,_,_,[a0],t1,rfl,rfl,by simp;omega,by simp,HD,W2.out.2.2,W2.out.1,W2.out.2.1⟩
  case round=>
    obtain ⟨ad,m,cp,row,sc,rfl,rfl,hg,hr,HG,HO,HL,HW⟩:=hrel
    cases gk with
    | zero =>
      have h1:n<=row.length:=by omega
      have hc:decide ((row.length:Int)<(n:Int))=false:=decide_eq_false (by omega)
      have HR:Hid ((row,sc)=RR):=HG
      clear hg HG
      go_wp2_with fail
      go_ret
      exact ⟨_,rfl,by rw [<-HR.out];exact HL.out,HW.out,by rw [<-HR.out];exact HO.out⟩
    | succ g =>
      have h1:row.length<n:=by omega
      have hc:decide ((row.length:Int)<(n:Int))=true:=decide_eq_true (by omega)
      have hg2:row.length+(g+1)=n:=by omega
      obtain ⟨aa,haa⟩:∃ aa,(yI sc).1=aa:=⟨_,rfl⟩
      obtain ⟨s2,hs2⟩:∃ s2,(yI sc).2=s2:=⟨_,rfl⟩
      have HG2:Hid (zk g (row++[aa]) s2=RR):=by
        show _=_
        rw [<-HG.out]
        conv=>rhs;unfold zk
        rw [haa,hs2]
      have HI:Hid (Calls Tryz.prog 81 #[.pointer (some ⟨b,0,none⟩)] wr (RO w0 V va b (.int .i64 aa) s2 wr)):=by
        have:=HNu.out sc wr HL.out
        rw [haa,hs2] at this
        exact this
      have HB:Hid (wr.heap[b]?=some (.cells #[va,.string (yc sc.1),.int .i64 sc.2] 115 (0,0))):=HL.out.o
      clear hg HG haa hs2
      go_wp2_with (first
        | (go_at_call 81;refine cZ HI.out ?_;rintro e w2 ⟨rfl,h3,h4⟩;(have H2:Hid (Ln w0 V va b s2 w2/\Ofw (fun k=>k=b) w w2/\w2.ownsRow w.heap.size 3 1 (.slice ad row.length cp) row.length (encL encI row)):=⟨h3,HW.out.trans h4,yB HO.out (fun g hg e=>by obtain ⟨h7,_⟩:=yn HO.out hg;have e':g=b:=e;omega) h4⟩);clear h3 h4)
        | (at_builtin;refine zZ w2 (.int .i64 aa) rfl _ _ 58 3 (.int .i64 0) 8 rfl un58 inf3 rfl w.heap.size _ _ _ (by rfl) H2.out.2.2 rfl _ rfl (by rfl) (by unfold maxLen;omega) (by omega) (H2.out.2.1.size) ?_;intro v3 w3 ho3 hg3 hn3;obtain ⟨ad3,cp3,hv3⟩:=yq ho3;subst hv3;(have H3:Hid (Ln w0 V va b s2 w3/\Ofw (fun k=>k=b) w w3/\w3.ownsRow w.heap.size 3 1 (.slice ad3 (row++[aa]).length cp3) (row++[aa]).length (encL encI (row++[aa]))):=⟨H2.out.1.keep (fun k hk=>by obtain ⟨h7,_⟩:=yn H2.out.2.2 hk;omega) (zl hg3),H2.out.2.1.new (zl hg3) (fun i hi=>by obtain ⟨h7,_⟩:=yn H2.out.2.2 hi;omega),(by rw [Yx,List.length_append];exact ho3)⟩);clear ho3 hg3 hn3))
      go_roundg g
      case measure=>omega
      case rel=>exact ⟨ad3,_,cp3,row++[aa],s2,rfl,by simp,by simp;omega,by simp;omega,HG2,H3.out.2.2,H3.out.1,H3.out.2.1⟩
end Go.Proofs.YthohnmplbjhjaaaGreatDoor
