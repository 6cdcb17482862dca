import Derived.Test.YtjgghimjnbjlbaaGreatDoorJ03
import Derived.Test.YtjgghimjnbjlbaaGreatDoorJ09
import Derived.Test.YtjgghimjnbjlbaaGreatDoorJ42
import Derived.BigQuiet
namespace Go.Proofs.YtjgghimjnbjlbaaGreatDoor
open Go Go.RowKit
set_option maxRecDepth 10000
set_option maxHeartbeats 8000000
def VlAt (w:World) (b:Nat) (x:List Int):Prop:=w.heap[b]?=some (.cells (x.map (Value.int .i64)).toArray 3 (0,0))
theorem VlAt.lt {w:World} {b:Nat} {x:List Int} (h:VlAt w b x):b<w.heap.size:=(Array.getElem?_eq_some_iff.1 h).1
theorem VlAt.cell {w:World} {b:Nat} {x:List Int} (h:VlAt w b x) (j:Nat) (v:Int) (hj:x[j]?=some v):w.cell? ⟨b,j,none⟩=some (.int .i64 v):=by
  rw [cell_of h j];simp [hj]
theorem VlAt.frozen {w:World} {b:Nat} {x:List Int} (h:VlAt w b x) (j:Nat):w.frozen? ⟨b,j,none⟩=false:=frozen_of h j
theorem VlAt.set {w:World} {b:Nat} {x:List Int} (h:VlAt w b x) (j:Nat) (v:Int):VlAt (w.setCell ⟨b,j,none⟩ (.int .i64 v)) b (x.set j v):=by
  have:=set_of h j (.int .i64 v);unfold VlAt;rw [this];simp [List.map_set]
theorem VlAt.keep {w w':World} {b:Nat} {x:List Int} (h:VlAt w b x) (hk:w'.heap[b]?=w.heap[b]?):VlAt w' b x:=hk.trans h
theorem los_len (vs:List Md.Vr):(losL vs).length=vs.length:=List.length_map ..
theorem set_mid (x l:List Int) (j:Nat) (v:Int) (hj:j<x.length):(x.take (j+1)++l).set j v=x.take j++v :: l:=by
  have e:x.take (j+1)=x.take j++[x[j]]:=List.take_succ_eq_append_getElem hj;have hl:(x.take j).length=j:=by rw [List.length_take];omega
  rw [e,List.append_assoc,List.set_append_right j v (by omega),hl,Nat.sub_self];rfl
theorem advance_any (vv:Value) (vs:List Md.Vr) (b:Nat) (x:List Int) (w:World) (hv:VarsAt w vv vs) (hx:VlAt w b x) (hl:x.length=vs.length) (hb:∀ a∈x,-9000000000000000000<=a/\a<=9000000000000000000) (hne:∀ a n c g o,0<vs.length->vv=.slice (some ⟨g,o,a⟩) n c->g≠b) (cp:Nat):Calls Tryz.prog 58 #[vv,.slice (some ⟨b,0,none⟩) vs.length cp] w fun e w'=>e=.returned (.bool (advL vs x).isSome)/\VlAt w' b ((advL vs x).getD (losL vs))/\Ofw (fun k=>k=b) w w':=by
  obtain ⟨va,vcp,rfl,hvl,_,hvc⟩:=hv;unfold maxLen at hvl;obtain ⟨n,hn⟩:∃ n,vs.length=n:=⟨_,rfl⟩;have HN:Hid (vs.length=n/\x.length=n):=⟨hn,hl.trans hn⟩;have HC:Hid (∀ w',Ofw (fun k=>k=b) w w'->∀ j (h:j<vs.length),∃ vb off,va=some ⟨vb,off,none⟩/\w'.cell? ⟨vb,off+j*3+1,none⟩=some (.int .i64 vs[j].lo)/\w'.cell? ⟨vb,off+j*3+2,none⟩=some (.int .i64 vs[j].hi)):=fun w' ho j h=>by
    obtain ⟨vb,off,e,hlt,hc⟩:=hvc (by omega);have hk:=ho.block vb hlt (fun e2=>hne _ _ _ _ _ (by omega) (by rw [e]) e2);refine ⟨vb,off,e,?_,?_⟩
    · rw [<-(hc j h).2.1];simp only [World.cell?,hk]
    · rw [<-(hc j h).2.2];simp only [World.cell?,hk]
  have HB:Hid (∀ a∈x,-9000000000000000000<=a/\a<=9000000000000000000):=hb;have H0:Hid (VlAt w b (x.take n++(losL vs).drop n)):=by
    rw [List.take_of_length_le (by omega),List.drop_of_length_le (by rw [los_len];omega),List.append_nil];exact hx
  rw [hn] at hvl ⊢;clear hvc hx hb hne hl hn;go_enter Tryz.func58,Tryz.ntmps58;go_wp2_with fail
  go_loopw [5] (fun iv wr=>∃ (k:Nat) (i:Int),iv=.int .i64 i/\Hid (i=(k:Int)-1/\k<=n)/\Hid (advL vs x=advT vs x k)/\Hid (VlAt wr b (x.take k++(losL vs).drop k))/\Hid (Ofw (fun k=>k=b) w wr)) (fun iv _=>(intOf iv+1).toNat)
  case atStart=>exact ⟨n,_,rfl,⟨rfl,Nat.le_refl _⟩,by show advT vs x vs.length=_;rw [HN.out.1],H0,Ofw.refl _ _⟩
  case round=>
    obtain ⟨k,i,rfl,HI,HA,HV,HO⟩:=hrel;clear H0
    by_cases hk:k=0
    · have hi:i=-1:=by have:=HI.out.1;omega
      have HAn:Hid (advL vs x=none):=by rw [HA.out,hk];rfl
      have HV0:Hid (VlAt wr b (losL vs)):=by have:=HV.out;rw [hk] at this;exact this
      clear hk HI HV;subst hi;go_wp2_with fail
      go_ret;rw [HAn.out];exact ⟨rfl,HV0.out,HO.out⟩
    · obtain ⟨j,rfl⟩:∃ j,k=j+1:=⟨k-1,by omega⟩
      obtain rfl:i=(j:Int):=by have:=HI.out.1;omega
      have hjn:j<n:=HI.out.2;have hjv:j<vs.length:=by have:=HN.out.1;omega
      have hjx:j<x.length:=by have:=HN.out.2;omega
      obtain ⟨vb,off,rfl,c1,c2⟩:=HC.out wr HO.out j hjv;have HC2:Hid (∀ w',Ofw (fun k=>k=b) w w'->∀ j (h:j<vs.length),∃ vb' off',some (⟨vb,off,none⟩:Addr)=some ⟨vb',off',none⟩/\w'.cell? ⟨vb',off'+j*3+1,none⟩=some (.int .i64 vs[j].lo)/\w'.cell? ⟨vb',off'+j*3+2,none⟩=some (.int .i64 vs[j].hi)):=HC.out;have hg:(x.take (j+1)++(losL vs).drop (j+1))[j]?=some x[j]:=by
        rw [List.getElem?_append_left (by rw [List.length_take];omega),List.getElem?_take_of_lt (by omega),List.getElem?_eq_getElem hjx]
      have cx:wr.cell? ⟨b,j,none⟩=some (.int .i64 x[j]):=HV.out.cell j _ hg;have fx:wr.frozen? ⟨b,j,none⟩=false:=HV.out.frozen j;have hbj:=HB.out x[j] (List.getElem_mem hjx);have hgd:x.getD j 0=x[j]:=by simp [List.getD,List.getElem?_eq_getElem hjx]
      have hhi:hiAt vs j=vs[j].hi:=by unfold hiAt;rw [List.getElem?_eq_getElem hjv];rfl
      obtain ⟨a,ha⟩:∃ a,x[j]=a:=⟨_,rfl⟩;obtain ⟨h,hh⟩:∃ h,vs[j].hi=h:=⟨_,rfl⟩;obtain ⟨lo,hlo⟩:∃ lo,vs[j].lo=lo:=⟨_,rfl⟩;have HL:Hid (∀ (h:j<vs.length),vs[j].lo=lo):=fun _=>hlo
      rw [ha] at cx hbj hgd;rw [hh] at c2 hhi;rw [hlo] at c1;have HS:Hid (advT vs x (j+1)=if a<h then some (x.take j++(a+1) :: (losL vs).drop (j+1)) else advT vs x j):=by
        show (if x.getD j 0<hiAt vs j then some (x.take j++(x.getD j 0+1) :: (losL vs).drop (j+1)) else advT vs x j)=_;rw [hgd,hhi]
      have HSet:Hid (∀ v,(x.take (j+1)++(losL vs).drop (j+1)).set j v=x.take j++v :: (losL vs).drop (j+1)):=fun v=>set_mid x _ j v hjx
      have HDr:Hid ((losL vs).drop j=lo :: (losL vs).drop (j+1)):=by
        show _=_;rw [List.drop_eq_getElem_cons (by rw [los_len];exact hjv)]
        congr 1
        simp [losL,hlo]
      have hj0:(0:Int)<=(j:Int):=by omega
      have hjI:(j:Int)<(n:Int):=by omega
      clear hg hgd hhi ha hh hlo hjx hjv hk
      by_cases hlt:a<h
      · have hwr:wrap64 (a+1)=a+1:=by unfold wrap64;omega
        go_wp2_with fail
        go_quiet (fail)
        go_wp2_with fail
        go_ret;rw [HA.out,HS.out,if_pos (by omega)];refine ⟨rfl,?_,?_⟩
        · have:=HV.out.set j (a+1)
          rw [HSet.out] at this;exact this
        · exact HO.out.trans ((Ofw.of_below (below_drewN (Below.refl _ _) _)).trans (Ofw.set (S:=fun k=>k=b) _ rfl))
      · have hlt':h<=a:=by omega
        go_wp2_with fail
        go_quiet (fail)
        go_wp2_with fail
        go_roundw
        case rel=>
          refine ⟨j,_,rfl,⟨rfl,by omega⟩,?_,?_,?_⟩
          · show _=_
            rw [HA.out,HS.out,if_neg (by omega)]
          · have:=HV.out.set j lo
            rw [HSet.out,<-HDr.out] at this;exact this
          · exact HO.out.trans ((Ofw.of_below (below_drewN (Below.refl _ _) _)).trans (Ofw.set (S:=fun k=>k=b) _ rfl))
        case measure=>first | (simp [intOf];done) | (simp [intOf];omega)
end Go.Proofs.YtjgghimjnbjlbaaGreatDoor
