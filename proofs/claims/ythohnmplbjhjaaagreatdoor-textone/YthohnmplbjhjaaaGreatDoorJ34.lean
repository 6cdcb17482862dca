/-
  Put together: TyEq, TySame.
-/
import Derived.Test.YthohnmplbjhjaaaGreatDoorJ33
import Derived.ChangeKeysEq
import Derived.Laws.StructEq
import Derived.Test.YthohnmplbjhjaaaGreatDoorJ06
namespace Go.Proofs.YthohnmplbjhjaaaGreatDoor
open Go Go.RowKit
set_option maxRecDepth 10000
set_option maxHeartbeats 1000000
def SmO (p:Prop) (w:World) (e:Ending) (w':World):Prop:=∃ r:Bool,e=.returned (.bool r)/\(r=true↔p)/\Below w.heap.size w w'
theorem SmO.one {p:Prop} {w w':World} {e:Ending} (h:SmO p w e w') (hp:p):e=.returned (.bool true)/\Below w.heap.size w w':=by
 obtain ⟨r,rfl,h1,h2⟩:=h
 exact ⟨by rw [h1.2 hp],h2⟩
theorem SmO.none {p:Prop} {w w':World} {e:Ending} (h:SmO p w e w') (hp:¬ p):e=.returned (.bool false)/\Below w.heap.size w w':=by
 obtain ⟨r,rfl,h1,h2⟩:=h
 refine ⟨?_,h2⟩
 cases r
 ·rfl
 ·exact absurd (h1.1 rfl) hp
theorem SmO.yes {p:Prop} {w w':World} (hp:p) (hb:Below w.heap.size w w'):SmO p w (.returned (.bool true)) w':=⟨true,rfl,⟨fun _=>hp,fun _=>rfl⟩,hb⟩
theorem SmO.no {p:Prop} {w w':World} (hp:¬ p) (hb:Below w.heap.size w w'):SmO p w (.returned (.bool false)) w':=⟨false,rfl,⟨fun h=>absurd h (by simp),fun h=>absurd h hp⟩,hb⟩
theorem YM {α:Type} {L M:List α} {k:Nat} (h:L.take k=M.take k) (h1:k<L.length) (h2:k<M.length) (he:L[k]=M[k]):L.take (k+1)=M.take (k+1):=by
 rw [List.take_succ_eq_append_getElem h1,List.take_succ_eq_append_getElem h2,h,he]
theorem YO {α:Type} {L M:List α} {k:Nat} (h:L.take k=M.take k) (h1:L.length<=k) (h2:M.length<=k):L=M:=by
 rw [List.take_of_length_le h1,List.take_of_length_le h2] at h
 exact h
theorem YN {α:Type} {L M:List α} {k:Nat} (h1:k<L.length) (h2:k<M.length) (he:L[k]≠M[k]):L≠M:=fun e=>by subst e;exact he rfl
theorem xP {W a:World} (h:Below W.heap.size W a) (o:Obj):Below W.heap.size W (a.alloc o):=h.alloc h.size o
theorem y5I : (Tryz.prog.fieldsOf 87).toList.map (fun f => (f.name, f.type, f.offset)) = [("C", 3, 0), ("X", 3, 1)] := by kernel_rfl
theorem y08 (x0 x1:Value) (w:World):(part 3 #[x0,x1] 0).run Tryz.prog w=.ok x0 w/\(part 3 #[x0,x1] 1).run Tryz.prog w=.ok x1 w:=⟨by kernel_rfl,by kernel_rfl⟩
theorem y5J (a0:Int) (a1:Int) (b0:Int) (b1:Int) (w:World):(Op.equalIn 10000 87 (.agg #[.int .i64 a0,.int .i64 a1]) (.agg #[.int .i64 b0,.int .i64 b1])).run Tryz.prog w=.ok ((a0==b0)&&(a1==b1)) w:=by
 rw [run_equalIn_struct (d:=9999) (ht:=by kernel_rfl) (hp:=by kernel_rfl)]
 have hf:=y5I
 generalize (Tryz.prog.fieldsOf 87).toList=l at *
 simp only [List.map_eq_cons_iff,List.map_eq_nil_iff,Prod.mk.injEq] at hf
 obtain ⟨f0,l0,rfl,⟨n0,t0,o0⟩,f1,l1,rfl,⟨n1,t1,o1⟩,rfl⟩:=hf
 have pa:=y08 (.int .i64 a0) (.int .i64 a1) w
 have pb:=y08 (.int .i64 b0) (.int .i64 b1) w
 have eq:=fun a b=>run_equalIn_int (P:=Tryz.prog) w 9998 3 .i64 .i64 a b Tryz.underlying3
 simp only [Op.eqFields,n0,t0,o0,n1,t1,o1,Sem.run_bind,pa,pb,eq,Result.andThen_ok,Sem.run_ite,Sem.run_pure]
 cases a0==b0 <;> cases a1==b1 <;> simp
theorem y09 (a0:Int) (a1:Int) (b0:Int) (b1:Int) (w:World):(binOp .neq 87 (.agg #[.int .i64 a0,.int .i64 a1]) (.agg #[.int .i64 b0,.int .i64 b1])).run Tryz.prog w=.ok (.bool (!((a0==b0)&&(a1==b1)))) w:=by
 rw [run_neq_struct,y5J]
 rfl
theorem y5K : (Tryz.prog.fieldsOf 56).toList.map (fun f => (f.name, f.type, f.offset)) = [("Name", 9, 0), ("Lo", 3, 1), ("Hi", 3, 2)] := by kernel_rfl
theorem y0a (x0 x1 x2:Value) (w:World):(part 9 #[x0,x1,x2] 0).run Tryz.prog w=.ok x0 w/\(part 3 #[x0,x1,x2] 1).run Tryz.prog w=.ok x1 w/\(part 3 #[x0,x1,x2] 2).run Tryz.prog w=.ok x2 w:=⟨by kernel_rfl,by kernel_rfl,by kernel_rfl⟩
theorem y5L (a0:ByteArray) (a1:Int) (a2:Int) (b0:ByteArray) (b1:Int) (b2:Int) (w:World):(Op.equalIn 10000 56 (.agg #[.string a0,.int .i64 a1,.int .i64 a2]) (.agg #[.string b0,.int .i64 b1,.int .i64 b2])).run Tryz.prog w=.ok ((a0.toList==b0.toList)&&(a1==b1)&&(a2==b2)) w:=by
 rw [run_equalIn_struct (d:=9999) (ht:=by kernel_rfl) (hp:=by kernel_rfl)]
 have hf:=y5K
 generalize (Tryz.prog.fieldsOf 56).toList=l at *
 simp only [List.map_eq_cons_iff,List.map_eq_nil_iff,Prod.mk.injEq] at hf
 obtain ⟨f0,l0,rfl,⟨n0,t0,o0⟩,f1,l1,rfl,⟨n1,t1,o1⟩,f2,l2,rfl,⟨n2,t2,o2⟩,rfl⟩:=hf
 have pa:=y0a (.string a0) (.int .i64 a1) (.int .i64 a2) w
 have pb:=y0a (.string b0) (.int .i64 b1) (.int .i64 b2) w
 have eq:=fun a b=>run_equalIn_int (P:=Tryz.prog) w 9998 3 .i64 .i64 a b Tryz.underlying3
 have es:=fun a b=>run_equalIn_string (P:=Tryz.prog) w 9998 9 a b Tryz.underlying9
 simp only [Op.eqFields,n0,t0,o0,n1,t1,o1,n2,t2,o2,Sem.run_bind,pa,pb,eq,es,Result.andThen_ok,Sem.run_ite,Sem.run_pure]
 cases a0.toList==b0.toList <;> cases a1==b1 <;> cases a2==b2 <;> simp
theorem y0b (a0:ByteArray) (a1:Int) (a2:Int) (b0:ByteArray) (b1:Int) (b2:Int) (w:World):(binOp .neq 56 (.agg #[.string a0,.int .i64 a1,.int .i64 a2]) (.agg #[.string b0,.int .i64 b1,.int .i64 b2])).run Tryz.prog w=.ok (.bool (!((a0.toList==b0.toList)&&(a1==b1)&&(a2==b2)))) w:=by
 rw [run_neq_struct,y5L]
 rfl
theorem y5M : (Tryz.prog.fieldsOf 122).toList.map (fun f => (f.name, f.type, f.offset)) = [("kind", 3, 0), ("op", 3, 1), ("k", 3, 2), ("v", 3, 3), ("x", 3, 4), ("y", 3, 5)] := by kernel_rfl
theorem y0c (x0 x1 x2 x3 x4 x5:Value) (w:World):(part 3 #[x0,x1,x2,x3,x4,x5] 0).run Tryz.prog w=.ok x0 w/\(part 3 #[x0,x1,x2,x3,x4,x5] 1).run Tryz.prog w=.ok x1 w/\(part 3 #[x0,x1,x2,x3,x4,x5] 2).run Tryz.prog w=.ok x2 w/\(part 3 #[x0,x1,x2,x3,x4,x5] 3).run Tryz.prog w=.ok x3 w/\(part 3 #[x0,x1,x2,x3,x4,x5] 4).run Tryz.prog w=.ok x4 w/\(part 3 #[x0,x1,x2,x3,x4,x5] 5).run Tryz.prog w=.ok x5 w:=⟨by kernel_rfl,by kernel_rfl,by kernel_rfl,by kernel_rfl,by kernel_rfl,by kernel_rfl⟩
theorem y5N (a0:Int) (a1:Int) (a2:Int) (a3:Int) (a4:Int) (a5:Int) (b0:Int) (b1:Int) (b2:Int) (b3:Int) (b4:Int) (b5:Int) (w:World):(Op.equalIn 10000 122 (.agg #[.int .i64 a0,.int .i64 a1,.int .i64 a2,.int .i64 a3,.int .i64 a4,.int .i64 a5]) (.agg #[.int .i64 b0,.int .i64 b1,.int .i64 b2,.int .i64 b3,.int .i64 b4,.int .i64 b5])).run Tryz.prog w=.ok ((a0==b0)&&(a1==b1)&&(a2==b2)&&(a3==b3)&&(a4==b4)&&(a5==b5)) w:=by
 rw [run_equalIn_struct (d:=9999) (ht:=by kernel_rfl) (hp:=by kernel_rfl)]
 have hf:=y5M
 generalize (Tryz.prog.fieldsOf 122).toList=l at *
 simp only [List.map_eq_cons_iff,List.map_eq_nil_iff,Prod.mk.injEq] at hf
 obtain ⟨f0,l0,rfl,⟨n0,t0,o0⟩,f1,l1,rfl,⟨n1,t1,o1⟩,f2,l2,rfl,⟨n2,t2,o2⟩,f3,l3,rfl,⟨n3,t3,o3⟩,f4,l4,rfl,⟨n4,t4,o4⟩,f5,l5,rfl,⟨n5,t5,o5⟩,rfl⟩:=hf
 have pa:=y0c (.int .i64 a0) (.int .i64 a1) (.int .i64 a2) (.int .i64 a3) (.int .i64 a4) (.int .i64 a5) w
 have pb:=y0c (.int .i64 b0) (.int .i64 b1) (.int .i64 b2) (.int .i64 b3) (.int .i64 b4) (.int .i64 b5) w
 have eq:=fun a b=>run_equalIn_int (P:=Tryz.prog) w 9998 3 .i64 .i64 a b Tryz.underlying3
 simp only [Op.eqFields,n0,t0,o0,n1,t1,o1,n2,t2,o2,n3,t3,o3,n4,t4,o4,n5,t5,o5,Sem.run_bind,pa,pb,eq,Result.andThen_ok,Sem.run_ite,Sem.run_pure]
 cases a0==b0 <;> cases a1==b1 <;> cases a2==b2 <;> cases a3==b3 <;> cases a4==b4 <;> cases a5==b5 <;> simp
theorem y07 (a0:Int) (a1:Int) (a2:Int) (a3:Int) (a4:Int) (a5:Int) (b0:Int) (b1:Int) (b2:Int) (b3:Int) (b4:Int) (b5:Int) (w:World):(binOp .eql 122 (.agg #[.int .i64 a0,.int .i64 a1,.int .i64 a2,.int .i64 a3,.int .i64 a4,.int .i64 a5]) (.agg #[.int .i64 b0,.int .i64 b1,.int .i64 b2,.int .i64 b3,.int .i64 b4,.int .i64 b5])).run Tryz.prog w=.ok (.bool ((a0==b0)&&(a1==b1)&&(a2==b2)&&(a3==b3)&&(a4==b4)&&(a5==b5))) w:=by
 rw [run_eql_struct,y5N]
 rfl
theorem y5O {a b:Int × Int} (h:((a.1==b.1)&&(a.2==b.2))=true):a=b:=by
 rw [Bool.and_eq_true,beq_iff_eq,beq_iff_eq] at h
 exact Prod.ext h.1 h.2
theorem y5P {a b:Md.Vr} (h:((a.name.toList==b.name.toList)&&(a.lo==b.lo)&&(a.hi==b.hi))=true):a=b:=by
 obtain ⟨⟨⟨n⟩⟩,l,u⟩:=a
 obtain ⟨⟨⟨n'⟩⟩,l',u'⟩:=b
 simp only [Bool.and_eq_true,beq_iff_eq,ByteArray.toList_eq] at h
 obtain ⟨⟨rfl,rfl⟩,rfl⟩:=h
 rfl
theorem XA (L M:List Int) (v v':Value) (w:World) (h:IntsAt w v L) (h':IntsAt w v' M):Calls Tryz.prog 52 #[v,v'] w (SmO (L=M) w):=by
 obtain ⟨a,cap,rfl,hn,hc⟩:=h
 obtain ⟨a',cap',rfl,hn',hc'⟩:=h'
 unfold maxLen at hn hn'
 by_cases hlen:L.length=M.length
 ·have HC:Hid (∀ w',Below w.heap.size w w'->∀ j (hj:j<L.length),∃ g off,a=some ⟨g,off,none⟩/\w'.cell? ⟨g,off+j,none⟩=some (.int .i64 L[j])):=fun w' hb j hj=>by
   obtain ⟨g,off,e1,e2,e3⟩:=hc (by omega)
   exact ⟨g,off,e1,(hb.cell (p:=⟨g,off+j,none⟩) e2).trans (e3 j hj)⟩
  have HC':Hid (∀ w',Below w.heap.size w w'->∀ j (hj:j<M.length),∃ g off,a'=some ⟨g,off,none⟩/\w'.cell? ⟨g,off+j,none⟩=some (.int .i64 M[j])):=fun w' hb j hj=>by
   obtain ⟨g,off,e1,e2,e3⟩:=hc' (by omega)
   exact ⟨g,off,e1,(hb.cell (p:=⟨g,off+j,none⟩) e2).trans (e3 j hj)⟩
  have HLen:Hid (L.length=M.length):=hlen
  rw [<-hlen]
  clear hc hc' hlen hn'
  go_enter Tryz.func52,Tryz.ntmps52
  go_wp2_with fail
  go_loopw [13] (fun iv wr=>∃ k:Nat,iv=.int .i64 (k:Int)/\k<=L.length/\Hid (Below w.heap.size w wr/\L.take k=M.take k)) (fun iv _=>L.length-(intOf iv).toNat)
  case atStart=>exact ⟨0,rfl,Nat.zero_le _,Below.refl _ _,rfl⟩
  case round=>
   obtain ⟨k,rfl,hk,HBr⟩:=hrel
   by_cases hkn:k<L.length
   ·have hkI:(k:Int)<(L.length:Int):=by omega
    have hkm:k<M.length:=by have:=HLen.out;omega
    obtain ⟨g,off,rfl,x0⟩:=HC.out wr HBr.out.1 k hkn
    obtain ⟨g',off',rfl,y0⟩:=HC'.out wr HBr.out.1 k hkm
    by_cases hel:L[k]=M[k]
    ·have HNx:Hid (L.take (k+1)=M.take (k+1)):=YM HBr.out.2 hkn hkm hel
     rw [<-hel] at y0
     obtain ⟨z0,hz0⟩:∃ z,L[k]=z:=⟨_,rfl⟩
     rw [hz0] at x0 y0
     clear hz0 hel
     go_wp2_with fail
     go_region
     have HBd:Hid (Below w.heap.size w wr.drew):=HBr.out.1.drew
     go_wp2_with fail
     go_roundw
     case rel=>exact ⟨k+1,by go_num,hkn,HBd.out,HNx.out⟩
     case measure=>simp [intOf];omega
    ·have HNo:Hid (L≠M):=YN hkn hkm hel
     obtain ⟨z0,hz0⟩:∃ z,L[k]=z:=⟨_,rfl⟩
     obtain ⟨u0,hu0⟩:∃ z,M[k]=z:=⟨_,rfl⟩
     rw [hz0] at x0 hel
     rw [hu0] at y0 hel
     have hb:(z0 != u0)=true:=by simpa using hel
     clear hz0 hu0 hel
     go_wp2_with fail
     go_region
     have HBd:Hid (Below w.heap.size w wr.drew):=HBr.out.1.drew
     go_wp2_with fail
     go_ret
     exact SmO.no HNo.out HBd.out
   ·have hkI:¬ (k:Int)<(L.length:Int):=by omega
    have HYes:Hid (L=M):=YO HBr.out.2 (by omega) (by have:=HLen.out;omega)
    go_wp2_with fail
    go_ret
    exact SmO.yes HYes.out HBr.out.1
 ·have hlI:¬ ((L.length:Int)=(M.length:Int)):=by omega
  have HNo:Hid (L≠M):=fun e=>hlen (by rw [e])
  clear hc hc'
  go_enter Tryz.func52,Tryz.ntmps52
  go_wp2_with fail
  go_ret
  exact SmO.no HNo.out (Below.refl _ _)
theorem y06 (L M:List (Int × Int)) (v v':Value) (w:World) (h:TermsAt w v L) (h':TermsAt w v' M):Calls Tryz.prog 32 #[v,v'] w (SmO (L=M) w):=by
 obtain ⟨a,cap,rfl,hn,hc⟩:=h
 obtain ⟨a',cap',rfl,hn',hc'⟩:=h'
 unfold maxLen at hn hn'
 by_cases hlen:L.length=M.length
 ·have HC:Hid (∀ w',Below w.heap.size w w'->∀ j (hj:j<L.length),∃ g off,a=some ⟨g,off,none⟩/\w'.cell? ⟨g,off+j * 2,none⟩=some (.int .i64 L[j].1)/\w'.cell? ⟨g,off+j * 2+1,none⟩=some (.int .i64 L[j].2)):=fun w' hb j hj=>by
   obtain ⟨g,off,e1,e2,e3⟩:=hc (by omega)
   exact ⟨g,off,e1,(hb.cell (p:=⟨g,off+j * 2,none⟩) e2).trans (e3 j hj).1,(hb.cell (p:=⟨g,off+j * 2+1,none⟩) e2).trans (e3 j hj).2⟩
  have HC':Hid (∀ w',Below w.heap.size w w'->∀ j (hj:j<M.length),∃ g off,a'=some ⟨g,off,none⟩/\w'.cell? ⟨g,off+j * 2,none⟩=some (.int .i64 M[j].1)/\w'.cell? ⟨g,off+j * 2+1,none⟩=some (.int .i64 M[j].2)):=fun w' hb j hj=>by
   obtain ⟨g,off,e1,e2,e3⟩:=hc' (by omega)
   exact ⟨g,off,e1,(hb.cell (p:=⟨g,off+j * 2,none⟩) e2).trans (e3 j hj).1,(hb.cell (p:=⟨g,off+j * 2+1,none⟩) e2).trans (e3 j hj).2⟩
  have HLen:Hid (L.length=M.length):=hlen
  rw [<-hlen]
  clear hc hc' hlen hn'
  go_enter Tryz.func32,Tryz.ntmps32
  go_wp2_with fail
  go_loopw [13] (fun iv wr=>∃ k:Nat,iv=.int .i64 (k:Int)/\k<=L.length/\Hid (Below w.heap.size w wr/\L.take k=M.take k)) (fun iv _=>L.length-(intOf iv).toNat)
  case atStart=>exact ⟨0,rfl,Nat.zero_le _,Below.refl _ _,rfl⟩
  case round=>
   obtain ⟨k,rfl,hk,HBr⟩:=hrel
   by_cases hkn:k<L.length
   ·have hkI:(k:Int)<(L.length:Int):=by omega
    have hkm:k<M.length:=by have:=HLen.out;omega
    obtain ⟨g,off,rfl,x0,x1⟩:=HC.out wr HBr.out.1 k hkn
    obtain ⟨g',off',rfl,y0,y1⟩:=HC'.out wr HBr.out.1 k hkm
    by_cases hel:L[k]=M[k]
    ·have HNx:Hid (L.take (k+1)=M.take (k+1)):=YM HBr.out.2 hkn hkm hel
     rw [<-hel] at y0 y1
     obtain ⟨z0,hz0⟩:∃ z,L[k].1=z:=⟨_,rfl⟩
     rw [hz0] at x0 y0
     obtain ⟨z1,hz1⟩:∃ z,L[k].2=z:=⟨_,rfl⟩
     rw [hz1] at x1 y1
     have hne:∀ W,(binOp .neq 87 (.agg #[.int .i64 z0,.int .i64 z1]) (.agg #[.int .i64 z0,.int .i64 z1])).run Tryz.prog W=.ok (.bool false) W:=fun W=>by rw [y09];simp
     clear hz0 hz1 hel
     go_wp2_with fail
     go_region
     have HBd:Hid (Below w.heap.size w wr.drew):=HBr.out.1.drew
     go_wp2_with fail
     go_roundw
     case rel=>exact ⟨k+1,by go_num,hkn,HBd.out,HNx.out⟩
     case measure=>simp [intOf];omega
    ·have HNo:Hid (L≠M):=YN hkn hkm hel
     have hb:((L[k].1==M[k].1)&&(L[k].2==M[k].2))=false:=by
      cases hq:((L[k].1==M[k].1)&&(L[k].2==M[k].2))
      ·rfl
      ·exact absurd (y5O hq) hel
     obtain ⟨z0,hz0⟩:∃ z,L[k].1=z:=⟨_,rfl⟩
     rw [hz0] at x0 hb
     obtain ⟨u0,hu0⟩:∃ z,M[k].1=z:=⟨_,rfl⟩
     rw [hu0] at y0 hb
     obtain ⟨z1,hz1⟩:∃ z,L[k].2=z:=⟨_,rfl⟩
     rw [hz1] at x1 hb
     obtain ⟨u1,hu1⟩:∃ z,M[k].2=z:=⟨_,rfl⟩
     rw [hu1] at y1 hb
     have hne:∀ W,(binOp .neq 87 (.agg #[.int .i64 z0,.int .i64 z1]) (.agg #[.int .i64 u0,.int .i64 u1])).run Tryz.prog W=.ok (.bool true) W:=fun W=>by rw [y09,hb];rfl
     clear hz0 hz1 hu0 hu1 hel hb
     go_wp2_with fail
     go_region
     have HBd:Hid (Below w.heap.size w wr.drew):=HBr.out.1.drew
     go_wp2_with fail
     go_ret
     exact SmO.no HNo.out HBd.out
   ·have hkI:¬ (k:Int)<(L.length:Int):=by omega
    have HYes:Hid (L=M):=YO HBr.out.2 (by omega) (by have:=HLen.out;omega)
    go_wp2_with fail
    go_ret
    exact SmO.yes HYes.out HBr.out.1
 ·have hlI:¬ ((L.length:Int)=(M.length:Int)):=by omega
  have HNo:Hid (L≠M):=fun e=>hlen (by rw [e])
  clear hc hc'
  go_enter Tryz.func32,Tryz.ntmps32
  go_wp2_with fail
  go_ret
  exact SmO.no HNo.out (Below.refl _ _)
theorem y5Q (L M:List Md.Vr) (v v':Value) (w:World) (h:VarsAt w v L) (h':VarsAt w v' M):Calls Tryz.prog 29 #[v,v'] w (SmO (L=M) w):=by
 obtain ⟨a,cap,rfl,hn,_,hc⟩:=h
 obtain ⟨a',cap',rfl,hn',_,hc'⟩:=h'
 unfold maxLen at hn hn'
 by_cases hlen:L.length=M.length
 ·have HC:Hid (∀ w',Below w.heap.size w w'->∀ j (hj:j<L.length),∃ g off,a=some ⟨g,off,none⟩/\w'.cell? ⟨g,off+j * 3,none⟩=some (.string L[j].name)/\w'.cell? ⟨g,off+j * 3+1,none⟩=some (.int .i64 L[j].lo)/\w'.cell? ⟨g,off+j * 3+2,none⟩=some (.int .i64 L[j].hi)):=fun w' hb j hj=>by
   obtain ⟨g,off,e1,e2,e3⟩:=hc (by omega)
   exact ⟨g,off,e1,(hb.cell (p:=⟨g,off+j * 3,none⟩) e2).trans (e3 j hj).1,(hb.cell (p:=⟨g,off+j * 3+1,none⟩) e2).trans (e3 j hj).2.1,(hb.cell (p:=⟨g,off+j * 3+2,none⟩) e2).trans (e3 j hj).2.2⟩
  have HC':Hid (∀ w',Below w.heap.size w w'->∀ j (hj:j<M.length),∃ g off,a'=some ⟨g,off,none⟩/\w'.cell? ⟨g,off+j * 3,none⟩=some (.string M[j].name)/\w'.cell? ⟨g,off+j * 3+1,none⟩=some (.int .i64 M[j].lo)/\w'.cell? ⟨g,off+j * 3+2,none⟩=some (.int .i64 M[j].hi)):=fun w' hb j hj=>by
   obtain ⟨g,off,e1,e2,e3⟩:=hc' (by omega)
   exact ⟨g,off,e1,(hb.cell (p:=⟨g,off+j * 3,none⟩) e2).trans (e3 j hj).1,(hb.cell (p:=⟨g,off+j * 3+1,none⟩) e2).trans (e3 j hj).2.1,(hb.cell (p:=⟨g,off+j * 3+2,none⟩) e2).trans (e3 j hj).2.2⟩
  have HLen:Hid (L.length=M.length):=hlen
  rw [<-hlen]
  clear hc hc' hlen hn'
  go_enter Tryz.func29,Tryz.ntmps29
  go_wp2_with fail
  go_loopw [13] (fun iv wr=>∃ k:Nat,iv=.int .i64 (k:Int)/\k<=L.length/\Hid (Below w.heap.size w wr/\L.take k=M.take k)) (fun iv _=>L.length-(intOf iv).toNat)
  case atStart=>exact ⟨0,rfl,Nat.zero_le _,Below.refl _ _,rfl⟩
  case round=>
   obtain ⟨k,rfl,hk,HBr⟩:=hrel
   by_cases hkn:k<L.length
   ·have hkI:(k:Int)<(L.length:Int):=by omega
    have hkm:k<M.length:=by have:=HLen.out;omega
    obtain ⟨g,off,rfl,x0,x1,x2⟩:=HC.out wr HBr.out.1 k hkn
    obtain ⟨g',off',rfl,y0,y1,y2⟩:=HC'.out wr HBr.out.1 k hkm
    by_cases hel:L[k]=M[k]
    ·have HNx:Hid (L.take (k+1)=M.take (k+1)):=YM HBr.out.2 hkn hkm hel
     rw [<-hel] at y0 y1 y2
     obtain ⟨z0,hz0⟩:∃ z,L[k].name=z:=⟨_,rfl⟩
     rw [hz0] at x0 y0
     obtain ⟨z1,hz1⟩:∃ z,L[k].lo=z:=⟨_,rfl⟩
     rw [hz1] at x1 y1
     obtain ⟨z2,hz2⟩:∃ z,L[k].hi=z:=⟨_,rfl⟩
     rw [hz2] at x2 y2
     have hne:∀ W,(binOp .neq 56 (.agg #[.string z0,.int .i64 z1,.int .i64 z2]) (.agg #[.string z0,.int .i64 z1,.int .i64 z2])).run Tryz.prog W=.ok (.bool false) W:=fun W=>by rw [y0b];simp
     clear hz0 hz1 hz2 hel
     go_wp2_with fail
     go_region
     have HBd:Hid (Below w.heap.size w wr.drew):=HBr.out.1.drew
     go_wp2_with fail
     go_roundw
     case rel=>exact ⟨k+1,by go_num,hkn,HBd.out,HNx.out⟩
     case measure=>simp [intOf];omega
    ·have HNo:Hid (L≠M):=YN hkn hkm hel
     have hb:((L[k].name.toList==M[k].name.toList)&&(L[k].lo==M[k].lo)&&(L[k].hi==M[k].hi))=false:=by
      cases hq:((L[k].name.toList==M[k].name.toList)&&(L[k].lo==M[k].lo)&&(L[k].hi==M[k].hi))
      ·rfl
      ·exact absurd (y5P hq) hel
     obtain ⟨z0,hz0⟩:∃ z,L[k].name=z:=⟨_,rfl⟩
     rw [hz0] at x0 hb
     obtain ⟨u0,hu0⟩:∃ z,M[k].name=z:=⟨_,rfl⟩
     rw [hu0] at y0 hb
     obtain ⟨z1,hz1⟩:∃ z,L[k].lo=z:=⟨_,rfl⟩
     rw [hz1] at x1 hb
     obtain ⟨u1,hu1⟩:∃ z,M[k].lo=z:=⟨_,rfl⟩
     rw [hu1] at y1 hb
     obtain ⟨z2,hz2⟩:∃ z,L[k].hi=z:=⟨_,rfl⟩
     rw [hz2] at x2 hb
     obtain ⟨u2,hu2⟩:∃ z,M[k].hi=z:=⟨_,rfl⟩
     rw [hu2] at y2 hb
     have hne:∀ W,(binOp .neq 56 (.agg #[.string z0,.int .i64 z1,.int .i64 z2]) (.agg #[.string u0,.int .i64 u1,.int .i64 u2])).run Tryz.prog W=.ok (.bool true) W:=fun W=>by rw [y0b,hb];rfl
     clear hz0 hz1 hz2 hu0 hu1 hu2 hel hb
     go_wp2_with fail
     go_region
     have HBd:Hid (Below w.heap.size w wr.drew):=HBr.out.1.drew
     go_wp2_with fail
     go_ret
     exact SmO.no HNo.out HBd.out
   ·have hkI:¬ (k:Int)<(L.length:Int):=by omega
    have HYes:Hid (L=M):=YO HBr.out.2 (by omega) (by have:=HLen.out;omega)
    go_wp2_with fail
    go_ret
    exact SmO.yes HYes.out HBr.out.1
 ·have hlI:¬ ((L.length:Int)=(M.length:Int)):=by omega
  have HNo:Hid (L≠M):=fun e=>hlen (by rw [e])
  clear hc hc'
  go_enter Tryz.func29,Tryz.ntmps29
  go_wp2_with fail
  go_ret
  exact SmO.no HNo.out (Below.refl _ _)
end Go.Proofs.YthohnmplbjhjaaaGreatDoor

namespace Go.Proofs.YthohnmplbjhjaaaGreatDoor
open Go Go.RowKit
set_option maxRecDepth 10000 in
set_option maxHeartbeats 1000000 in
theorem y5G (L M:List (List Int)) (v v':Value) (w:World) (h:RowsAt w v L) (h':RowsAt w v' M):Calls Tryz.prog 53 #[v,v',.func (.func 52) #[] #[]] w (SmO (L=M) w):=by
 have HR:=h
 have HR':=h'
 obtain ⟨a,cap,rfl,hn,hc⟩:=h
 obtain ⟨a',cap',rfl,hn',hc'⟩:=h'
 unfold maxLen at hn hn'
 by_cases hlen:L.length=M.length
 ·have HC:Hid (∀ w',Below w.heap.size w w'->∀ j (hj:j<L.length),∃ g off u,a=some ⟨g,off,none⟩/\w'.cell? ⟨g,off+j,none⟩=some u/\IntsAt w' u L[j]):=fun w' hb j hj=>by
   obtain ⟨g,off,e1,e2,e3⟩:=hc (by omega)
   obtain ⟨u,e4,e5⟩:=e3 j hj
   exact ⟨g,off,u,e1,(hb.cell (p:=⟨g,off+j,none⟩) e2).trans e4,e5.below hb⟩
  have HC':Hid (∀ w',Below w.heap.size w w'->∀ j (hj:j<M.length),∃ g off u,a'=some ⟨g,off,none⟩/\w'.cell? ⟨g,off+j,none⟩=some u/\IntsAt w' u M[j]):=fun w' hb j hj=>by
   obtain ⟨g,off,e1,e2,e3⟩:=hc' (by omega)
   obtain ⟨u,e4,e5⟩:=e3 j hj
   exact ⟨g,off,u,e1,(hb.cell (p:=⟨g,off+j,none⟩) e2).trans e4,e5.below hb⟩
  have HLen:Hid (L.length=M.length):=hlen
  rw [<-hlen]
  clear hc hc' hlen hn' HR HR'
  go_enter Tryz.func53,Tryz.ntmps53
  go_wp2_with fail
  go_loopw [17] (fun iv wr=>∃ k:Nat,iv=.int .i64 (k:Int)/\k<=L.length/\Hid (Below w.heap.size w wr/\L.take k=M.take k)) (fun iv _=>L.length-(intOf iv).toNat)
  case atStart=>exact ⟨0,rfl,Nat.zero_le _,Below.refl _ _,rfl⟩
  case round=>
   obtain ⟨k,rfl,hk,HBr⟩:=hrel
   by_cases hkn:k<L.length
   ·have hkI:(k:Int)<(L.length:Int):=by omega
    have hkm:k<M.length:=by have:=HLen.out;omega
    obtain ⟨g,off,u,rfl,x0,hu⟩:=HC.out wr HBr.out.1 k hkn
    obtain ⟨g',off',u',rfl,y0,hu'⟩:=HC'.out wr HBr.out.1 k hkm
    have HI:Hid (Calls Tryz.prog 52 #[u,u'] wr (SmO (L[k]=M[k]) wr)):=XA _ _ _ _ _ hu hu'
    clear hu hu'
    by_cases hel:L[k]=M[k]
    ·have HNx:Hid (L.take (k+1)=M.take (k+1)):=YM HBr.out.2 hkn hkm hel
     have HI2:Hid (Calls Tryz.prog 52 #[u,u'] wr fun e w'=>e=.returned (.bool true)/\Below wr.heap.size wr w'):=HI.out.mono fun e w' h=>h.one hel
     clear hel HI
     go_wp2_with fail
     refine cZ HI2.out ?_
     rintro e w1 ⟨rfl,hb1⟩
     have HB1:Hid (Below w.heap.size w w1):=yi HBr.out.1 hb1
     clear hb1
     go_wp2_with fail
     go_roundw
     case rel=>exact ⟨k+1,by go_num,hkn,HB1.out,HNx.out⟩
     case measure=>simp [intOf];omega
    ·have HNo:Hid (L≠M):=YN hkn hkm hel
     have HI2:Hid (Calls Tryz.prog 52 #[u,u'] wr fun e w'=>e=.returned (.bool false)/\Below wr.heap.size wr w'):=HI.out.mono fun e w' h=>h.none hel
     clear hel HI
     go_wp2_with fail
     refine cZ HI2.out ?_
     rintro e w1 ⟨rfl,hb1⟩
     have HB1:Hid (Below w.heap.size w w1):=yi HBr.out.1 hb1
     clear hb1
     go_wp2_with fail
     go_ret
     exact SmO.no HNo.out HB1.out
   ·have hkI:¬ (k:Int)<(L.length:Int):=by omega
    have HYes:Hid (L=M):=YO HBr.out.2 (by omega) (by have:=HLen.out;omega)
    go_wp2_with fail
    go_ret
    exact SmO.yes HYes.out HBr.out.1
 ·have hlI:¬ ((L.length:Int)=(M.length:Int)):=by omega
  have HNo:Hid (L≠M):=fun e=>hlen (by rw [e])
  clear hc hc'
  go_enter Tryz.func53,Tryz.ntmps53
  go_wp2_with fail
  go_ret
  exact SmO.no HNo.out (Below.refl _ _)
end Go.Proofs.YthohnmplbjhjaaaGreatDoor
