/-
  Put together: Ab, MdSmall, DcRef, MdAt, MdBox, MdEvery, MdEveryR, MdEveryT, MdPlaces, Small.
-/
import Derived.Test.YtjgghimjnbjlbaaGreatDoorProg
import Derived.WalkKit
import Derived.WalkSpells
import Derived.WalkLawsBesides
import Derived.BigQuiet
import Derived.Deep.QuietTactic
import Derived.Test.YtjgghimjnbjlbaaGreatDoorJ03
namespace Go.Proofs.YtjgghimjnbjlbaaGreatDoor
open Go.RowKit
theorem bAe {w X : World} {o : Obj} (h : w.alloc o = X) : Below w.heap.size w X := by
  rw [← h]
  exact (Below.refl _ _).alloc (Nat.le_refl _) _
theorem hAe {w X : World} {cs : Array Value} {t : TypeId} (h : w.alloc (.cells cs t) = X) : X.heap[w.heap.size]? = some (.cells cs t (0, 0)) := by
  rw [← h]
  exact heap_alloc_new w _
theorem hLt {α : Type} {a : Array α} {i : Nat} {x : α} (h : a[i]? = some x) : i < a.size := (Array.getElem?_eq_some_iff.1 h).1
end Go.Proofs.YtjgghimjnbjlbaaGreatDoor

namespace Go.Proofs.YtjgghimjnbjlbaaGreatDoor
open Go.RowKit
set_option maxRecDepth 10000
set_option maxHeartbeats 8000000
theorem zo {W w1:World} (hb:Below W.heap.size W w1):(∀ b o,b<W.heap.size->w1.cell? ⟨b,o,none⟩=W.cell? ⟨b,o,none⟩)/\(∀ b o,b<W.heap.size->w1.frozen? ⟨b,o,none⟩=W.frozen? ⟨b,o,none⟩):=
  ⟨fun b o h=>hb.cell (p:=⟨b,o,none⟩) h,fun b o h=>hb.frozen (p:=⟨b,o,none⟩) h⟩
theorem yi {k:IntKind} {a b:Int} (h:a=b):Ending.returned (.int k a)=.returned (.int k b):=by rw [h]
theorem yk {a b:Bool} (h:a=b):Ending.returned (.bool a)=.returned (.bool b):=by rw [h]
theorem yo {P:Program} {f:FuncId} {args args':Array Value} {w w':World} {Q Q':Ending->World->Prop} (h:Calls P f args w Q) (e:args'=args) (ew:w'=w) (hm:∀ e w',Q e w'->Q' e w'):Calls P f args' w' Q':=by
  subst e ew;exact h.mono hm
theorem mcA {P:Program} {f:FuncId} {args args':Array Value} {w w':World} {Q Q':Ending->World->Prop} (h:Calls P f args w Q) (hm:∀ e w',Q e w'->Q' e w') (e:args'=args:=by with_reducible rfl) (ew:w'=w:=by with_reducible rfl):Calls P f args' w' Q':=yo h e ew hm
theorem yK (n:Int) (w:World):Calls Tryz.prog 63 #[.int .i64 n] w fun e w'=>e=.returned (.bool (Md.numB n))/\w'=w:=by
  by_cases h1:-1000000000<=n
  · by_cases h2:n<=1000000000
    · have hd:Md.numB n=true:=decide_eq_true ⟨h1,h2⟩
      rw [hd];clear hd;go_enter Tryz.func63,Tryz.ntmps63;go_wp2;go_ret;exact ⟨rfl,rfl⟩
    · have hd:Md.numB n=false:=decide_eq_false (fun h=>h2 h.2)
      rw [hd];clear hd;go_enter Tryz.func63,Tryz.ntmps63;go_wp2;go_ret;exact ⟨rfl,rfl⟩
  · have hd:Md.numB n=false:=decide_eq_false (fun h=>h1 h.1)
    rw [hd];clear hd;go_enter Tryz.func63,Tryz.ntmps63;go_wp2;go_ret;exact ⟨rfl,rfl⟩
theorem Y7 (x n:Int) (w:World):Calls Tryz.prog 165 #[.int .i64 x,.int .i64 n] w fun e w'=>e=.returned (.bool (Md.plB n x))/\w'=w:=by
  by_cases h1:0<=x
  · by_cases h2:x<n
    · have hd:Md.plB n x=true:=decide_eq_true ⟨h1,h2⟩
      rw [hd];clear hd;go_enter Tryz.func165,Tryz.ntmps165;go_wp2;go_ret;exact ⟨rfl,rfl⟩
    · have hd:Md.plB n x=false:=decide_eq_false (fun h=>h2 h.2)
      rw [hd];clear hd;go_enter Tryz.func165,Tryz.ntmps165;go_wp2;go_ret;exact ⟨rfl,rfl⟩
  · have hd:Md.plB n x=false:=decide_eq_false (fun h=>h1 h.1)
    rw [hd];clear hd;go_enter Tryz.func165,Tryz.ntmps165;go_wp2;go_ret;exact ⟨rfl,rfl⟩
theorem zV (x m:Nat) (w:World):Calls Tryz.prog 102 #[.int .i64 (x:Int),.int .i64 (m:Int)] w fun e w'=>e=.returned (.bool (!Md.fewB x m))/\w'=w:=by
  by_cases h1:(1:Int)<=(x:Int)
  · by_cases h2:(x:Int)<=(m:Int)
    · have hd:Md.fewB x m=false:=decide_eq_false (fun h=>by omega)
      rw [hd];clear hd;go_enter Tryz.func102,Tryz.ntmps102;go_wp2;go_ret;exact ⟨rfl,rfl⟩
    · have hd:Md.fewB x m=true:=decide_eq_true (by omega)
      rw [hd];clear hd;go_enter Tryz.func102,Tryz.ntmps102;go_wp2;go_ret;exact ⟨rfl,rfl⟩
  · have hd:Md.fewB x m=true:=decide_eq_true (by omega)
    rw [hd];clear hd;go_enter Tryz.func102,Tryz.ntmps102;go_wp2;go_ret;exact ⟨rfl,rfl⟩
theorem K1 (a op b:Int) (w:World) (ho:1<=op/\op<=3):Calls Tryz.prog 173 #[.int .i64 a,.int .i64 op,.int .i64 b] w fun e w'=>e=.returned (.bool (Md.cmpB op a b))/\w'=w:=by
  rcases (show op=1∨op=2∨op=3 by omega) with rfl | rfl | rfl
  · by_cases h:a<=b
    · have hd:Md.cmpB 1 a b=true:=decide_eq_true h
      rw [hd];clear hd;go_enter Tryz.func173,Tryz.ntmps173;go_wp2;go_ret;exact ⟨rfl,rfl⟩
    · have hd:Md.cmpB 1 a b=false:=decide_eq_false h
      rw [hd];clear hd;go_enter Tryz.func173,Tryz.ntmps173;go_wp2;go_ret;exact ⟨rfl,rfl⟩
  · by_cases h:a=b
    · have hd:Md.cmpB 2 a b=true:=decide_eq_true h
      rw [hd];clear hd;go_enter Tryz.func173,Tryz.ntmps173;go_wp2;go_ret;exact ⟨yk (by simp),rfl⟩
    · have hd:Md.cmpB 2 a b=false:=decide_eq_false h
      rw [hd];clear hd;go_enter Tryz.func173,Tryz.ntmps173;go_wp2;go_ret;exact ⟨yk (by simp [h]),rfl⟩
  · by_cases h:b<=a
    · have hd:Md.cmpB 3 a b=true:=decide_eq_true h
      rw [hd];clear hd;go_enter Tryz.func173,Tryz.ntmps173;go_wp2;go_ret;exact ⟨rfl,rfl⟩
    · have hd:Md.cmpB 3 a b=false:=decide_eq_false h
      rw [hd];clear hd;go_enter Tryz.func173,Tryz.ntmps173;go_wp2;go_ret;exact ⟨rfl,rfl⟩
end Go.Proofs.YtjgghimjnbjlbaaGreatDoor

namespace Go.Proofs.YtjgghimjnbjlbaaGreatDoor.Doc
open Go.RowKit
set_option maxRecDepth 10000
set_option maxHeartbeats 8000000
theorem Qj (x n:Int) (w:World):Calls Tryz.prog 202 #[.int .i64 x,.int .i64 n] w fun e w'=>e=.returned (.bool (Md.plB n x))/\w'=w:=by
  go_enter Tryz.func202,Tryz.ntmps202;go_wp2;all_goals (go_ret;refine ⟨yk ?_,rfl⟩;unfold Md.plB;symm;simp;try omega)
theorem yH (k:Int) (w:World):Calls Tryz.prog 158 #[.int .i64 k] w fun e w'=>e=.returned (.bool (Md.fXs k))/\w'=w:=by
  go_enter Tryz.func158,Tryz.ntmps158;go_wp2;all_goals (go_ret;refine ⟨yk ?_,rfl⟩;simp [Md.fXs, *])
theorem YF (n:Int) (w:World):Calls Tryz.prog 201 #[.int .i64 n,.int .i64 1000000000] w fun e w'=>e=.returned (.bool (Md.numB n))/\w'=w:=by
  go_enter Tryz.func201,Tryz.ntmps201;go_wp2;all_goals (go_ret;refine ⟨yk ?_,rfl⟩;unfold Md.numB;symm;simp;try omega)
theorem y2s (n:Int) (w:World):Calls Tryz.prog 201 #[.int .i64 n,.int .i64 1000000] w fun e w'=>e=.returned (.bool (decide (-1000000<=n/\n<=1000000)))/\w'=w:=by
  go_enter Tryz.func201,Tryz.ntmps201;go_wp2;all_goals (go_ret;refine ⟨yk ?_,rfl⟩;symm;simp;try omega)
theorem yn (n:Int) (w:World):Calls Tryz.prog 161 #[.int .i64 n] w fun e w'=>e=.returned (.bool (Md.numB n))/\w'=w:=by
  go_enter Tryz.func161,Tryz.ntmps161;go_wp2_with (go_at_call 201;refine (YF _ _).mono ?_;rintro e w' ⟨rfl,rfl⟩);go_ret;exact ⟨rfl,rfl⟩
theorem Qk (n:Int) (w:World):Calls Tryz.prog 162 #[.int .i64 n] w fun e w'=>e=.returned (.bool (Md.cfB n))/\w'=w:=by
  by_cases h:n=0
  · subst h
    go_enter Tryz.func162,Tryz.ntmps162;go_wp2;go_ret;exact ⟨rfl,rfl⟩
  · have hb:(n != 0)=true:=by simp [h]
    have hd:Md.cfB n=decide (-1000000<=n/\n<=1000000):=by unfold Md.cfB;simp [h]
    rw [hd];clear hd;go_enter Tryz.func162,Tryz.ntmps162;go_wp2_with (go_at_call 201;refine (y2s _ _).mono ?_;rintro e w' ⟨rfl,rfl⟩);all_goals (go_ret;exact ⟨yk (by simp),rfl⟩)
theorem zB (n:Nat) (w:World):Calls Tryz.prog 91 #[.int .i64 (n:Int)] w fun e w'=>e=.returned (.bool (Md.fewB n 64))/\w'=w:=by
  go_enter Tryz.func91,Tryz.ntmps91;go_wp2;all_goals (go_ret;refine ⟨yk ?_,rfl⟩;unfold Md.fewB;rw [Bool.eq_iff_iff];simp;try omega)
end Go.Proofs.YtjgghimjnbjlbaaGreatDoor.Doc

namespace Go.Proofs.YtjgghimjnbjlbaaGreatDoor
open Go.RowKit
set_option maxRecDepth 10000
set_option maxHeartbeats 8000000
def MInts (w:World) (v:Value) (l:List Int):Prop:=
  ∃ a cap,v=.slice a l.length cap/\l.length<=maxLen/\(0<l.length->∃ b off,a=some ⟨b,off,none⟩/\b<w.heap.size/\∀ j (h:j<l.length),w.cell? ⟨b,off+j,none⟩=some (.int .i64 l[j]))
def TermsAt (w:World) (v:Value) (l:List (Int × Int)):Prop:=
  ∃ a cap,v=.slice a l.length cap/\l.length<=maxLen/\(0<l.length->∃ b off,a=some ⟨b,off,none⟩/\b<w.heap.size /\
    ∀ j (h:j<l.length),w.cell? ⟨b,off+j * 2,none⟩=some (.int .i64 l[j].1)/\w.cell? ⟨b,off+j * 2+1,none⟩=some (.int .i64 l[j].2))
def RowsAt (w:World) (v:Value) (l:List (List Int)):Prop:=
  ∃ a cap,v=.slice a l.length cap/\l.length<=maxLen/\(0<l.length->∃ b off,a=some ⟨b,off,none⟩/\b<w.heap.size /\
    ∀ j (h:j<l.length),∃ u,w.cell? ⟨b,off+j,none⟩=some u/\MInts w u l[j])
def yh (c:Md.Cn) (vt vx vb vr:Value):Value:=
  .agg #[.int .i64 c.kind,.int .i64 c.op,vt,.int .i64 c.k,.int .i64 c.v,.int .i64 c.x,.int .i64 c.y,vx,vb,vr]
structure CnAt (w:World) (c:Md.Cn) (vt vx vb vr:Value):Prop where
  t:TermsAt w vt c.terms
  x:MInts w vx c.xs
  xcap:∀ a n cp,vx=.slice a n cp->n<=cp
  b:MInts w vb c.table
  r:RowsAt w vr c.rows
theorem MInts.mono {w w':World} {v:Value} {l:List Int} (h:MInts w v l) (hs:w.heap.size<=w'.heap.size) (hb:∀ b o,b<w.heap.size->w'.cell? ⟨b,o,none⟩=w.cell? ⟨b,o,none⟩):MInts w' v l:=by
  obtain ⟨a,cap,hv,hl,hc⟩:=h;refine ⟨a,cap,hv,hl,fun h0=>?_⟩;obtain ⟨b,off,ha,hbs,hcell⟩:=hc h0;exact ⟨b,off,ha,Nat.lt_of_lt_of_le hbs hs,fun j hj=>(hb _ _ hbs).trans (hcell j hj)⟩
theorem MInts.below {w w':World} {v:Value} {l:List Int} (h:MInts w v l) (hb:Below w.heap.size w w'):MInts w' v l:=h.mono hb.size (zo hb).1
theorem TermsAt.below {w w':World} {v:Value} {l:List (Int × Int)} (h:TermsAt w v l) (hb:Below w.heap.size w w'):TermsAt w' v l:=by
  obtain ⟨a,cap,hv,hl,hc⟩:=h;refine ⟨a,cap,hv,hl,fun h0=>?_⟩;obtain ⟨b,off,ha,hbs,hcell⟩:=hc h0;exact ⟨b,off,ha,Nat.lt_of_lt_of_le hbs hb.size,fun j hj=>⟨((zo hb).1 _ _ hbs).trans (hcell j hj).1,((zo hb).1 _ _ hbs).trans (hcell j hj).2⟩⟩
theorem RowsAt.below {w w':World} {v:Value} {l:List (List Int)} (h:RowsAt w v l) (hb:Below w.heap.size w w'):RowsAt w' v l:=by
  obtain ⟨a,cap,hv,hl,hc⟩:=h;refine ⟨a,cap,hv,hl,fun h0=>?_⟩;obtain ⟨b,off,ha,hbs,hcell⟩:=hc h0;refine ⟨b,off,ha,Nat.lt_of_lt_of_le hbs hb.size,fun j hj=>?_⟩;obtain ⟨u,hu,hI⟩:=hcell j hj;exact ⟨u,((zo hb).1 _ _ hbs).trans hu,hI.below hb⟩
theorem CnAt.below {w w':World} {c:Md.Cn} {vt vx vb vr:Value} (h:CnAt w c vt vx vb vr) (hb:Below w.heap.size w w'):CnAt w' c vt vx vb vr:=
  ⟨h.t.below hb,h.x.below hb,h.xcap,h.b.below hb,h.r.below hb⟩
theorem MInts.form {w:World} {v:Value} {l:List Int} (h:MInts w v l):∃ a cap,v=.slice a l.length cap/\l.length<=maxLen:=by
  obtain ⟨a,cap,hv,hl,_⟩:=h;exact ⟨a,cap,hv,hl⟩
theorem TermsAt.form {w:World} {v:Value} {l:List (Int × Int)} (h:TermsAt w v l):∃ a cap,v=.slice a l.length cap/\l.length<=maxLen:=by
  obtain ⟨a,cap,hv,hl,_⟩:=h;exact ⟨a,cap,hv,hl⟩
theorem RowsAt.form {w:World} {v:Value} {l:List (List Int)} (h:RowsAt w v l):∃ a cap,v=.slice a l.length cap/\l.length<=maxLen:=by
  obtain ⟨a,cap,hv,hl,_⟩:=h;exact ⟨a,cap,hv,hl⟩
theorem y2Y (v:Value) (l:List Int) (w:World) (h:MInts w v l):Calls Tryz.prog 62 #[v,.func (.func 63) #[] #[]] w fun e w'=>e=.returned (.bool (l.all Md.numB))/\w'=w:=by
  obtain ⟨a,cap,rfl,hm,hc⟩:=h;unfold maxLen at hm;have HC:Hid (0<l.length->∃ b off,a=some ⟨b,off,none⟩/\b<w.heap.size/\∀ j (h:j<l.length),w.cell? ⟨b,off+j,none⟩=some (.int .i64 l[j])):=hc;have H0:Hid ((l.take 0).all Md.numB=true):=by show _=_;simp
  clear hc;go_enter Tryz.func62,Tryz.ntmps62;go_wp2;go_loop [9] (fun iv=>∃ k:Nat,iv=.int .i64 (k:Int)/\k<=l.length/\Hid ((l.take k).all Md.numB=true)) (fun iv=>l.length-(intOf iv).toNat)
  case atStart=>exact ⟨0,rfl,Nat.zero_le _,H0⟩
  case round=>
    obtain ⟨k,rfl,hk,hA⟩:=hrel;clear H0
    by_cases hlt:k<l.length
    · obtain ⟨b,off,rfl,hb,hc⟩:=HC.out (by omega)
      have hcell:=hc k hlt;have hkI:(k:Int)<(l.length:Int):=by omega
      clear hc
      cases hp:Md.numB l[k]
      · have hres:Hid (l.all Md.numB=false):=Md.all_stop hlt hp
        generalize l[k]=x at *
        go_wp2_with (go_at_call 63;refine (yK _ _).mono ?_;rintro e w' ⟨rfl,rfl⟩);go_ret;exact ⟨yk hres.out.symm,rfl⟩
      · have hres:Hid ((l.take (k+1)).all Md.numB=true):=Md.all_next hA.out hlt hp
        generalize l[k]=x at *
        go_wp2_with (go_at_call 63;refine (yK _ _).mono ?_;rintro e w' ⟨rfl,rfl⟩);go_round
        case rel=>exact ⟨k+1,by go_num,by omega,hres⟩
        case measure=>simp [intOf];omega
    · have hkI:¬ (k:Int)<(l.length:Int):=by omega
      have hres:Hid (l.all Md.numB=true):=Md.all_done hA.out (by omega);go_wp2;go_ret;exact ⟨yk hres.out.symm,rfl⟩
end Go.Proofs.YtjgghimjnbjlbaaGreatDoor

namespace Go.Proofs.YtjgghimjnbjlbaaGreatDoor
open Go.RowKit
theorem hid {p:Prop} (h:p):Hid p:=h
theorem yE (k op kk v x y:Int) (v2 v7 v8 v9:Value) (w:World):∃ W,w.alloc (.cells #[.int .i64 k,.int .i64 op,v2,.int .i64 kk,.int .i64 v,.int .i64 x,.int .i64 y,v7,v8,v9] 51)=W/\Below w.heap.size w W/\W.cell? ⟨w.heap.size,0,none⟩=some (.int .i64 k)/\W.cell? ⟨w.heap.size,1,none⟩=some (.int .i64 op)/\W.cell? ⟨w.heap.size,2,none⟩=some v2/\W.cell? ⟨w.heap.size,3,none⟩=some (.int .i64 kk)/\W.cell? ⟨w.heap.size,4,none⟩=some (.int .i64 v)/\W.cell? ⟨w.heap.size,5,none⟩=some (.int .i64 x)/\W.cell? ⟨w.heap.size,6,none⟩=some (.int .i64 y)/\W.cell? ⟨w.heap.size,7,none⟩=some v7/\W.cell? ⟨w.heap.size,8,none⟩=some v8/\W.cell? ⟨w.heap.size,9,none⟩=some v9/\w.heap.size<W.heap.size/\Hid (∀ w',Below W.heap.size W w'->w'.cell? ⟨w.heap.size,0,none⟩=some (.int .i64 k)/\w'.cell? ⟨w.heap.size,1,none⟩=some (.int .i64 op)/\w'.cell? ⟨w.heap.size,2,none⟩=some v2/\w'.cell? ⟨w.heap.size,3,none⟩=some (.int .i64 kk)/\w'.cell? ⟨w.heap.size,4,none⟩=some (.int .i64 v)/\w'.cell? ⟨w.heap.size,5,none⟩=some (.int .i64 x)/\w'.cell? ⟨w.heap.size,6,none⟩=some (.int .i64 y)/\w'.cell? ⟨w.heap.size,7,none⟩=some v7/\w'.cell? ⟨w.heap.size,8,none⟩=some v8/\w'.cell? ⟨w.heap.size,9,none⟩=some v9):=by
  obtain ⟨W,hW⟩:∃ W,w.alloc (.cells #[.int .i64 k,.int .i64 op,v2,.int .i64 kk,.int .i64 v,.int .i64 x,.int .i64 y,v7,v8,v9] 51)=W:=⟨_,rfl⟩;have hbW:Below w.heap.size w W:=bAe hW;have c0:W.cell? ⟨w.heap.size,0,none⟩=some (.int .i64 k):=by rw [<-hW];simp
  have c1:W.cell? ⟨w.heap.size,1,none⟩=some (.int .i64 op):=by rw [<-hW];simp
  have c2:W.cell? ⟨w.heap.size,2,none⟩=some v2:=by rw [<-hW];simp
  have c3:W.cell? ⟨w.heap.size,3,none⟩=some (.int .i64 kk):=by rw [<-hW];simp
  have c4:W.cell? ⟨w.heap.size,4,none⟩=some (.int .i64 v):=by rw [<-hW];simp
  have c5:W.cell? ⟨w.heap.size,5,none⟩=some (.int .i64 x):=by rw [<-hW];simp
  have c6:W.cell? ⟨w.heap.size,6,none⟩=some (.int .i64 y):=by rw [<-hW];simp
  have c7:W.cell? ⟨w.heap.size,7,none⟩=some v7:=by rw [<-hW];simp
  have c8:W.cell? ⟨w.heap.size,8,none⟩=some v8:=by rw [<-hW];simp
  have c9:W.cell? ⟨w.heap.size,9,none⟩=some v9:=by rw [<-hW];simp
  have hsz:W.heap.size=w.heap.size+1:=by rw [<-hW];simp
  have hsN:w.heap.size<W.heap.size:=by omega
  exact ⟨W,hW,hbW,c0,c1,c2,c3,c4,c5,c6,c7,c8,c9,hsN,fun w' hb=>⟨(hb.cell (p:=⟨w.heap.size,0,none⟩) hsN).trans c0,(hb.cell (p:=⟨w.heap.size,1,none⟩) hsN).trans c1,(hb.cell (p:=⟨w.heap.size,2,none⟩) hsN).trans c2,(hb.cell (p:=⟨w.heap.size,3,none⟩) hsN).trans c3,(hb.cell (p:=⟨w.heap.size,4,none⟩) hsN).trans c4,(hb.cell (p:=⟨w.heap.size,5,none⟩) hsN).trans c5,(hb.cell (p:=⟨w.heap.size,6,none⟩) hsN).trans c6,(hb.cell (p:=⟨w.heap.size,7,none⟩) hsN).trans c7,(hb.cell (p:=⟨w.heap.size,8,none⟩) hsN).trans c8,(hb.cell (p:=⟨w.heap.size,9,none⟩) hsN).trans c9⟩⟩
end Go.Proofs.YtjgghimjnbjlbaaGreatDoor

namespace Go.Proofs.YtjgghimjnbjlbaaGreatDoor
open Go.RowKit
set_option maxRecDepth 10000
set_option maxHeartbeats 8000000
theorem QG (x n:Int) (p:Nat) (w:World) (h:w.cell? ⟨p,0,none⟩=some (.int .i64 n)):Calls Tryz.prog 166 #[.int .i64 x,.pointer (some ⟨p,0,none⟩)] w fun e w'=>e=.returned (.bool (Md.plB n x))/\w'=w:=by
  go_enter Tryz.func166,Tryz.ntmps166;go_wp2_with (go_at_call 165;refine (Y7 _ _ _).mono ?_;rintro e w' ⟨rfl,rfl⟩);go_ret;exact ⟨rfl,rfl⟩
theorem y3j (v:Value) (l:List Int) (n:Int) (p:Nat) (w:World) (h:MInts w v l) (hp:w.cell? ⟨p,0,none⟩=some (.int .i64 n)):Calls Tryz.prog 62 #[v,.func (.func 166) #[] #[.pointer (some ⟨p,0,none⟩)]] w fun e w'=>e=.returned (.bool (l.all (Md.plB n)))/\w'=w:=by
  obtain ⟨a,cap,rfl,hm,hc⟩:=h;unfold maxLen at hm;have HC:Hid (0<l.length->∃ b off,a=some ⟨b,off,none⟩/\b<w.heap.size/\∀ j (h:j<l.length),w.cell? ⟨b,off+j,none⟩=some (.int .i64 l[j])):=hc;have HP:Hid (w.cell? ⟨p,0,none⟩=some (.int .i64 n)):=hp;have H0:Hid ((l.take 0).all (Md.plB n)=true):=by show _=_;simp
  clear hc hp;go_enter Tryz.func62,Tryz.ntmps62;go_wp2;go_loop [9] (fun iv=>∃ k:Nat,iv=.int .i64 (k:Int)/\k<=l.length/\Hid ((l.take k).all (Md.plB n)=true)) (fun iv=>l.length-(intOf iv).toNat)
  case atStart=>exact ⟨0,rfl,Nat.zero_le _,H0⟩
  case round=>
    obtain ⟨k,rfl,hk,hA⟩:=hrel;clear H0
    by_cases hlt:k<l.length
    · obtain ⟨b,off,rfl,hb,hc⟩:=HC.out (by omega)
      have hcell:=hc k hlt;have hkI:(k:Int)<(l.length:Int):=by omega
      clear hc
      cases hp:Md.plB n l[k]
      · have hres:Hid (l.all (Md.plB n)=false):=Md.all_stop hlt hp
        generalize l[k]=x at *
        go_wp2_with (go_at_call 166;refine (QG _ n _ _ HP.out).mono ?_;rintro e w' ⟨rfl,rfl⟩);go_ret;exact ⟨yk hres.out.symm,rfl⟩
      · have hres:Hid ((l.take (k+1)).all (Md.plB n)=true):=Md.all_next hA.out hlt hp
        generalize l[k]=x at *
        go_wp2_with (go_at_call 166;refine (QG _ n _ _ HP.out).mono ?_;rintro e w' ⟨rfl,rfl⟩);go_round
        case rel=>exact ⟨k+1,by go_num,by omega,hres⟩
        case measure=>simp [intOf];omega
    · have hkI:¬ (k:Int)<(l.length:Int):=by omega
      have hres:Hid (l.all (Md.plB n)=true):=Md.all_done hA.out (by omega);go_wp2;go_ret;exact ⟨yk hres.out.symm,rfl⟩
theorem QH (c x:Int) (w:World):Calls Tryz.prog 168 #[.agg #[.int .i64 c,.int .i64 x]] w fun e w'=>e=.returned (.bool (Md.cfB c))/\Below w.heap.size w w':=by
  by_cases h:c=0
  · subst h
    go_enter Tryz.func168,Tryz.ntmps168;go_wp2;go_ret;exact ⟨rfl,(Below.refl _ _).alloc (Nat.le_refl _) _⟩
  · have hb:(c != 0)=true:=by simp [h]
    have hd:Md.cfB c=decide (-1000000<=c/\c<=1000000):=by unfold Md.cfB;simp [h]
    rw [hd];clear hd;go_enter Tryz.func168,Tryz.ntmps168;go_wp2;all_goals (go_ret;refine ⟨yk ?_,(Below.refl _ _).alloc (Nat.le_refl _) _⟩;rw [Bool.eq_iff_iff];simp;try omega)
theorem QI (c x n:Int) (p:Nat) (w:World) (hp:p<w.heap.size) (h:w.cell? ⟨p,0,none⟩=some (.int .i64 n)):Calls Tryz.prog 172 #[.agg #[.int .i64 c,.int .i64 x],.pointer (some ⟨p,0,none⟩)] w fun e w'=>e=.returned (.bool (Md.plB n x))/\Below w.heap.size w w':=by
  go_enter Tryz.func172,Tryz.ntmps172;go_wp2_with (go_at_call 165;refine (Y7 _ _ _).mono ?_;rintro e w' ⟨rfl,rfl⟩);go_ret;exact ⟨rfl,(Below.refl _ _).alloc (Nat.le_refl _) _⟩
end Go.Proofs.YtjgghimjnbjlbaaGreatDoor

namespace Go.Proofs.YtjgghimjnbjlbaaGreatDoor
open Go.RowKit
set_option maxRecDepth 10000
set_option maxHeartbeats 8000000
theorem yQ (v:Value) (l:List Int) (w:World) (h:MInts w v l):Calls Tryz.prog 41 #[v] w fun e w'=>e=.returned (.bool (l.all Md.numB))/\w'=w:=by
  go_enter Tryz.func41,Tryz.ntmps41;go_wp2_with (go_at_call 62;refine (y2Y _ l _ h).mono ?_;rintro e w' ⟨rfl,rfl⟩);go_ret;exact ⟨rfl,rfl⟩
theorem QJ (ua:Option Addr) (m uc:Nat) (xa:Option Addr) (n xc:Nat) (p:Nat) (w:World) (h:w.cell? ⟨p,7,none⟩=some (.slice xa n xc)):Calls Tryz.prog 164 #[.slice ua m uc,.pointer (some ⟨p,0,none⟩)] w fun e w'=>e=.returned (.bool (m==n))/\w'=w:=by
  go_enter Tryz.func164,Tryz.ntmps164;go_wp2;go_ret;exact ⟨yk (by rw [Bool.eq_iff_iff];simp;omega),rfl⟩
theorem zi (v:Value) (l:List (List Int)) (w:World) (h:RowsAt w v l):Calls Tryz.prog 98 #[v,.func (.func 41) #[] #[]] w fun e w'=>e=.returned (.bool (l.all (fun r=>r.all Md.numB)))/\w'=w:=by
  obtain ⟨a,cap,rfl,hm,hc⟩:=h;unfold maxLen at hm;have HC:Hid (0<l.length->∃ b off,a=some ⟨b,off,none⟩/\b<w.heap.size/\∀ j (h:j<l.length),∃ u,w.cell? ⟨b,off+j,none⟩=some u/\MInts w u l[j]):=hc;have HB0:Hid (Below w.heap.size w w):=Below.refl _ _;have H0:Hid ((l.take 0).all (fun r=>r.all Md.numB)=true):=by show _=_;simp
  clear hc;go_enter Tryz.func98,Tryz.ntmps98;go_wp2;go_loop [9] (fun iv=>∃ k:Nat,iv=.int .i64 (k:Int)/\k<=l.length/\Hid ((l.take k).all (fun r=>r.all Md.numB)=true)) (fun iv=>l.length-(intOf iv).toNat)
  case atStart=>exact ⟨0,rfl,Nat.zero_le _,H0⟩
  case round=>
    obtain ⟨k,rfl,hk,hA⟩:=hrel;clear H0
    by_cases hlt:k<l.length
    · obtain ⟨b,off,rfl,hb,hc⟩:=HC.out (by omega)
      obtain ⟨u,hcell,hu⟩:=hc k hlt;have HU:Hid (MInts w u l[k]):=hu;obtain ⟨ua,uc,rfl,_⟩:=hu.form;have hkI:(k:Int)<(l.length:Int):=by omega
      clear hc hu
      cases hp:(fun r=>r.all Md.numB) l[k]
      · have hres:Hid (l.all (fun r=>r.all Md.numB)=false):=Md.all_stop hlt hp
        generalize l[k]=x at *
        simp only at hp;go_wp2_with (go_at_call 41;refine (yQ _ x _ HU.out).mono ?_;rintro e w2 ⟨rfl,rfl⟩);go_ret;exact ⟨yk hres.out.symm,rfl⟩
      · have hres:Hid ((l.take (k+1)).all (fun r=>r.all Md.numB)=true):=Md.all_next hA.out hlt hp
        generalize l[k]=x at *
        simp only at hp;go_wp2_with (go_at_call 41;refine (yQ _ x _ HU.out).mono ?_;rintro e w2 ⟨rfl,rfl⟩);go_round
        case rel=>exact ⟨k+1,by go_num,by omega,hres⟩
        case measure=>simp [intOf];omega
    · have hkI:¬ (k:Int)<(l.length:Int):=by omega
      have hres:Hid (l.all (fun r=>r.all Md.numB)=true):=Md.all_done hA.out (by omega);go_wp2;go_ret;exact ⟨yk hres.out.symm,rfl⟩
theorem y3k (v:Value) (l:List (List Int)) (xa:Option Addr) (n xc p:Nat) (w:World) (h:RowsAt w v l) (hp:w.cell? ⟨p,7,none⟩=some (.slice xa n xc)):Calls Tryz.prog 98 #[v,.func (.func 164) #[] #[.pointer (some ⟨p,0,none⟩)]] w fun e w'=>e=.returned (.bool (l.all (fun r=>r.length==n)))/\w'=w:=by
  obtain ⟨a,cap,rfl,hm,hc⟩:=h;unfold maxLen at hm;have HC:Hid (0<l.length->∃ b off,a=some ⟨b,off,none⟩/\b<w.heap.size/\∀ j (h:j<l.length),∃ u,w.cell? ⟨b,off+j,none⟩=some u/\MInts w u l[j]):=hc;have HP:Hid (w.cell? ⟨p,7,none⟩=some (.slice xa n xc)):=hp;clear hp;have H0:Hid ((l.take 0).all (fun r=>r.length==n)=true):=by show _=_;simp
  clear hc;go_enter Tryz.func98,Tryz.ntmps98;go_wp2;go_loop [9] (fun iv=>∃ k:Nat,iv=.int .i64 (k:Int)/\k<=l.length/\Hid ((l.take k).all (fun r=>r.length==n)=true)) (fun iv=>l.length-(intOf iv).toNat)
  case atStart=>exact ⟨0,rfl,Nat.zero_le _,H0⟩
  case round=>
    obtain ⟨k,rfl,hk,hA⟩:=hrel;clear H0
    by_cases hlt:k<l.length
    · obtain ⟨b,off,rfl,hb,hc⟩:=HC.out (by omega)
      obtain ⟨u,hcell,hu⟩:=hc k hlt;have HU:Hid (MInts w u l[k]):=hu;obtain ⟨ua,uc,rfl,_⟩:=hu.form;have hkI:(k:Int)<(l.length:Int):=by omega
      clear hc hu
      cases hp:(fun r=>r.length==n) l[k]
      · have hres:Hid (l.all (fun r=>r.length==n)=false):=Md.all_stop hlt hp
        generalize l[k]=x at *
        simp only at hp;go_wp2_with (go_at_call 164;refine (QJ _ _ _ xa n xc _ _ HP.out).mono ?_;rintro e w2 ⟨rfl,rfl⟩);go_ret;exact ⟨yk hres.out.symm,rfl⟩
      · have hres:Hid ((l.take (k+1)).all (fun r=>r.length==n)=true):=Md.all_next hA.out hlt hp
        generalize l[k]=x at *
        simp only at hp;go_wp2_with (go_at_call 164;refine (QJ _ _ _ xa n xc _ _ HP.out).mono ?_;rintro e w2 ⟨rfl,rfl⟩);go_round
        case rel=>exact ⟨k+1,by go_num,by omega,hres⟩
        case measure=>simp [intOf];omega
    · have hkI:¬ (k:Int)<(l.length:Int):=by omega
      have hres:Hid (l.all (fun r=>r.length==n)=true):=Md.all_done hA.out (by omega);go_wp2;go_ret;exact ⟨yk hres.out.symm,rfl⟩
end Go.Proofs.YtjgghimjnbjlbaaGreatDoor

namespace Go.Proofs.YtjgghimjnbjlbaaGreatDoor
open Go.RowKit
set_option maxRecDepth 10000
set_option maxHeartbeats 8000000
theorem y3l (v:Value) (l:List (Int × Int)) (w:World) (h:TermsAt w v l):Calls Tryz.prog 167 #[v,.func (.func 168) #[] #[]] w fun e w'=>e=.returned (.bool (l.all (fun t=>Md.cfB t.1)))/\Below w.heap.size w w':=by
  obtain ⟨a,cap,rfl,hm,hc⟩:=h;unfold maxLen at hm;have HC:Hid (0<l.length->∃ b off,a=some ⟨b,off,none⟩/\b<w.heap.size/\∀ j (h:j<l.length),w.cell? ⟨b,off+j * 2,none⟩=some (.int .i64 l[j].1)/\w.cell? ⟨b,off+j * 2+1,none⟩=some (.int .i64 l[j].2)):=hc;have HB0:Hid (Below w.heap.size w w):=Below.refl _ _;have H0:Hid ((l.take 0).all (fun t=>Md.cfB t.1)=true):=by show _=_;simp
  clear hc;go_enter Tryz.func167,Tryz.ntmps167;go_wp2;go_loopw [9] (fun iv wr=>∃ k:Nat,iv=.int .i64 (k:Int)/\k<=l.length/\Hid ((l.take k).all (fun t=>Md.cfB t.1)=true)/\Hid (Below w.heap.size w wr)) (fun iv _=>l.length-(intOf iv).toNat)
  case atStart=>exact ⟨0,rfl,Nat.zero_le _,H0,Below.refl _ _⟩
  case round=>
    obtain ⟨k,rfl,hk,hA,hB⟩:=hrel;clear H0
    by_cases hlt:k<l.length
    · obtain ⟨b,off,rfl,hb,hc⟩:=HC.out (by omega)
      obtain ⟨c1,c2⟩:=hc k hlt;have d1:=(hB.out.cell (p:=⟨b,off+k * 2,none⟩) hb).trans c1;have d2:=(hB.out.cell (p:=⟨b,off+k * 2+1,none⟩) hb).trans c2;have hkI:(k:Int)<(l.length:Int):=by omega
      clear hc c1 c2;have hbV:Hid (Below w.heap.size w (wr.alloc (.cells #[.int .i64 l[k].1,.int .i64 l[k].2] 67))):=hB.out.alloc hB.out.size _
      cases hp:(fun t=>Md.cfB t.1) l[k]
      · have hres:Hid (l.all (fun t=>Md.cfB t.1)=false):=Md.all_stop hlt hp
        generalize l[k]=x at *
        obtain ⟨x1,x2⟩:=x;simp only at hp;go_wp2_with (go_at_call 168;refine (QH _ _ _).mono ?_;rintro e w2 ⟨rfl,hb2⟩);go_ret;exact ⟨yk hres.out.symm,hbV.out.trans (hb2.mono (by have:=hB.out.size;simp;omega))⟩
      · have hres:Hid ((l.take (k+1)).all (fun t=>Md.cfB t.1)=true):=Md.all_next hA.out hlt hp
        generalize l[k]=x at *
        obtain ⟨x1,x2⟩:=x;simp only at hp;go_wp2_with (go_at_call 168;refine (QH _ _ _).mono ?_;rintro e w2 ⟨rfl,hb2⟩);go_roundw
        case rel=>exact ⟨k+1,by go_num,by omega,hres,hbV.out.trans (hb2.mono (by have:=hB.out.size;simp;omega))⟩
        case measure=>simp [intOf];omega
    · have hkI:¬ (k:Int)<(l.length:Int):=by omega
      have hres:Hid (l.all (fun t=>Md.cfB t.1)=true):=Md.all_done hA.out (by omega);go_wp2;go_ret;exact ⟨yk hres.out.symm,hB.out⟩
theorem y3m (v:Value) (l:List (Int × Int)) (n:Int) (p:Nat) (w:World) (h:TermsAt w v l) (hp0:p<w.heap.size) (hp:w.cell? ⟨p,0,none⟩=some (.int .i64 n)):Calls Tryz.prog 167 #[v,.func (.func 172) #[] #[.pointer (some ⟨p,0,none⟩)]] w fun e w'=>e=.returned (.bool (l.all (fun t=>Md.plB n t.2)))/\Below w.heap.size w w':=by
  obtain ⟨a,cap,rfl,hm,hc⟩:=h;unfold maxLen at hm;have HC:Hid (0<l.length->∃ b off,a=some ⟨b,off,none⟩/\b<w.heap.size/\∀ j (h:j<l.length),w.cell? ⟨b,off+j * 2,none⟩=some (.int .i64 l[j].1)/\w.cell? ⟨b,off+j * 2+1,none⟩=some (.int .i64 l[j].2)):=hc;have HP:Hid (∀ w1,Below w.heap.size w w1->p<w1.heap.size/\w1.cell? ⟨p,0,none⟩=some (.int .i64 n)):=fun w1 hb=>⟨Nat.lt_of_lt_of_le hp0 hb.size,(hb.cell (p:=⟨p,0,none⟩) hp0).trans hp⟩
  clear hp;have H0:Hid ((l.take 0).all (fun t=>Md.plB n t.2)=true):=by show _=_;simp
  clear hc;go_enter Tryz.func167,Tryz.ntmps167;go_wp2;go_loopw [9] (fun iv wr=>∃ k:Nat,iv=.int .i64 (k:Int)/\k<=l.length/\Hid ((l.take k).all (fun t=>Md.plB n t.2)=true)/\Hid (Below w.heap.size w wr)) (fun iv _=>l.length-(intOf iv).toNat)
  case atStart=>exact ⟨0,rfl,Nat.zero_le _,H0,Below.refl _ _⟩
  case round=>
    obtain ⟨k,rfl,hk,hA,hB⟩:=hrel;clear H0
    by_cases hlt:k<l.length
    · obtain ⟨b,off,rfl,hb,hc⟩:=HC.out (by omega)
      obtain ⟨c1,c2⟩:=hc k hlt;have d1:=(hB.out.cell (p:=⟨b,off+k * 2,none⟩) hb).trans c1;have d2:=(hB.out.cell (p:=⟨b,off+k * 2+1,none⟩) hb).trans c2;have hkI:(k:Int)<(l.length:Int):=by omega
      clear hc c1 c2;have hbV:Hid (Below w.heap.size w (wr.alloc (.cells #[.int .i64 l[k].1,.int .i64 l[k].2] 67))):=hB.out.alloc hB.out.size _
      cases hp:(fun t=>Md.plB n t.2) l[k]
      · have hres:Hid (l.all (fun t=>Md.plB n t.2)=false):=Md.all_stop hlt hp
        generalize l[k]=x at *
        obtain ⟨x1,x2⟩:=x;simp only at hp;go_wp2_with (go_at_call 172;refine (QI _ _ n _ _ (HP.out _ hbV.out).1 (HP.out _ hbV.out).2).mono ?_;rintro e w2 ⟨rfl,hb2⟩);go_ret;exact ⟨yk hres.out.symm,hbV.out.trans (hb2.mono (by have:=hB.out.size;simp;omega))⟩
      · have hres:Hid ((l.take (k+1)).all (fun t=>Md.plB n t.2)=true):=Md.all_next hA.out hlt hp
        generalize l[k]=x at *
        obtain ⟨x1,x2⟩:=x;simp only at hp;go_wp2_with (go_at_call 172;refine (QI _ _ n _ _ (HP.out _ hbV.out).1 (HP.out _ hbV.out).2).mono ?_;rintro e w2 ⟨rfl,hb2⟩);go_roundw
        case rel=>exact ⟨k+1,by go_num,by omega,hres,hbV.out.trans (hb2.mono (by have:=hB.out.size;simp;omega))⟩
        case measure=>simp [intOf];omega
    · have hkI:¬ (k:Int)<(l.length:Int):=by omega
      have hres:Hid (l.all (fun t=>Md.plB n t.2)=true):=Md.all_done hA.out (by omega);go_wp2;go_ret;exact ⟨yk hres.out.symm,hB.out⟩
end Go.Proofs.YtjgghimjnbjlbaaGreatDoor

namespace Go.Proofs.YtjgghimjnbjlbaaGreatDoor
open Go.RowKit
set_option maxRecDepth 10000
set_option maxHeartbeats 8000000
theorem zc (v:Value) (l:List (Int × Int)) (w:World) (h:TermsAt w v l):Calls Tryz.prog 97 #[v] w fun e w'=>e=.returned (.bool (Md.coefsB l))/\Below w.heap.size w w':=by
  obtain ⟨a,cap,rfl,_⟩:=id h;have H:Hid (TermsAt w (.slice a l.length cap) l):=h;clear h;go_enter Tryz.func97,Tryz.ntmps97;go_wp2_with (go_at_call 167;refine (y3l _ l _ H.out).mono ?_;rintro e w' ⟨rfl,hb⟩);go_ret;exact ⟨rfl,hb⟩
theorem Zz (v:Value) (l:List (Int × Int)) (n:Int) (w:World) (h:TermsAt w v l):Calls Tryz.prog 103 #[v,.int .i64 n] w fun e w'=>e=.returned (.bool (l.all fun t=>Md.plB n t.2))/\Below w.heap.size w w':=by
  obtain ⟨a,cap,rfl,_⟩:=id h;have hb0:Below w.heap.size w (w.alloc (.cells #[.int .i64 n] 3)):=(Below.refl _ _).alloc (Nat.le_refl _) _;have H:Hid (TermsAt (w.alloc (.cells #[.int .i64 n] 3)) (.slice a l.length cap) l):=h.below hb0;have HB:Hid (Below w.heap.size w (w.alloc (.cells #[.int .i64 n] 3))):=hb0;clear h hb0;go_enter Tryz.func103,Tryz.ntmps103;go_wp2_with (go_at_call 167;refine (y3m _ l n _ _ H.out (by simp) (by simp)).mono ?_;rintro e w' ⟨rfl,hb⟩);go_ret;exact ⟨rfl,HB.out.trans (hb.mono (by simp))⟩
theorem y3w (c:Md.Cn) (vt vx vb vr:Value) (n:Int) (w:World) (h:CnAt w c vt vx vb vr):Calls Tryz.prog 96 #[yh c vt vx vb vr,.int .i64 n] w fun e w'=>e=.returned (.bool (Md.placesB c n))/\Below w.heap.size w w':=by
  obtain ⟨ta,tc,rfl,_⟩:=id h.t;obtain ⟨xa,xc,rfl,_⟩:=id h.x;obtain ⟨ba,bc,rfl,_⟩:=id h.b;obtain ⟨ra,rc,rfl,_⟩:=id h.r;unfold yh;obtain ⟨W,hW⟩:∃ W,(w.alloc (.cells #[.int .i64 c.kind,.int .i64 c.op,.slice ta c.terms.length tc,.int .i64 c.k,.int .i64 c.v,.int .i64 c.x,.int .i64 c.y,.slice xa c.xs.length xc,.slice ba c.table.length bc,.slice ra c.rows.length rc] 51)).alloc (.cells #[.int .i64 n] 3)=W:=⟨_,rfl⟩;have hb0:Below w.heap.size w W:=by rw [<-hW];exact ((Below.refl _ _).alloc (Nat.le_refl _) _).alloc (by simp) _
  have HT:Hid (TermsAt W (.slice ta c.terms.length tc) c.terms):=h.t.below hb0;have HX:Hid (MInts W (.slice xa c.xs.length xc) c.xs):=h.x.below hb0;have HB:Hid (Below w.heap.size w W):=hb0;have c2:W.cell? ⟨w.heap.size,2,none⟩=some (.slice ta c.terms.length tc):=by rw [<-hW];simp
  have c5:W.cell? ⟨w.heap.size,5,none⟩=some (.int .i64 c.x):=by rw [<-hW];simp
  have c6:W.cell? ⟨w.heap.size,6,none⟩=some (.int .i64 c.y):=by rw [<-hW];simp
  have c7:W.cell? ⟨w.heap.size,7,none⟩=some (.slice xa c.xs.length xc):=by rw [<-hW];simp
  have n0:W.cell? ⟨w.heap.size+1,0,none⟩=some (.int .i64 n):=by rw [<-hW];simp
  have hsz:W.heap.size=w.heap.size+1+1:=by rw [<-hW];simp
  have hsI:w.heap.size+1<W.heap.size:=by omega
  have HN:Hid (∀ w1,Below W.heap.size W w1->w1.cell? ⟨w.heap.size+1,0,none⟩=some (.int .i64 n)):=fun w1 hb=>(hb.cell (p:=⟨w.heap.size+1,0,none⟩) hsI).trans n0
  have HC7:Hid (∀ w1,Below W.heap.size W w1->w1.cell? ⟨w.heap.size,7,none⟩=some (.slice xa c.xs.length xc)):=fun w1 hb=>(hb.cell (p:=⟨w.heap.size,7,none⟩) (show w.heap.size<W.heap.size by omega)).trans c7
  clear h hb0 hsz;have hres:Hid (Md.placesB c n=(Md.plB n c.x&&Md.plB n c.y&&c.terms.all (fun t=>Md.plB n t.2)&&c.xs.all (Md.plB n))):=rfl
  cases p1:Md.plB n c.x
  · go_enter Tryz.func96,Tryz.ntmps96
    go_wp2_with (first | (go_at_call 165;refine (Y7 _ _ _).mono ?_;rintro e w' ⟨rfl,rfl⟩));go_ret;exact ⟨yk (by rw [hres.out];simp [p1]),HB.out⟩
  · cases p2:Md.plB n c.y
    · go_enter Tryz.func96,Tryz.ntmps96
      go_wp2_with (first | (go_at_call 165;refine (Y7 _ _ _).mono ?_;rintro e w' ⟨rfl,rfl⟩));go_ret;exact ⟨yk (by rw [hres.out];simp [p2]),HB.out⟩
    · cases p3:c.terms.all (fun t=>Md.plB n t.2)
      · go_enter Tryz.func96,Tryz.ntmps96
        go_wp2_with (first | (go_at_call 165;refine (Y7 _ _ _).mono ?_;rintro e w' ⟨rfl,rfl⟩) | (go_at_call 103;refine (Zz _ c.terms n _ HT.out).mono ?_;rintro e w1 ⟨rfl,hb1⟩));go_ret;exact ⟨yk (by rw [hres.out,p3];simp),HB.out.trans (hb1.mono HB.out.size)⟩
      · go_enter Tryz.func96,Tryz.ntmps96
        go_wp2_with (first | (go_at_call 165;refine (Y7 _ _ _).mono ?_;rintro e w' ⟨rfl,rfl⟩) | (go_at_call 103;refine (Zz _ c.terms n _ HT.out).mono ?_;rintro e w1 ⟨rfl,hb1⟩;have e7:=HC7.out _ hb1) | (go_at_call 62;refine (y3j _ c.xs n _ _ (HX.out.below hb1) (HN.out _ hb1)).mono ?_;rintro e w2 ⟨rfl,rfl⟩));go_ret;exact ⟨yk (by rw [hres.out,p3,p1,p2];simp),HB.out.trans (hb1.mono HB.out.size)⟩
end Go.Proofs.YtjgghimjnbjlbaaGreatDoor

namespace Go.Proofs.YtjgghimjnbjlbaaGreatDoor
open Go.RowKit
set_option maxRecDepth 10000
set_option maxHeartbeats 8000000
theorem xE {W w1:World} (hb:Below W.heap.size W w1):(∀ b o,b<W.heap.size->w1.cell? ⟨b,o,none⟩=W.cell? ⟨b,o,none⟩)/\(∀ b o,b<W.heap.size->w1.frozen? ⟨b,o,none⟩=W.frozen? ⟨b,o,none⟩):=
  ⟨fun b o h=>hb.cell (p:=⟨b,o,none⟩) h,fun b o h=>hb.frozen (p:=⟨b,o,none⟩) h⟩
theorem xT {k:IntKind} {a b:Int} (h:a=b):Ending.returned (.int k a)=.returned (.int k b):=by rw [h]
theorem ZZ {a b:Bool} (h:a=b):Ending.returned (.bool a)=.returned (.bool b):=by rw [h]
theorem Ya {a b:ByteArray} (h:a=b):Ending.returned (.string a)=.returned (.string b):=by rw [h]
theorem y0j (n:Int) (w:World) :
    Calls Tryz.prog 258 #[.int .i64 n] w fun e w'=>e=.returned (.agg #[.int .i64 n,.pointer none])/\Below w.heap.size w w':=by
  go_enter Tryz.func258,Tryz.ntmps258;go_wp2;exact bodyPost_ret (v:=.agg #[.int .i64 n,.pointer none]) (by simp [results,Tryz.results258,go_sem]) rfl ⟨rfl,(Below.refl _ _).alloc (Nat.le_refl _) _⟩
theorem y26 (n:Int) (w:World) :
    Calls Tryz.prog 236 #[.agg #[.int .i64 n,.pointer none]] w fun e w'=>e=.returned (.tuple #[.int .i64 n,.bool true])/\Below w.heap.size w w':=by
  go_enter Tryz.func236,Tryz.ntmps236;go_wp2;go_ret2;exact ⟨rfl,(Below.refl _ _).alloc (Nat.le_refl _) _⟩
theorem YC (n:Int) (w:World) :
    Calls Tryz.prog 245 #[.agg #[.int .i64 n,.pointer none]] w fun e w'=>e=.returned (.bool (decide (n<0)))/\Below w.heap.size w w':=by
  go_enter Tryz.func245,Tryz.ntmps245;go_wp2;go_ret;exact ⟨rfl,(Below.refl _ _).alloc (Nat.le_refl _) _⟩
theorem y28 (n:Int) (w:World) :
    Calls Tryz.prog 234 #[.agg #[.int .i64 n,.pointer none]] w fun e w'=>e=.returned (.int .i64 n.sign)/\Below w.heap.size w w':=by
  rcases Int.lt_trichotomy n 0 with h | h | h
  · have hd:decide (n<0)=true:=by simpa using h
    go_enter Tryz.func234,Tryz.ntmps234;go_wp2_with (go_at_call 245;refine (YC _ _).mono ?_;rintro e w' ⟨rfl,hb⟩;rw [hd]);go_ret;exact ⟨xT (Int.sign_eq_neg_one_of_neg h).symm,((Below.refl _ _).alloc (Nat.le_refl _) _).trans (hb.mono (by simp))⟩
  · subst h
    go_enter Tryz.func234,Tryz.ntmps234;go_wp2_with (go_at_call 245;refine (YC _ _).mono ?_;rintro e w' ⟨rfl,hb⟩;obtain ⟨hc,hf⟩:=xE hb);go_ret;exact ⟨rfl,((Below.refl _ _).alloc (Nat.le_refl _) _).trans (hb.mono (by simp))⟩
  · have hd:decide (n<0)=false:=by simp;omega
    go_enter Tryz.func234,Tryz.ntmps234;go_wp2_with (go_at_call 245;refine (YC _ _).mono ?_;rintro e w' ⟨rfl,hb⟩;rw [hd];obtain ⟨hc,hf⟩:=xE hb);go_ret;exact ⟨xT (Int.sign_eq_one_of_pos h).symm,((Below.refl _ _).alloc (Nat.le_refl _) _).trans (hb.mono (by simp))⟩
end Go.Proofs.YtjgghimjnbjlbaaGreatDoor
