/-
  Put together: MdSmall, MdAt, MdEvery, MdEveryR, MdEveryT, MdPlaces.
-/
import Derived.Test.YthohnmplbjhjaaaGreatDoorProg
import Derived.Test.YthohnmplbjhjaaaGreatDoorJ04
import Derived.WalkKit
import Derived.WalkSpells
import Derived.WalkLawsBesides
import Derived.BigQuiet
import Derived.Deep.QuietTactic
namespace Go.Proofs.YthohnmplbjhjaaaGreatDoor
open Go.RowKit
set_option maxHeartbeats 400000
theorem zP {W w1:World} (hb:Below W.heap.size W w1):(∀ b o,b<W.heap.size->w1.cell? ⟨b,o,none⟩=W.cell? ⟨b,o,none⟩)/\(∀ b o,b<W.heap.size->w1.frozen? ⟨b,o,none⟩=W.frozen? ⟨b,o,none⟩):=
 ⟨fun b o h=>hb.cell (p:=⟨b,o,none⟩) h,fun b o h=>hb.frozen (p:=⟨b,o,none⟩) h⟩
theorem yB {k:IntKind} {a b:Int} (h:a=b):Ending.returned (.int k a)=.returned (.int k b):=by rw [h]
theorem yN {a b:Bool} (h:a=b):Ending.returned (.bool a)=.returned (.bool b):=by rw [h]
theorem yb {P:Program} {f:FuncId} {args args':Array Value} {w w':World} {Q Q':Ending->World->Prop} (h:Calls P f args w Q) (e:args'=args) (ew:w'=w) (hm:∀ e w',Q e w'->Q' e w'):Calls P f args' w' Q':=by
 subst e ew
 exact h.mono hm
theorem ze (n:Int) (w:World):Calls Tryz.prog 57 #[.int .i64 n] w fun e w'=>e=.returned (.bool (Md.numB n))/\w'=w:=by
 by_cases h1:-1000000000<=n
 ·by_cases h2:n<=1000000000
  ·have hd:Md.numB n=true:=decide_eq_true ⟨h1,h2⟩
   rw [hd];clear hd
   go_enter Tryz.func57,Tryz.ntmps57
   go_wp2
   go_ret
   exact ⟨rfl,rfl⟩
  ·have hd:Md.numB n=false:=decide_eq_false (fun h=>h2 h.2)
   rw [hd];clear hd
   go_enter Tryz.func57,Tryz.ntmps57
   go_wp2
   go_ret
   exact ⟨rfl,rfl⟩
 ·have hd:Md.numB n=false:=decide_eq_false (fun h=>h1 h.1)
  rw [hd];clear hd
  go_enter Tryz.func57,Tryz.ntmps57
  go_wp2
  go_ret
  exact ⟨rfl,rfl⟩
theorem Yq (x n:Int) (w:World):Calls Tryz.prog 117 #[.int .i64 x,.int .i64 n] w fun e w'=>e=.returned (.bool (Md.plB n x))/\w'=w:=by
 by_cases h1:0<=x
 ·by_cases h2:x<n
  ·have hd:Md.plB n x=true:=decide_eq_true ⟨h1,h2⟩
   rw [hd];clear hd
   go_enter Tryz.func117,Tryz.ntmps117
   go_wp2
   go_ret
   exact ⟨rfl,rfl⟩
  ·have hd:Md.plB n x=false:=decide_eq_false (fun h=>h2 h.2)
   rw [hd];clear hd
   go_enter Tryz.func117,Tryz.ntmps117
   go_wp2
   go_ret
   exact ⟨rfl,rfl⟩
 ·have hd:Md.plB n x=false:=decide_eq_false (fun h=>h1 h.1)
  rw [hd];clear hd
  go_enter Tryz.func117,Tryz.ntmps117
  go_wp2
  go_ret
  exact ⟨rfl,rfl⟩
theorem xw (x m:Nat) (w:World):Calls Tryz.prog 65 #[.int .i64 (x:Int),.int .i64 (m:Int)] w fun e w'=>e=.returned (.bool (!Md.fewB x m))/\w'=w:=by
 by_cases h1:(1:Int)<=(x:Int)
 ·by_cases h2:(x:Int)<=(m:Int)
  ·have hd:Md.fewB x m=false:=decide_eq_false (fun h=>by omega)
   rw [hd];clear hd
   go_enter Tryz.func65,Tryz.ntmps65
   go_wp2
   go_ret
   exact ⟨rfl,rfl⟩
  ·have hd:Md.fewB x m=true:=decide_eq_true (by omega)
   rw [hd];clear hd
   go_enter Tryz.func65,Tryz.ntmps65
   go_wp2
   go_ret
   exact ⟨rfl,rfl⟩
 ·have hd:Md.fewB x m=true:=decide_eq_true (by omega)
  rw [hd];clear hd
  go_enter Tryz.func65,Tryz.ntmps65
  go_wp2
  go_ret
  exact ⟨rfl,rfl⟩
theorem cZ {P:Program} {f:FuncId} {args args':Array Value} {w w':World} {Q Q':Ending->World->Prop} (h:Calls P f args w Q) (hm:∀ e w',Q e w'->Q' e w') (e:args'=args:=by with_reducible rfl) (ew:w'=w:=by with_reducible rfl):Calls P f args' w' Q':=yb h e ew hm
end Go.Proofs.YthohnmplbjhjaaaGreatDoor

namespace Go.Proofs.YthohnmplbjhjaaaGreatDoor
open Go.RowKit
def IntsAt (w:World) (v:Value) (l:List Int):Prop:=
 ∃ a cap,v=.slice a l.length cap/\l.length<=maxLen/\(0<l.length->∃ b off,a=some ⟨b,off,none⟩/\b<w.heap.size/\∀ j (h:j<l.length),w.cell? ⟨b,off+j,none⟩=some (.int .i64 l[j]))
def TermsAt (w:World) (v:Value) (l:List (Int × Int)):Prop:=
 ∃ a cap,v=.slice a l.length cap/\l.length<=maxLen/\(0<l.length->∃ b off,a=some ⟨b,off,none⟩/\b<w.heap.size /\
  ∀ j (h:j<l.length),w.cell? ⟨b,off+j * 2,none⟩=some (.int .i64 l[j].1)/\w.cell? ⟨b,off+j * 2+1,none⟩=some (.int .i64 l[j].2))
def RowsAt (w:World) (v:Value) (l:List (List Int)):Prop:=
 ∃ a cap,v=.slice a l.length cap/\l.length<=maxLen/\(0<l.length->∃ b off,a=some ⟨b,off,none⟩/\b<w.heap.size /\
  ∀ j (h:j<l.length),∃ u,w.cell? ⟨b,off+j,none⟩=some u/\IntsAt w u l[j])
def yv (c:Md.Cn) (vt vx vb vr:Value):Value:=
 .agg #[.int .i64 c.kind,.int .i64 c.op,vt,.int .i64 c.k,.int .i64 c.v,.int .i64 c.x,.int .i64 c.y,vx,vb,vr]
structure CnAt (w:World) (c:Md.Cn) (vt vx vb vr:Value):Prop where
 t:TermsAt w vt c.terms
 x:IntsAt w vx c.xs
 xcap:∀ a n cp,vx=.slice a n cp->n<=cp
 b:IntsAt w vb c.table
 r:RowsAt w vr c.rows
theorem IntsAt.mono {w w':World} {v:Value} {l:List Int} (h:IntsAt w v l) (hs:w.heap.size<=w'.heap.size) (hb:∀ b o,b<w.heap.size->w'.cell? ⟨b,o,none⟩=w.cell? ⟨b,o,none⟩):IntsAt w' v l:=by
 obtain ⟨a,cap,hv,hl,hc⟩:=h
 refine ⟨a,cap,hv,hl,fun h0=>?_⟩
 obtain ⟨b,off,ha,hbs,hcell⟩:=hc h0
 exact ⟨b,off,ha,Nat.lt_of_lt_of_le hbs hs,fun j hj=>(hb _ _ hbs).trans (hcell j hj)⟩
theorem IntsAt.below {w w':World} {v:Value} {l:List Int} (h:IntsAt w v l) (hb:Below w.heap.size w w'):IntsAt w' v l:=h.mono hb.size (zP hb).1
theorem TermsAt.below {w w':World} {v:Value} {l:List (Int × Int)} (h:TermsAt w v l) (hb:Below w.heap.size w w'):TermsAt w' v l:=by
 obtain ⟨a,cap,hv,hl,hc⟩:=h
 refine ⟨a,cap,hv,hl,fun h0=>?_⟩
 obtain ⟨b,off,ha,hbs,hcell⟩:=hc h0
 exact ⟨b,off,ha,Nat.lt_of_lt_of_le hbs hb.size,fun j hj=>⟨((zP hb).1 _ _ hbs).trans (hcell j hj).1,((zP hb).1 _ _ hbs).trans (hcell j hj).2⟩⟩
theorem RowsAt.below {w w':World} {v:Value} {l:List (List Int)} (h:RowsAt w v l) (hb:Below w.heap.size w w'):RowsAt w' v l:=by
 obtain ⟨a,cap,hv,hl,hc⟩:=h
 refine ⟨a,cap,hv,hl,fun h0=>?_⟩
 obtain ⟨b,off,ha,hbs,hcell⟩:=hc h0
 refine ⟨b,off,ha,Nat.lt_of_lt_of_le hbs hb.size,fun j hj=>?_⟩
 obtain ⟨u,hu,hI⟩:=hcell j hj
 exact ⟨u,((zP hb).1 _ _ hbs).trans hu,hI.below hb⟩
theorem CnAt.below {w w':World} {c:Md.Cn} {vt vx vb vr:Value} (h:CnAt w c vt vx vb vr) (hb:Below w.heap.size w w'):CnAt w' c vt vx vb vr:=
 ⟨h.t.below hb,h.x.below hb,h.xcap,h.b.below hb,h.r.below hb⟩
theorem IntsAt.form {w:World} {v:Value} {l:List Int} (h:IntsAt w v l):∃ a cap,v=.slice a l.length cap/\l.length<=maxLen:=by
 obtain ⟨a,cap,hv,hl,_⟩:=h
 exact ⟨a,cap,hv,hl⟩
theorem TermsAt.form {w:World} {v:Value} {l:List (Int × Int)} (h:TermsAt w v l):∃ a cap,v=.slice a l.length cap/\l.length<=maxLen:=by
 obtain ⟨a,cap,hv,hl,_⟩:=h
 exact ⟨a,cap,hv,hl⟩
theorem RowsAt.form {w:World} {v:Value} {l:List (List Int)} (h:RowsAt w v l):∃ a cap,v=.slice a l.length cap/\l.length<=maxLen:=by
 obtain ⟨a,cap,hv,hl,_⟩:=h
 exact ⟨a,cap,hv,hl⟩
set_option maxHeartbeats 400000 in
theorem y0o (v:Value) (l:List Int) (w:World) (h:IntsAt w v l):Calls Tryz.prog 118 #[v,.func (.func 57) #[] #[]] w fun e w'=>e=.returned (.bool (l.all Md.numB))/\w'=w:=by
 obtain ⟨a,cap,rfl,hm,hc⟩:=h
 unfold maxLen at hm
 have HC:Hid (0<l.length->∃ b off,a=some ⟨b,off,none⟩/\b<w.heap.size/\∀ j (h:j<l.length),w.cell? ⟨b,off+j,none⟩=some (.int .i64 l[j])):=hc
 have H0:Hid ((l.take 0).all Md.numB=true):=by show _=_;simp
 clear hc
 go_enter Tryz.func118,Tryz.ntmps118
 go_wp2
 go_loop [9] (fun iv=>∃ k:Nat,iv=.int .i64 (k:Int)/\k<=l.length/\Hid ((l.take k).all Md.numB=true)) (fun iv=>l.length-(intOf iv).toNat)
 case atStart=>exact ⟨0,rfl,Nat.zero_le _,H0⟩
 case round=>
  obtain ⟨k,rfl,hk,hA⟩:=hrel
  clear H0
  by_cases hlt:k<l.length
  ·obtain ⟨b,off,rfl,hb,hc⟩:=HC.out (by omega)
   have hcell:=hc k hlt
   have hkI:(k:Int)<(l.length:Int):=by omega
   clear hc
   cases hp:Md.numB l[k]
   ·have hres:Hid (l.all Md.numB=false):=Md.all_stop hlt hp
    generalize l[k]=x at *
    go_wp2_with (go_at_call 57;refine (ze _ _).mono ?_;rintro e w' ⟨rfl,rfl⟩)
    go_ret
    exact ⟨yN hres.out.symm,rfl⟩
   ·have hres:Hid ((l.take (k+1)).all Md.numB=true):=Md.all_next hA.out hlt hp
    generalize l[k]=x at *
    go_wp2_with (go_at_call 57;refine (ze _ _).mono ?_;rintro e w' ⟨rfl,rfl⟩)
    go_round
    case rel=>exact ⟨k+1,by go_num,by omega,hres⟩
    case measure=>simp [intOf];omega
  ·have hkI:¬ (k:Int)<(l.length:Int):=by omega
   have hres:Hid (l.all Md.numB=true):=Md.all_done hA.out (by omega)
   go_wp2
   go_ret
   exact ⟨yN hres.out.symm,rfl⟩
end Go.Proofs.YthohnmplbjhjaaaGreatDoor

namespace Go.Proofs.YthohnmplbjhjaaaGreatDoor
open Go.RowKit
set_option maxHeartbeats 400000
theorem XI (x n:Int) (p:Nat) (w:World) (h:w.cell? ⟨p,0,none⟩=some (.int .i64 n)):Calls Tryz.prog 119 #[.int .i64 x,.pointer (some ⟨p,0,none⟩)] w fun e w'=>e=.returned (.bool (Md.plB n x))/\w'=w:=by
 go_enter Tryz.func119,Tryz.ntmps119
 go_wp2_with (go_at_call 117;refine (Yq _ _ _).mono ?_;rintro e w' ⟨rfl,rfl⟩)
 go_ret
 exact ⟨rfl,rfl⟩
theorem y0s (v:Value) (l:List Int) (n:Int) (p:Nat) (w:World) (h:IntsAt w v l) (hp:w.cell? ⟨p,0,none⟩=some (.int .i64 n)):Calls Tryz.prog 118 #[v,.func (.func 119) #[] #[.pointer (some ⟨p,0,none⟩)]] w fun e w'=>e=.returned (.bool (l.all (Md.plB n)))/\w'=w:=by
 obtain ⟨a,cap,rfl,hm,hc⟩:=h
 unfold maxLen at hm
 have HC:Hid (0<l.length->∃ b off,a=some ⟨b,off,none⟩/\b<w.heap.size/\∀ j (h:j<l.length),w.cell? ⟨b,off+j,none⟩=some (.int .i64 l[j])):=hc
 have HP:Hid (w.cell? ⟨p,0,none⟩=some (.int .i64 n)):=hp
 have H0:Hid ((l.take 0).all (Md.plB n)=true):=by show _=_;simp
 clear hc hp
 go_enter Tryz.func118,Tryz.ntmps118
 go_wp2
 go_loop [9] (fun iv=>∃ k:Nat,iv=.int .i64 (k:Int)/\k<=l.length/\Hid ((l.take k).all (Md.plB n)=true)) (fun iv=>l.length-(intOf iv).toNat)
 case atStart=>exact ⟨0,rfl,Nat.zero_le _,H0⟩
 case round=>
  obtain ⟨k,rfl,hk,hA⟩:=hrel
  clear H0
  by_cases hlt:k<l.length
  ·obtain ⟨b,off,rfl,hb,hc⟩:=HC.out (by omega)
   have hcell:=hc k hlt
   have hkI:(k:Int)<(l.length:Int):=by omega
   clear hc
   cases hp:Md.plB n l[k]
   ·have hres:Hid (l.all (Md.plB n)=false):=Md.all_stop hlt hp
    generalize l[k]=x at *
    go_wp2_with (go_at_call 119;refine (XI _ n _ _ HP.out).mono ?_;rintro e w' ⟨rfl,rfl⟩)
    go_ret
    exact ⟨yN hres.out.symm,rfl⟩
   ·have hres:Hid ((l.take (k+1)).all (Md.plB n)=true):=Md.all_next hA.out hlt hp
    generalize l[k]=x at *
    go_wp2_with (go_at_call 119;refine (XI _ n _ _ HP.out).mono ?_;rintro e w' ⟨rfl,rfl⟩)
    go_round
    case rel=>exact ⟨k+1,by go_num,by omega,hres⟩
    case measure=>simp [intOf];omega
  ·have hkI:¬ (k:Int)<(l.length:Int):=by omega
   have hres:Hid (l.all (Md.plB n)=true):=Md.all_done hA.out (by omega)
   go_wp2
   go_ret
   exact ⟨yN hres.out.symm,rfl⟩
theorem XJ (c x:Int) (w:World):Calls Tryz.prog 121 #[.agg #[.int .i64 c,.int .i64 x]] w fun e w'=>e=.returned (.bool (Md.cfB c))/\Below w.heap.size w w':=by
 by_cases h:c=0
 ·subst h
  go_enter Tryz.func121,Tryz.ntmps121
  go_wp2
  go_ret
  exact ⟨rfl,(Below.refl _ _).alloc (Nat.le_refl _) _⟩
 ·have hb:(c != 0)=true:=by simp [h]
  have hd:Md.cfB c=decide (-1000000<=c/\c<=1000000):=by unfold Md.cfB;simp [h]
  rw [hd];clear hd
  go_enter Tryz.func121,Tryz.ntmps121
  go_wp2
  all_goals (go_ret;refine ⟨yN ?_,(Below.refl _ _).alloc (Nat.le_refl _) _⟩;rw [Bool.eq_iff_iff];simp;try omega)
theorem XK (c x n:Int) (p:Nat) (w:World) (hp:p<w.heap.size) (h:w.cell? ⟨p,0,none⟩=some (.int .i64 n)):Calls Tryz.prog 122 #[.agg #[.int .i64 c,.int .i64 x],.pointer (some ⟨p,0,none⟩)] w fun e w'=>e=.returned (.bool (Md.plB n x))/\Below w.heap.size w w':=by
 go_enter Tryz.func122,Tryz.ntmps122
 go_wp2_with (go_at_call 117;refine (Yq _ _ _).mono ?_;rintro e w' ⟨rfl,rfl⟩)
 go_ret
 exact ⟨rfl,(Below.refl _ _).alloc (Nat.le_refl _) _⟩
end Go.Proofs.YthohnmplbjhjaaaGreatDoor

namespace Go.Proofs.YthohnmplbjhjaaaGreatDoor
open Go.RowKit
set_option maxHeartbeats 400000
theorem zB (v:Value) (l:List Int) (w:World) (h:IntsAt w v l):Calls Tryz.prog 63 #[v] w fun e w'=>e=.returned (.bool (l.all Md.numB))/\w'=w:=by
 go_enter Tryz.func63,Tryz.ntmps63
 go_wp2_with (go_at_call 118;refine (y0o _ l _ h).mono ?_;rintro e w' ⟨rfl,rfl⟩)
 go_ret
 exact ⟨rfl,rfl⟩
theorem XL (ua:Option Addr) (m uc:Nat) (xa:Option Addr) (n xc:Nat) (p:Nat) (w:World) (h:w.cell? ⟨p,7,none⟩=some (.slice xa n xc)):Calls Tryz.prog 116 #[.slice ua m uc,.pointer (some ⟨p,0,none⟩)] w fun e w'=>e=.returned (.bool (m==n))/\w'=w:=by
 go_enter Tryz.func116,Tryz.ntmps116
 go_wp2
 go_ret
 exact ⟨yN (by rw [Bool.eq_iff_iff];simp;omega),rfl⟩
theorem zK (v:Value) (l:List (List Int)) (w:World) (h:RowsAt w v l):Calls Tryz.prog 64 #[v,.func (.func 63) #[] #[]] w fun e w'=>e=.returned (.bool (l.all (fun r=>r.all Md.numB)))/\w'=w:=by
 obtain ⟨a,cap,rfl,hm,hc⟩:=h
 unfold maxLen at hm
 have HC:Hid (0<l.length->∃ b off,a=some ⟨b,off,none⟩/\b<w.heap.size/\∀ j (h:j<l.length),∃ u,w.cell? ⟨b,off+j,none⟩=some u/\IntsAt w u l[j]):=hc
 have HB0:Hid (Below w.heap.size w w):=Below.refl _ _
 have H0:Hid ((l.take 0).all (fun r=>r.all Md.numB)=true):=by show _=_;simp
 clear hc
 go_enter Tryz.func64,Tryz.ntmps64
 go_wp2
 go_loop [9] (fun iv=>∃ k:Nat,iv=.int .i64 (k:Int)/\k<=l.length/\Hid ((l.take k).all (fun r=>r.all Md.numB)=true)) (fun iv=>l.length-(intOf iv).toNat)
 case atStart=>exact ⟨0,rfl,Nat.zero_le _,H0⟩
 case round=>
  obtain ⟨k,rfl,hk,hA⟩:=hrel
  clear H0
  by_cases hlt:k<l.length
  ·obtain ⟨b,off,rfl,hb,hc⟩:=HC.out (by omega)
   obtain ⟨u,hcell,hu⟩:=hc k hlt
   have HU:Hid (IntsAt w u l[k]):=hu
   obtain ⟨ua,uc,rfl,_⟩:=hu.form
   have hkI:(k:Int)<(l.length:Int):=by omega
   clear hc hu
   cases hp:(fun r=>r.all Md.numB) l[k]
   ·have hres:Hid (l.all (fun r=>r.all Md.numB)=false):=Md.all_stop hlt hp
    generalize l[k]=x at *
    simp only at hp
    go_wp2_with (go_at_call 63;refine (zB _ x _ HU.out).mono ?_;rintro e w2 ⟨rfl,rfl⟩)
    go_ret
    exact ⟨yN hres.out.symm,rfl⟩
   ·have hres:Hid ((l.take (k+1)).all (fun r=>r.all Md.numB)=true):=Md.all_next hA.out hlt hp
    generalize l[k]=x at *
    simp only at hp
    go_wp2_with (go_at_call 63;refine (zB _ x _ HU.out).mono ?_;rintro e w2 ⟨rfl,rfl⟩)
    go_round
    case rel=>exact ⟨k+1,by go_num,by omega,hres⟩
    case measure=>simp [intOf];omega
  ·have hkI:¬ (k:Int)<(l.length:Int):=by omega
   have hres:Hid (l.all (fun r=>r.all Md.numB)=true):=Md.all_done hA.out (by omega)
   go_wp2
   go_ret
   exact ⟨yN hres.out.symm,rfl⟩
theorem y0t (v:Value) (l:List (List Int)) (xa:Option Addr) (n xc p:Nat) (w:World) (h:RowsAt w v l) (hp:w.cell? ⟨p,7,none⟩=some (.slice xa n xc)):Calls Tryz.prog 64 #[v,.func (.func 116) #[] #[.pointer (some ⟨p,0,none⟩)]] w fun e w'=>e=.returned (.bool (l.all (fun r=>r.length==n)))/\w'=w:=by
 obtain ⟨a,cap,rfl,hm,hc⟩:=h
 unfold maxLen at hm
 have HC:Hid (0<l.length->∃ b off,a=some ⟨b,off,none⟩/\b<w.heap.size/\∀ j (h:j<l.length),∃ u,w.cell? ⟨b,off+j,none⟩=some u/\IntsAt w u l[j]):=hc
 have HP:Hid (w.cell? ⟨p,7,none⟩=some (.slice xa n xc)):=hp
 clear hp
 have H0:Hid ((l.take 0).all (fun r=>r.length==n)=true):=by show _=_;simp
 clear hc
 go_enter Tryz.func64,Tryz.ntmps64
 go_wp2
 go_loop [9] (fun iv=>∃ k:Nat,iv=.int .i64 (k:Int)/\k<=l.length/\Hid ((l.take k).all (fun r=>r.length==n)=true)) (fun iv=>l.length-(intOf iv).toNat)
 case atStart=>exact ⟨0,rfl,Nat.zero_le _,H0⟩
 case round=>
  obtain ⟨k,rfl,hk,hA⟩:=hrel
  clear H0
  by_cases hlt:k<l.length
  ·obtain ⟨b,off,rfl,hb,hc⟩:=HC.out (by omega)
   obtain ⟨u,hcell,hu⟩:=hc k hlt
   have HU:Hid (IntsAt w u l[k]):=hu
   obtain ⟨ua,uc,rfl,_⟩:=hu.form
   have hkI:(k:Int)<(l.length:Int):=by omega
   clear hc hu
   cases hp:(fun r=>r.length==n) l[k]
   ·have hres:Hid (l.all (fun r=>r.length==n)=false):=Md.all_stop hlt hp
    generalize l[k]=x at *
    simp only at hp
    go_wp2_with (go_at_call 116;refine (XL _ _ _ xa n xc _ _ HP.out).mono ?_;rintro e w2 ⟨rfl,rfl⟩)
    go_ret
    exact ⟨yN hres.out.symm,rfl⟩
   ·have hres:Hid ((l.take (k+1)).all (fun r=>r.length==n)=true):=Md.all_next hA.out hlt hp
    generalize l[k]=x at *
    simp only at hp
    go_wp2_with (go_at_call 116;refine (XL _ _ _ xa n xc _ _ HP.out).mono ?_;rintro e w2 ⟨rfl,rfl⟩)
    go_round
    case rel=>exact ⟨k+1,by go_num,by omega,hres⟩
    case measure=>simp [intOf];omega
  ·have hkI:¬ (k:Int)<(l.length:Int):=by omega
   have hres:Hid (l.all (fun r=>r.length==n)=true):=Md.all_done hA.out (by omega)
   go_wp2
   go_ret
   exact ⟨yN hres.out.symm,rfl⟩
end Go.Proofs.YthohnmplbjhjaaaGreatDoor

namespace Go.Proofs.YthohnmplbjhjaaaGreatDoor
open Go.RowKit
set_option maxHeartbeats 400000 in
theorem y0u (v:Value) (l:List (Int × Int)) (w:World) (h:TermsAt w v l):Calls Tryz.prog 120 #[v,.func (.func 121) #[] #[]] w fun e w'=>e=.returned (.bool (l.all (fun t=>Md.cfB t.1)))/\Below w.heap.size w w':=by
 obtain ⟨a,cap,rfl,hm,hc⟩:=h
 unfold maxLen at hm
 have HC:Hid (0<l.length->∃ b off,a=some ⟨b,off,none⟩/\b<w.heap.size/\∀ j (h:j<l.length),w.cell? ⟨b,off+j * 2,none⟩=some (.int .i64 l[j].1)/\w.cell? ⟨b,off+j * 2+1,none⟩=some (.int .i64 l[j].2)):=hc
 have HB0:Hid (Below w.heap.size w w):=Below.refl _ _
 have H0:Hid ((l.take 0).all (fun t=>Md.cfB t.1)=true):=by show _=_;simp
 clear hc
 go_enter Tryz.func120,Tryz.ntmps120
 go_wp2
 go_loopw [9] (fun iv wr=>∃ k:Nat,iv=.int .i64 (k:Int)/\k<=l.length/\Hid ((l.take k).all (fun t=>Md.cfB t.1)=true)/\Hid (Below w.heap.size w wr)) (fun iv _=>l.length-(intOf iv).toNat)
 case atStart=>exact ⟨0,rfl,Nat.zero_le _,H0,Below.refl _ _⟩
 case round=>
  obtain ⟨k,rfl,hk,hA,hB⟩:=hrel
  clear H0
  by_cases hlt:k<l.length
  ·obtain ⟨b,off,rfl,hb,hc⟩:=HC.out (by omega)
   obtain ⟨c1,c2⟩:=hc k hlt
   have d1:=(hB.out.cell (p:=⟨b,off+k * 2,none⟩) hb).trans c1
   have d2:=(hB.out.cell (p:=⟨b,off+k * 2+1,none⟩) hb).trans c2
   have hkI:(k:Int)<(l.length:Int):=by omega
   clear hc c1 c2
   have hbV:Hid (Below w.heap.size w (wr.alloc (.cells #[.int .i64 l[k].1,.int .i64 l[k].2] 87))):=hB.out.alloc hB.out.size _
   cases hp:(fun t=>Md.cfB t.1) l[k]
   ·have hres:Hid (l.all (fun t=>Md.cfB t.1)=false):=Md.all_stop hlt hp
    generalize l[k]=x at *
    obtain ⟨x1,x2⟩:=x
    simp only at hp
    go_wp2_with (go_at_call 121;refine (XJ _ _ _).mono ?_;rintro e w2 ⟨rfl,hb2⟩)
    go_ret
    exact ⟨yN hres.out.symm,hbV.out.trans (hb2.mono (by have:=hB.out.size;simp;omega))⟩
   ·have hres:Hid ((l.take (k+1)).all (fun t=>Md.cfB t.1)=true):=Md.all_next hA.out hlt hp
    generalize l[k]=x at *
    obtain ⟨x1,x2⟩:=x
    simp only at hp
    go_wp2_with (go_at_call 121;refine (XJ _ _ _).mono ?_;rintro e w2 ⟨rfl,hb2⟩)
    go_roundw
    case rel=>exact ⟨k+1,by go_num,by omega,hres,hbV.out.trans (hb2.mono (by have:=hB.out.size;simp;omega))⟩
    case measure=>simp [intOf];omega
  ·have hkI:¬ (k:Int)<(l.length:Int):=by omega
   have hres:Hid (l.all (fun t=>Md.cfB t.1)=true):=Md.all_done hA.out (by omega)
   go_wp2
   go_ret
   exact ⟨yN hres.out.symm,hB.out⟩
set_option maxHeartbeats 400000 in
theorem y0v (v:Value) (l:List (Int × Int)) (n:Int) (p:Nat) (w:World) (h:TermsAt w v l) (hp0:p<w.heap.size) (hp:w.cell? ⟨p,0,none⟩=some (.int .i64 n)):Calls Tryz.prog 120 #[v,.func (.func 122) #[] #[.pointer (some ⟨p,0,none⟩)]] w fun e w'=>e=.returned (.bool (l.all (fun t=>Md.plB n t.2)))/\Below w.heap.size w w':=by
 obtain ⟨a,cap,rfl,hm,hc⟩:=h
 unfold maxLen at hm
 have HC:Hid (0<l.length->∃ b off,a=some ⟨b,off,none⟩/\b<w.heap.size/\∀ j (h:j<l.length),w.cell? ⟨b,off+j * 2,none⟩=some (.int .i64 l[j].1)/\w.cell? ⟨b,off+j * 2+1,none⟩=some (.int .i64 l[j].2)):=hc
 have HP:Hid (∀ w1,Below w.heap.size w w1->p<w1.heap.size/\w1.cell? ⟨p,0,none⟩=some (.int .i64 n)):=fun w1 hb=>⟨Nat.lt_of_lt_of_le hp0 hb.size,(hb.cell (p:=⟨p,0,none⟩) hp0).trans hp⟩
 clear hp
 have H0:Hid ((l.take 0).all (fun t=>Md.plB n t.2)=true):=by show _=_;simp
 clear hc
 go_enter Tryz.func120,Tryz.ntmps120
 go_wp2
 go_loopw [9] (fun iv wr=>∃ k:Nat,iv=.int .i64 (k:Int)/\k<=l.length/\Hid ((l.take k).all (fun t=>Md.plB n t.2)=true)/\Hid (Below w.heap.size w wr)) (fun iv _=>l.length-(intOf iv).toNat)
 case atStart=>exact ⟨0,rfl,Nat.zero_le _,H0,Below.refl _ _⟩
 case round=>
  obtain ⟨k,rfl,hk,hA,hB⟩:=hrel
  clear H0
  by_cases hlt:k<l.length
  ·obtain ⟨b,off,rfl,hb,hc⟩:=HC.out (by omega)
   obtain ⟨c1,c2⟩:=hc k hlt
   have d1:=(hB.out.cell (p:=⟨b,off+k * 2,none⟩) hb).trans c1
   have d2:=(hB.out.cell (p:=⟨b,off+k * 2+1,none⟩) hb).trans c2
   have hkI:(k:Int)<(l.length:Int):=by omega
   clear hc c1 c2
   have hbV:Hid (Below w.heap.size w (wr.alloc (.cells #[.int .i64 l[k].1,.int .i64 l[k].2] 87))):=hB.out.alloc hB.out.size _
   cases hp:(fun t=>Md.plB n t.2) l[k]
   ·have hres:Hid (l.all (fun t=>Md.plB n t.2)=false):=Md.all_stop hlt hp
    generalize l[k]=x at *
    obtain ⟨x1,x2⟩:=x
    simp only at hp
    go_wp2_with (go_at_call 122;refine (XK _ _ n _ _ (HP.out _ hbV.out).1 (HP.out _ hbV.out).2).mono ?_;rintro e w2 ⟨rfl,hb2⟩)
    go_ret
    exact ⟨yN hres.out.symm,hbV.out.trans (hb2.mono (by have:=hB.out.size;simp;omega))⟩
   ·have hres:Hid ((l.take (k+1)).all (fun t=>Md.plB n t.2)=true):=Md.all_next hA.out hlt hp
    generalize l[k]=x at *
    obtain ⟨x1,x2⟩:=x
    simp only at hp
    go_wp2_with (go_at_call 122;refine (XK _ _ n _ _ (HP.out _ hbV.out).1 (HP.out _ hbV.out).2).mono ?_;rintro e w2 ⟨rfl,hb2⟩)
    go_roundw
    case rel=>exact ⟨k+1,by go_num,by omega,hres,hbV.out.trans (hb2.mono (by have:=hB.out.size;simp;omega))⟩
    case measure=>simp [intOf];omega
  ·have hkI:¬ (k:Int)<(l.length:Int):=by omega
   have hres:Hid (l.all (fun t=>Md.plB n t.2)=true):=Md.all_done hA.out (by omega)
   go_wp2
   go_ret
   exact ⟨yN hres.out.symm,hB.out⟩
end Go.Proofs.YthohnmplbjhjaaaGreatDoor

namespace Go.Proofs.YthohnmplbjhjaaaGreatDoor
open Go.RowKit
set_option maxHeartbeats 1000000
set_option maxRecDepth 10000
theorem zC (v:Value) (l:List (Int × Int)) (w:World) (h:TermsAt w v l):Calls Tryz.prog 62 #[v] w fun e w'=>e=.returned (.bool (Md.coefsB l))/\Below w.heap.size w w':=by
 obtain ⟨a,cap,rfl,_⟩:=id h
 have H:Hid (TermsAt w (.slice a l.length cap) l):=h
 clear h
 go_enter Tryz.func62,Tryz.ntmps62
 go_wp2_with (go_at_call 120;refine (y0u _ l _ H.out).mono ?_;rintro e w' ⟨rfl,hb⟩)
 go_ret
 exact ⟨rfl,hb⟩
theorem ZU (v:Value) (l:List (Int × Int)) (n:Int) (w:World) (h:TermsAt w v l):Calls Tryz.prog 66 #[v,.int .i64 n] w fun e w'=>e=.returned (.bool (l.all fun t=>Md.plB n t.2))/\Below w.heap.size w w':=by
 obtain ⟨a,cap,rfl,_⟩:=id h
 have hb0:Below w.heap.size w (w.alloc (.cells #[.int .i64 n] 3)):=(Below.refl _ _).alloc (Nat.le_refl _) _
 have H:Hid (TermsAt (w.alloc (.cells #[.int .i64 n] 3)) (.slice a l.length cap) l):=h.below hb0
 have HB:Hid (Below w.heap.size w (w.alloc (.cells #[.int .i64 n] 3))):=hb0
 clear h hb0
 go_enter Tryz.func66,Tryz.ntmps66
 go_wp2_with (go_at_call 120;refine (y0v _ l n _ _ H.out (by simp) (by simp)).mono ?_;rintro e w' ⟨rfl,hb⟩)
 go_ret
 exact ⟨rfl,HB.out.trans (hb.mono (by simp))⟩
theorem y0E (c:Md.Cn) (vt vx vb vr:Value) (n:Int) (w:World) (h:CnAt w c vt vx vb vr):Calls Tryz.prog 61 #[yv c vt vx vb vr,.int .i64 n] w fun e w'=>e=.returned (.bool (Md.placesB c n))/\Below w.heap.size w w':=by
 obtain ⟨ta,tc,rfl,_⟩:=id h.t
 obtain ⟨xa,xc,rfl,_⟩:=id h.x
 obtain ⟨ba,bc,rfl,_⟩:=id h.b
 obtain ⟨ra,rc,rfl,_⟩:=id h.r
 unfold yv
 obtain ⟨W,hW⟩:∃ W,(w.alloc (.cells #[.int .i64 c.kind,.int .i64 c.op,.slice ta c.terms.length tc,.int .i64 c.k,.int .i64 c.v,.int .i64 c.x,.int .i64 c.y,.slice xa c.xs.length xc,.slice ba c.table.length bc,.slice ra c.rows.length rc] 61)).alloc (.cells #[.int .i64 n] 3)=W:=⟨_,rfl⟩
 have hb0:Below w.heap.size w W:=by rw [<-hW];exact ((Below.refl _ _).alloc (Nat.le_refl _) _).alloc (by simp) _
 have HT:Hid (TermsAt W (.slice ta c.terms.length tc) c.terms):=h.t.below hb0
 have HX:Hid (IntsAt W (.slice xa c.xs.length xc) c.xs):=h.x.below hb0
 have HB:Hid (Below w.heap.size w W):=hb0
 have c2:W.cell? ⟨w.heap.size,2,none⟩=some (.slice ta c.terms.length tc):=by rw [<-hW];simp
 have c5:W.cell? ⟨w.heap.size,5,none⟩=some (.int .i64 c.x):=by rw [<-hW];simp
 have c6:W.cell? ⟨w.heap.size,6,none⟩=some (.int .i64 c.y):=by rw [<-hW];simp
 have c7:W.cell? ⟨w.heap.size,7,none⟩=some (.slice xa c.xs.length xc):=by rw [<-hW];simp
 have n0:W.cell? ⟨w.heap.size+1,0,none⟩=some (.int .i64 n):=by rw [<-hW];simp
 have hsz:W.heap.size=w.heap.size+1+1:=by rw [<-hW];simp
 have hsI:w.heap.size+1<W.heap.size:=by omega
 have HN:Hid (∀ w1,Below W.heap.size W w1->w1.cell? ⟨w.heap.size+1,0,none⟩=some (.int .i64 n)):=fun w1 hb=>(hb.cell (p:=⟨w.heap.size+1,0,none⟩) hsI).trans n0
 have HC7:Hid (∀ w1,Below W.heap.size W w1->w1.cell? ⟨w.heap.size,7,none⟩=some (.slice xa c.xs.length xc)):=fun w1 hb=>(hb.cell (p:=⟨w.heap.size,7,none⟩) (show w.heap.size<W.heap.size by omega)).trans c7
 clear h hb0 hsz
 have hres:Hid (Md.placesB c n=(Md.plB n c.x&&Md.plB n c.y&&c.terms.all (fun t=>Md.plB n t.2)&&c.xs.all (Md.plB n))):=rfl
 cases p1:Md.plB n c.x
 ·go_enter Tryz.func61,Tryz.ntmps61
  go_wp2_with (first | (go_at_call 117;refine (Yq _ _ _).mono ?_;rintro e w' ⟨rfl,rfl⟩))
  go_ret
  exact ⟨yN (by rw [hres.out];simp [p1]),HB.out⟩
 ·cases p2:Md.plB n c.y
  ·go_enter Tryz.func61,Tryz.ntmps61
   go_wp2_with (first | (go_at_call 117;refine (Yq _ _ _).mono ?_;rintro e w' ⟨rfl,rfl⟩))
   go_ret
   exact ⟨yN (by rw [hres.out];simp [p2]),HB.out⟩
  ·cases p3:c.terms.all (fun t=>Md.plB n t.2)
   ·go_enter Tryz.func61,Tryz.ntmps61
    go_wp2_with (first | (go_at_call 117;refine (Yq _ _ _).mono ?_;rintro e w' ⟨rfl,rfl⟩) | (go_at_call 66;refine (ZU _ c.terms n _ HT.out).mono ?_;rintro e w1 ⟨rfl,hb1⟩))
    go_ret
    exact ⟨yN (by rw [hres.out,p3];simp),HB.out.trans (hb1.mono HB.out.size)⟩
   ·go_enter Tryz.func61,Tryz.ntmps61
    go_wp2_with (first | (go_at_call 117;refine (Yq _ _ _).mono ?_;rintro e w' ⟨rfl,rfl⟩) | (go_at_call 66;refine (ZU _ c.terms n _ HT.out).mono ?_;rintro e w1 ⟨rfl,hb1⟩;have e7:=HC7.out _ hb1) | (go_at_call 118;refine (y0s _ c.xs n _ _ (HX.out.below hb1) (HN.out _ hb1)).mono ?_;rintro e w2 ⟨rfl,rfl⟩))
    go_ret
    exact ⟨yN (by rw [hres.out,p3,p1,p2];simp),HB.out.trans (hb1.mono HB.out.size)⟩
end Go.Proofs.YthohnmplbjhjaaaGreatDoor
