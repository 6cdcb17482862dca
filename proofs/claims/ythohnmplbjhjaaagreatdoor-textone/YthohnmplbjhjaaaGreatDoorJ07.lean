/-
  Put together: MdV1, MdV2, MdV3.
-/
import Derived.Test.YthohnmplbjhjaaaGreatDoorJ04
import Derived.Test.YthohnmplbjhjaaaGreatDoorJ05
import Derived.WalkSmall
import Derived.Test.YthohnmplbjhjaaaGreatDoorJ06
import Derived.Deep.RegionHeld3
import Derived.BigGuardPart
namespace Go.Proofs.YthohnmplbjhjaaaGreatDoor
open Go.RowKit
set_option maxHeartbeats 1000000
set_option maxRecDepth 10000
theorem Ze (n:Int) (w:World):Calls Tryz.prog 111 #[.int .u8 n] w fun e w'=>e=.returned (.bool (Md.digI n))/\w'=w:=by
 go_enter Tryz.func111,Tryz.ntmps111
 go_wp2
 all_goals
  go_ret
  refine ⟨yN ?_,rfl⟩
  unfold Md.digI
  rw [Bool.eq_iff_iff]
  simp <;> omega
theorem ZV (n:Int) (w:World):Calls Tryz.prog 112 #[.int .u8 n] w fun e w'=>e=.returned (.bool (Md.ltrI n))/\w'=w:=by
 go_enter Tryz.func112,Tryz.ntmps112
 go_wp2
 all_goals
  go_ret
  refine ⟨yN ?_,rfl⟩
  unfold Md.ltrI
  rw [Bool.eq_iff_iff]
  simp <;> omega
theorem y1E (s:ByteArray) (k:Nat) (h:k<s.size):s.data.toList.take (k+1)=s.data.toList.take k++[s[k]]:=by
 rw [List.take_succ_eq_append_getElem (by simpa using h)];rfl
theorem Q6 {s:ByteArray} {k:Nat} (h:k<s.size) (ha:(s.data.toList.take k).all Md.wordB=true) (hp:Md.wordB s[k]=true):(s.data.toList.take (k+1)).all Md.wordB=true:=by
 rw [y1E s k h,List.all_append,ha];simp [hp]
theorem y1F {s:ByteArray} {k:Nat} (h:k<s.size) (hp:Md.wordB s[k]=false):Md.nameB s.data.toList=false:=by
 have:s.data.toList.all Md.wordB=false:=by
  rw [List.all_eq_false]
  exact ⟨s[k],by rw [ByteArray.getElem_eq_getElem_data];exact Array.getElem_mem_toList _,by simp [hp]⟩
 simp [Md.nameB,this]
theorem Q7 {s:ByteArray} (h:0<s.size):Md.byteI (s.data.toList.headD 0)=((s[0]).toNat:Int):=by
  have h':0<s.data.toList.length:=by simpa using h
  unfold Md.byteI
  cases hl:s.data.toList with
  | nil=>rw [hl] at h';simp at h'
  | cons a l =>
    have:s[0]=a:=by
      have:s.data.toList[0]'h'=a:=by simp [hl]
      rw [<-this];rfl
    rw [this];rfl
theorem y1G {s:ByteArray} {k:Nat} (h1:1<=s.size) (h16:s.size<=16) (hd:Md.digI ((s[0]).toNat:Int)=false) (ha:(s.data.toList.take k).all Md.wordB=true) (hk:s.size<=k):Md.nameB s.data.toList=true:=by
 rw [List.take_of_length_le (by simpa using hk)] at ha
 have hl:s.data.toList.length=s.size:=by simp
 unfold Md.nameB
 rw [ha,Q7 h1,hd,decide_eq_true (by omega)]
 rfl
theorem y1H {s:ByteArray} (h1:1<=s.size) (hd:Md.digI ((s[0]).toNat:Int)=true):Md.nameB s.data.toList=false:=by
 unfold Md.nameB
 rw [Q7 h1,hd]
 simp
theorem Q8 {s:ByteArray} (h:s.size<1∨16<s.size):Md.nameB s.data.toList=false:=by
 have hl:s.data.toList.length=s.size:=by simp
 unfold Md.nameB
 rw [decide_eq_false (by omega)];rfl
theorem y1I (s:ByteArray) (w:World) (hs:s.size<=maxLen):Calls Tryz.prog 55 #[.string s] w fun e w'=>e=.returned (.bool (Md.nameB s.data.toList))/\w'=w:=by
  unfold maxLen at hs
  by_cases h0:s.size<1
  · have hres:Hid (Md.nameB s.data.toList=false):=Q8 (.inl h0)
    obtain rfl:s=⟨#[]⟩:=by
      obtain ⟨a⟩:=s
      congr 1
      exact Array.eq_empty_of_size_eq_zero (show a.size=0 from by have:(ByteArray.mk a).size=a.size:=rfl;omega)
    go_enter Tryz.func55,Tryz.ntmps55
    go_wp2
    go_ret
    exact ⟨yN hres.out.symm,rfl⟩
  have hne:s.toList.isEmpty=false:=by
    rw [ByteArray.toList_eq]
    have : 0 < s.data.toList.length := by have : s.data.toList.length = s.size := by simp
                                          omega
    cases h:s.data.toList with
    | nil=>rw [h] at this;simp at this
    | cons a l=>rfl
  by_cases h1:16<s.size
  · have hres:Hid (Md.nameB s.data.toList=false):=Q8 (.inr h1)
    have hI:(16:Int)<(s.size:Int):=by omega
    go_enter Tryz.func55,Tryz.ntmps55
    go_wp2
    go_ret
    exact ⟨yN hres.out.symm,rfl⟩
  have hI:¬ (16:Int)<(s.size:Int):=by omega
  have hI0:(0:Int)<(s.size:Int):=by omega
  have h00:0<s.size:=by omega
  cases hd:Md.digI ((s[0]).toNat:Int)
  rotate_left
  · have hres:Hid (Md.nameB s.data.toList=false):=y1H (by omega) hd
    go_enter Tryz.func55,Tryz.ntmps55
    go_wp2_with (go_at_call 111;refine (Ze _ _).mono ?_;rintro e w' ⟨rfl,hww⟩;rw [hww])
    go_ret
    exact ⟨yN hres.out.symm,rfl⟩
  have HD:Hid (Md.digI ((s[0]).toNat:Int)=false):=hd
  go_enter Tryz.func55,Tryz.ntmps55
  go_wp2_with (go_at_call 111;refine (Ze _ _).mono ?_;rintro e w' ⟨rfl,hww⟩;rw [hww])
  clear hd
  go_loop [18] (fun iv=>∃ k:Nat,iv=.int .i64 (k:Int)/\k<=s.size/\Hid ((s.data.toList.take k).all Md.wordB=true)) (fun iv=>s.size-(intOf iv).toNat)
  case atStart=>exact ⟨0,rfl,Nat.zero_le _,(show _=_ by simp)⟩
  case round=>
    obtain ⟨k,rfl,hk,hA⟩:=hrel
    by_cases hlt:k<s.size
    · have hkI:(k:Int)<(s.size:Int):=by omega
      cases hL:Md.ltrI ((s[k]).toNat:Int)
      · cases hG:Md.digI ((s[k]).toNat:Int)
        · have hres:Hid (Md.nameB s.data.toList=false):=y1F hlt (by simp [Md.wordB,Md.byteI,hL,hG])
          go_wp2_with (first | (go_at_call 111;refine (Ze _ _).mono ?_;rintro e w' ⟨rfl,hww⟩;rw [hww]) | (go_at_call 112;refine (ZV _ _).mono ?_;rintro e w' ⟨rfl,hww⟩;rw [hww]))
          go_ret
          exact ⟨yN hres.out.symm,rfl⟩
        · have hres:Hid ((s.data.toList.take (k+1)).all Md.wordB=true):=Q6 hlt hA.out (by simp [Md.wordB,Md.byteI,hG])
          go_wp2_with (first | (go_at_call 111;refine (Ze _ _).mono ?_;rintro e w' ⟨rfl,hww⟩;rw [hww]) | (go_at_call 112;refine (ZV _ _).mono ?_;rintro e w' ⟨rfl,hww⟩;rw [hww]))
          go_round
          case rel=>exact ⟨k+1,by go_num,by omega,hres⟩
          case measure=>simp [intOf];omega
      · have hres:Hid ((s.data.toList.take (k+1)).all Md.wordB=true):=Q6 hlt hA.out (by simp [Md.wordB,Md.byteI,hL])
        go_wp2_with (go_at_call 112;refine (ZV _ _).mono ?_;rintro e w' ⟨rfl,hww⟩;rw [hww])
        go_round
        case rel=>exact ⟨k+1,by go_num,by omega,hres⟩
        case measure=>simp [intOf];omega
    · have hkI:¬ (k:Int)<(s.size:Int):=by omega
      have hres:Hid (Md.nameB s.data.toList=true):=y1G h00 (by omega) HD.out hA.out (by omega)
      go_wp2_with fail
      go_ret
      exact ⟨yN hres.out.symm,rfl⟩
end Go.Proofs.YthohnmplbjhjaaaGreatDoor

namespace Go.Proofs.YthohnmplbjhjaaaGreatDoor
open Go.RowKit
set_option maxHeartbeats 1000000
set_option maxRecDepth 10000
def VarsAt (w:World) (v:Value) (l:List Md.Vr):Prop:=
 ∃ a cap,v=.slice a l.length cap/\l.length<=maxLen/\(∀ x∈l,x.name.size<=maxLen)/\(0<l.length->∃ b off,a=some ⟨b,off,none⟩/\b<w.heap.size /\
  ∀ j (h:j<l.length),w.cell? ⟨b,off+j * 3,none⟩=some (.string l[j].name)/\w.cell? ⟨b,off+j * 3+1,none⟩=some (.int .i64 l[j].lo)/\w.cell? ⟨b,off+j * 3+2,none⟩=some (.int .i64 l[j].hi))
theorem VarsAt.below {w w':World} {v:Value} {l:List Md.Vr} (h:VarsAt w v l) (hb:Below w.heap.size w w'):VarsAt w' v l:=by
 obtain ⟨a,cap,hv,hl,hn,hc⟩:=h
 refine ⟨a,cap,hv,hl,hn,fun h0=>?_⟩
 obtain ⟨b,off,ha,hbs,hcell⟩:=hc h0
 exact ⟨b,off,ha,Nat.lt_of_lt_of_le hbs hb.size,fun j hj=>⟨((zP hb).1 _ _ hbs).trans (hcell j hj).1,((zP hb).1 _ _ hbs).trans (hcell j hj).2.1,((zP hb).1 _ _ hbs).trans (hcell j hj).2.2⟩⟩
theorem VarsAt.form {w:World} {v:Value} {l:List Md.Vr} (h:VarsAt w v l):∃ a cap,v=.slice a l.length cap/\l.length<=maxLen:=by
 obtain ⟨a,cap,hv,hl,_⟩:=h
 exact ⟨a,cap,hv,hl⟩
theorem VarsAt.part {w:World} {a:Option Addr} {n cap:Nat} {l:List Md.Vr} (h:VarsAt w (.slice a n cap) l) (k cap':Nat) (hk:k<=l.length):VarsAt w (.slice a k cap') (l.take k):=by
 obtain ⟨a',c',hv,hl,hn,hc⟩:=h
 injection hv with e1 e2 e3
 subst e1
 have hlen:(l.take k).length=k:=by simp;omega
 refine ⟨a,cap',by rw [hlen],by omega,fun x hx=>hn x (List.mem_of_mem_take hx),fun h0=>?_⟩
 obtain ⟨b,off,ha,hbs,hcell⟩:=hc (by omega)
 refine ⟨b,off,ha,hbs,fun j hj=>?_⟩
 rw [List.getElem_take]
 exact hcell j (by omega)
theorem Md.seen_next {l:List Md.Vr} {s:ByteArray} {k:Nat} (h:k<l.length) (ha:Md.seenB (l.take k) s=false) (hp:(l[k].name.toList==s.toList)=false):Md.seenB (l.take (k+1)) s=false:=by
 unfold Md.seenB at *
 rw [Md.any_next h,ha,hp];rfl
def Ys (v:Md.Vr):Value:=.agg #[.string v.name,.int .i64 v.lo,.int .i64 v.hi]
theorem y1J (v:Md.Vr) (s:ByteArray) (p:Nat) (w:World) (hp:w.cell? ⟨p,0,none⟩=some (.string s)) (hpl:p<w.heap.size) :
  Calls Tryz.prog 54 #[Ys v,.pointer (some ⟨p,0,none⟩)] w fun e w'=>e=.returned (.bool (v.name.toList==s.toList))/\Below w.heap.size w w':=by
 obtain ⟨W,hW⟩:∃ W,w.alloc (.cells #[.string v.name,.int .i64 v.lo,.int .i64 v.hi] 56)=W:=⟨_,rfl⟩
 have hbW:Below w.heap.size w W:=by rw [<-hW];exact (Below.refl _ _).alloc (Nat.le_refl _) _
 have c0:W.cell? ⟨w.heap.size,0,none⟩=some (.string v.name):=by rw [<-hW];simp
 have c1:=(hbW.cell (p:=⟨p,0,none⟩) hpl).trans hp
 have HB:Hid (Below w.heap.size w W):=hbW
 unfold Ys
 clear hbW
 go_enter Tryz.func54,Tryz.ntmps54
 go_wp2
 go_ret
 exact ⟨rfl,HB.out⟩
theorem y1K (va:Value) (l:List Md.Vr) (s:ByteArray) (p:Nat) (w:World) (hv:VarsAt w va l) (hp:w.cell? ⟨p,0,none⟩=some (.string s)) (hpl:p<w.heap.size) :
  Calls Tryz.prog 113 #[va,.func (.func 54) #[] #[.pointer (some ⟨p,0,none⟩)]] w fun e w'=>∃ r:Int,e=.returned (.int .i64 r)/\decide (0<=r)=Md.seenB l s/\Below w.heap.size w w':=by
 have HH:Hid (∀ (w':World) (v:Md.Vr),Below w.heap.size w w'->Calls Tryz.prog 54 #[.agg #[.string v.name,.int .i64 v.lo,.int .i64 v.hi],.pointer (some ⟨p,0,none⟩)] w' fun e w''=>e=.returned (.bool (v.name.toList==s.toList))/\Below w'.heap.size w' w''):=fun w' v hb=>
  y1J v s p w' ((hb.cell (p:=⟨p,0,none⟩) hpl).trans hp) (Nat.lt_of_lt_of_le hpl hb.size)
 obtain ⟨a,cap,rfl,hm,_,hc⟩:=hv
 unfold maxLen at hm
 have HC:Hid (0<l.length->∃ b off,a=some ⟨b,off,none⟩/\b<w.heap.size/\∀ j (h:j<l.length),w.cell? ⟨b,off+j * 3,none⟩=some (.string l[j].name)/\w.cell? ⟨b,off+j * 3+1,none⟩=some (.int .i64 l[j].lo)/\w.cell? ⟨b,off+j * 3+2,none⟩=some (.int .i64 l[j].hi)):=hc
 clear hc hp hpl
 go_enter Tryz.func113,Tryz.ntmps113
 go_wp2
 go_loopw [8] (fun iv wr=>∃ k:Nat,iv=.int .i64 (k:Int)/\k<=l.length/\Hid (Md.seenB (l.take k) s=false)/\Hid (Below w.heap.size w wr)) (fun iv _=>l.length-(intOf iv).toNat)
 case atStart=>exact ⟨0,rfl,Nat.zero_le _,(show _=_ by simp [Md.seenB]),Below.refl _ _⟩
 case round=>
  obtain ⟨k,rfl,hk,hA,hB⟩:=hrel
  by_cases hlt:k<l.length
  ·have hkI:(k:Int)<(l.length:Int):=by omega
   obtain ⟨b,off,rfl,hb,hc⟩:=HC.out (by omega)
   obtain ⟨d0,d1,d2⟩:=hc k hlt
   have e0:=(hB.out.cell (p:=⟨b,off+k * 3,none⟩) hb).trans d0
   have e1:=(hB.out.cell (p:=⟨b,off+k * 3+1,none⟩) hb).trans d1
   have e2:=(hB.out.cell (p:=⟨b,off+k * 3+2,none⟩) hb).trans d2
   have HU:Hid (Calls Tryz.prog 54 #[.agg #[.string l[k].name,.int .i64 l[k].lo,.int .i64 l[k].hi],.pointer (some ⟨p,0,none⟩)] wr fun e w''=>e=.returned (.bool (l[k].name.toList==s.toList))/\Below wr.heap.size wr w''):=HH.out wr l[k] hB.out
   clear hc d0 d1 d2
   cases hp:(l[k].name.toList==s.toList)
   ·have hnx:Hid (Md.seenB (l.take (k+1)) s=false):=Md.seen_next hlt hA.out hp
    rw [hp] at HU
    clear hp
    generalize l[k]=x at *
    go_wp2_with (go_at_call 54;refine cZ HU.out ?_;rintro e w2 ⟨rfl,hb2⟩)
    go_roundw
    case rel=>exact ⟨k+1,by go_num,by omega,hnx,hB.out.trans (hb2.mono hB.out.size)⟩
    case measure=>simp [intOf];omega
   ·have hres:Hid (Md.seenB l s=true):=Md.any_stop hlt hp
    rw [hp] at HU
    clear hp
    generalize l[k]=x at *
    go_wp2_with (go_at_call 54;refine cZ HU.out ?_;rintro e w2 ⟨rfl,hb2⟩)
    go_ret
    exact ⟨_,rfl,by rw [hres.out];simp,hB.out.trans (hb2.mono hB.out.size)⟩
  ·have hkI:¬ (k:Int)<(l.length:Int):=by omega
   have hres:Hid (Md.seenB l s=false):=Md.any_done hA.out (by omega)
   go_wp2
   go_ret
   exact ⟨_,rfl,by rw [hres.out];rfl,hB.out⟩
theorem y1L (va:Value) (l:List Md.Vr) (s:ByteArray) (p:Nat) (w:World) (hv:VarsAt w va l) (hp:w.cell? ⟨p,0,none⟩=some (.string s)) (hpl:p<w.heap.size) :
  Calls Tryz.prog 56 #[va,.func (.func 54) #[] #[.pointer (some ⟨p,0,none⟩)]] w fun e w'=>e=.returned (.bool (Md.seenB l s))/\Below w.heap.size w w':=by
 have H:Hid (Calls Tryz.prog 113 #[va,.func (.func 54) #[] #[.pointer (some ⟨p,0,none⟩)]] w fun e w'=>∃ r:Int,e=.returned (.int .i64 r)/\decide (0<=r)=Md.seenB l s/\Below w.heap.size w w'):=y1K va l s p w hv hp hpl
 obtain ⟨a,cap,rfl,hm⟩:=hv.form
 clear hv hp hpl
 go_enter Tryz.func56,Tryz.ntmps56
 go_wp2_with (go_at_call 113;refine cZ H.out ?_;rintro e w2 ⟨r,rfl,hr,hb2⟩;have HR:Hid (decide (0<=r)=Md.seenB l s):=hr;clear hr)
 go_ret
 exact ⟨yN HR.out,hb2⟩
end Go.Proofs.YthohnmplbjhjaaaGreatDoor

namespace Go.Proofs.YthohnmplbjhjaaaGreatDoor
open Go.RowKit
theorem y1M {v:Md.Vr} {l:List Md.Vr} (h:Md.nameB v.name.data.toList=false):Md.varFault v l=41:=by simp [Md.varFault,h]
theorem y1N {v:Md.Vr} {l:List Md.Vr} (h:Md.seenB l v.name=true):Md.varFault v l=41:=by simp [Md.varFault,h]
theorem y1O {v:Md.Vr} {l:List Md.Vr} (h1:Md.nameB v.name.data.toList=true) (h2:Md.seenB l v.name=false) (h:Md.boundsB v.lo v.hi=false):Md.varFault v l=42:=by simp [Md.varFault,h,h1,h2]
theorem y1P {v:Md.Vr} {l:List Md.Vr} (h1:Md.nameB v.name.data.toList=true) (h2:Md.seenB l v.name=false) (h:Md.boundsB v.lo v.hi=true):Md.varFault v l=0:=by simp [Md.varFault,h,h1,h2]
set_option maxRecDepth 10000 in
set_option maxHeartbeats 2000000 in
theorem y1Q (v:Md.Vr) (va:Value) (l:List Md.Vr) (w:World) (hs:v.name.size<=maxLen) (hv:VarsAt w va l):Calls Tryz.prog 33 #[Ys v,va] w fun e w'=>e=.returned (.int .i64 (Md.varFault v l))/\Below w.heap.size w w':=by
 obtain ⟨W,hW⟩:∃ W,w.alloc (.cells #[.string v.name,.int .i64 v.lo,.int .i64 v.hi] 56)=W:=⟨_,rfl⟩
 have hbW:Below w.heap.size w W:=by rw [<-hW];exact (Below.refl _ _).alloc (Nat.le_refl _) _
 have hsz:W.heap.size=w.heap.size+1:=by rw [<-hW];simp
 have c0:W.cell? ⟨w.heap.size,0,none⟩=some (.string v.name):=by rw [<-hW];simp
 have c1:W.cell? ⟨w.heap.size,1,none⟩=some (.int .i64 v.lo):=by rw [<-hW];simp
 have c2:W.cell? ⟨w.heap.size,2,none⟩=some (.int .i64 v.hi):=by rw [<-hW];simp
 have HB:Hid (Below w.heap.size w W):=hbW
 have HN:Hid (∀ w',Calls Tryz.prog 55 #[.string v.name] w' fun e w''=>e=.returned (.bool (Md.nameB v.name.data.toList))/\w''=w'):=fun w'=>y1I v.name w' hs
 have HS:Hid (Calls Tryz.prog 56 #[va,.func (.func 54) #[] #[.pointer (some ⟨w.heap.size,0,none⟩)]] W fun e w'=>e=.returned (.bool (Md.seenB l v.name))/\Below W.heap.size W w'):=y1L va l v.name w.heap.size W (hv.below hbW) c0 (by omega)
 obtain ⟨a,cap,rfl,_⟩:=hv.form
 have hlt:w.heap.size<W.heap.size:=by omega
 have HL:Hid (w.heap.size<W.heap.size):=hlt
 unfold Ys
 clear hv hbW hsz
 cases h1:Md.nameB v.name.data.toList
 ·have hres:Hid (Md.varFault v l=41):=y1M h1
  rw [h1] at HN
  clear h1
  go_enter Tryz.func33,Tryz.ntmps33
  go_wp2_with (go_at_call 55;refine (HN.out _).mono ?_;rintro e w' ⟨rfl,hww⟩;rw [hww];clear hww)
  go_ret
  exact ⟨yB hres.out.symm,HB.out⟩
 have H1:Hid (Md.nameB v.name.data.toList=true):=h1
 rw [h1] at HN
 clear h1
 cases h2:Md.seenB l v.name
 rotate_left
 ·have hres:Hid (Md.varFault v l=41):=y1N h2
  rw [h2] at HS
  clear h2
  go_enter Tryz.func33,Tryz.ntmps33
  go_wp2_with (first | (go_at_call 55;refine (HN.out _).mono ?_;rintro e w' ⟨rfl,hww⟩;rw [hww];clear hww) | (go_at_call 56;refine cZ HS.out ?_;rintro e w1 ⟨rfl,hb1⟩))
  go_ret
  exact ⟨yB hres.out.symm,HB.out.trans (hb1.mono HB.out.size)⟩
 have H2:Hid (Md.seenB l v.name=false):=h2
 rw [h2] at HS
 clear h2
 have Hb:Hid (Md.boundsB v.lo v.hi=(Md.numB v.lo&&Md.numB v.hi&&decide (v.lo<=v.hi/\v.hi-v.lo<64))):=rfl
 have HR:Hid (∀ b,Md.boundsB v.lo v.hi=b->Md.varFault v l=if b then 0 else 42):=fun b hb=>by
  cases b
  ·exact y1O H1.out H2.out hb
  ·exact y1P H1.out H2.out hb
 have HC:Hid (∀ w',Below W.heap.size W w'->w'.cell? ⟨w.heap.size,0,none⟩=some (.string v.name)/\w'.cell? ⟨w.heap.size,1,none⟩=some (.int .i64 v.lo)/\w'.cell? ⟨w.heap.size,2,none⟩=some (.int .i64 v.hi)):=fun w' hb=>⟨(hb.cell (p:=⟨w.heap.size,0,none⟩) HL.out).trans c0,(hb.cell (p:=⟨w.heap.size,1,none⟩) HL.out).trans c1,(hb.cell (p:=⟨w.heap.size,2,none⟩) HL.out).trans c2⟩
 go_enter Tryz.func33,Tryz.ntmps33
 go_wp2_with (first | (go_at_call 55;refine (HN.out _).mono ?_;rintro e w' ⟨rfl,hww⟩;rw [hww];clear hww) | fail)
 refine cZ HS.out ?_
 rintro e w1 ⟨rfl,hb1⟩
 have HB1:Hid (Below w.heap.size w w1):=HB.out.trans (hb1.mono HB.out.size)
 clear c0 c1 c2
 obtain ⟨c0,c1,c2⟩:=HC.out _ hb1
 clear hb1
 cases n1:Md.numB v.lo
 ·have hres:Hid (Md.varFault v l=42):=HR.out false (by rw [Hb.out,n1];rfl)
  go_wp2_with (go_at_call 57;refine (ze _ _).mono ?_;rintro e w' ⟨rfl,hww⟩;rw [hww];clear hww)
  go_ret
  exact ⟨yB hres.out.symm,HB1.out⟩
 cases n2:Md.numB v.hi
 ·have hres:Hid (Md.varFault v l=42):=HR.out false (by rw [Hb.out,n1,n2];rfl)
  go_wp2_with (go_at_call 57;refine (ze _ _).mono ?_;rintro e w' ⟨rfl,hww⟩;rw [hww];clear hww)
  go_ret
  exact ⟨yB hres.out.symm,HB1.out⟩
 have Hb2:Hid (Md.boundsB v.lo v.hi=decide (v.lo<=v.hi/\v.hi-v.lo<64)):=by show _=_;rw [Hb.out,n1,n2];rfl
 have a1:-1000000000<=v.lo/\v.lo<=1000000000:=by simpa [Md.numB] using n1
 have a2:-1000000000<=v.hi/\v.hi<=1000000000:=by simpa [Md.numB] using n2
 obtain ⟨a3,a4⟩:=a1
 obtain ⟨a5,a6⟩:=a2
 by_cases hle:v.lo<=v.hi
 ·by_cases hd:v.hi-v.lo<64
  ·have hres:Hid (Md.varFault v l=0):=HR.out true (by rw [Hb2.out];exact decide_eq_true ⟨hle,hd⟩)
   have hle':¬ v.hi<v.lo:=by omega
   have hd':¬ 64<=v.hi-v.lo:=by omega
   go_wp2_with (go_at_call 57;refine (ze _ _).mono ?_;rintro e w' ⟨rfl,hww⟩;rw [hww];clear hww)
   all_goals first
    | (go_ret;exact ⟨yB hres.out.symm,HB1.out⟩)
    | (exfalso;omega)
  ·have hres:Hid (Md.varFault v l=42):=HR.out false (by rw [Hb2.out];exact decide_eq_false (fun h=>hd h.2))
   have hle':¬ v.hi<v.lo:=by omega
   have hd':64<=v.hi-v.lo:=by omega
   go_wp2_with (go_at_call 57;refine (ze _ _).mono ?_;rintro e w' ⟨rfl,hww⟩;rw [hww];clear hww)
   all_goals first
    | (go_ret;exact ⟨yB hres.out.symm,HB1.out⟩)
    | (exfalso;omega)
 ·have hres:Hid (Md.varFault v l=42):=HR.out false (by rw [Hb2.out];exact decide_eq_false (fun h=>hle h.1))
  have hle':v.hi<v.lo:=by omega
  go_wp2_with (go_at_call 57;refine (ze _ _).mono ?_;rintro e w' ⟨rfl,hww⟩;rw [hww];clear hww)
  go_ret
  exact ⟨yB hres.out.symm,HB1.out⟩
end Go.Proofs.YthohnmplbjhjaaaGreatDoor
