import Derived.Test.YthohnmplbjhjaaaGreatDoorJ14
import Derived.Test.YthohnmplbjhjaaaGreatDoorShelf
import Derived.Laws.RangeAny
import Derived.Deep.RegionWith
import Derived.WalkMore
namespace Go.Proofs.YthohnmplbjhjaaaGreatDoor
open Go.RowKit
set_option maxHeartbeats 2000000
set_option maxRecDepth 10000
def vr (r:Int):Bool:=decide (r<55296)||(decide (57343<r)&&decide (r<=1114111))
theorem y22 (r:Int) (w:World) (h:128<=r):Calls Tryz.prog 178 #[.int .i32 r] w fun e w'=>e=.returned (.bool (vr r))/\w'=w:=by
 have h0:(0:Int)<=r:=by omega
 unfold vr
 by_cases h1:r<55296
 ·have e1:decide (r<55296)=true:=decide_eq_true h1
  rw [e1]
  clear e1
  go_enter Tryz.func178,Tryz.ntmps178
  go_wp2
  go_ret
  exact ⟨rfl,rfl⟩
 ·have e1:decide (r<55296)=false:=decide_eq_false h1
  rw [e1]
  clear e1
  by_cases h2:57343<r
  ·by_cases h3:r<=1114111
   ·have e2:decide (57343<r)=true:=decide_eq_true h2
    have e3:decide (r<=1114111)=true:=decide_eq_true h3
    rw [e2,e3]
    clear e2 e3
    go_enter Tryz.func178,Tryz.ntmps178
    go_wp2
    go_ret
    exact ⟨rfl,rfl⟩
   ·have e2:decide (57343<r)=true:=decide_eq_true h2
    have e3:decide (r<=1114111)=false:=decide_eq_false h3
    rw [e2,e3]
    clear e2 e3
    go_enter Tryz.func178,Tryz.ntmps178
    go_wp2
    go_ret
    exact ⟨rfl,rfl⟩
  ·have e2:decide (57343<r)=false:=decide_eq_false h2
   rw [e2]
   clear e2
   go_enter Tryz.func178,Tryz.ntmps178
   go_wp2
   go_ret
   exact ⟨rfl,rfl⟩
theorem y1V (s:ByteArray) (pos k:Nat) (h0:0<k) (hk:k<(Utf8.decode s pos).2):pos+k<s.size/\128<=(s.get! (pos+k)).toNat:=by
 revert hk
 simp only [Utf8.decode]
 repeat' split
 all_goals (try (intro hk;exfalso;simp at hk;omega))
 all_goals intro hk
 all_goals rename_i hc hv
 all_goals simp only [Bool.and_eq_true,beq_iff_eq,decide_eq_true_eq] at hc
 all_goals simp only at hk
 ·have:k=1:=by omega
  subst this
  exact ⟨hc.2.1,by omega⟩
 ·rcases (by omega:k=1∨k=2) with e | e <;> subst e
  ·exact ⟨hc.1.2.1,by omega⟩
  ·exact ⟨hc.2.1,by omega⟩
 ·rcases (by omega:k=1∨k=2∨k=3) with e | e | e <;> subst e
  ·exact ⟨hc.1.1.2.1,by omega⟩
  ·exact ⟨hc.1.2.1,by omega⟩
  ·exact ⟨hc.2.1,by omega⟩
theorem ofNat_toNat {n:Nat} (h:n<256):(UInt8.ofNat n).toNat=n:=by simp;omega
theorem y23 (r:Int) (h:128<=r) (hv:vr r=true):(∃ a b:UInt8,Utf8.encode r=⟨#[a,b]⟩/\128<=b.toNat)∨3<=(Utf8.encode r).size:=by
 unfold vr at hv
 simp only [Bool.or_eq_true,Bool.and_eq_true,decide_eq_true_eq] at hv
 have hval:Utf8.valid r=true:=by unfold Utf8.valid;simp;omega
 unfold Utf8.encode
 simp only [hval,if_true]
 have h1:¬ r.toNat<128:=by omega
 rw [if_neg h1]
 by_cases h2:r.toNat<2048
 ·rw [if_pos h2]
  refine .inl ⟨_,_,rfl,?_⟩
  rw [ofNat_toNat (by omega)]
  omega
 ·rw [if_neg h2]
  right
  split <;> simp [ByteArray.size]
theorem y24 (w:World) (n:Nat):Below w.heap.size w (w.drewN n):=⟨rfl,rfl,rfl,Nat.le_refl _,fun _ _=>rfl⟩
theorem y25 (r:Int):(Utf8.encode r).size<=4:=by
 unfold Utf8.encode
 simp only
 repeat' split
 all_goals first | exact (show 1<=4 by omega) | exact (show 2<=4 by omega) | exact (show 3<=4 by omega) | exact (show 4<=4 by omega)
theorem y1X (r:Int) (w:World) (h:128<=r) (h2:r<=2147483647):Calls Tryz.prog 145 #[.string blS,.int .i32 r] w fun e w'=>e=.returned (.int .i64 (-1))/\Below w.heap.size w w':=by
  have h0:(0:Int)<=r:=by omega
  have h1:¬ r<128:=by omega
  unfold blS
  by_cases he:r=65533
  · subst he
    go_enter Tryz.func145,Tryz.ntmps145
    go_wp2_with fail
    go_loopg [5,6] 2 (fun g _ _ wx=>∃ i:Nat,i+g=2/\wx=w.iter ⟨#[32,9]⟩ i)
    case atStart=>exact ⟨0,by omega,rfl⟩
    case round=>
      obtain ⟨i,hig,rfl⟩:=hrel
      cases gk with
      | zero =>
        obtain rfl:i=2:=by omega
        have hnx:=run_next_end (P:=Tryz.prog) w ⟨#[32,9]⟩ 2
        go_wp2
        go_ret
        exact ⟨rfl,(Below.refl _ _).alloc (Nat.le_refl _) _⟩
      | succ g =>
        rcases (by omega:i=0∨i=1) with e | e
        · subst e
          have hnx:=fun ty=>run_next_ascii (P:=Tryz.prog) w ⟨#[32,9]⟩ 0 ty (by decide) (by decide)
          go_wp2
          go_roundg g
          case measure=>omega
          case rel=>exact ⟨1,by omega,rfl⟩
        · subst e
          have hnx:=fun ty=>run_next_ascii (P:=Tryz.prog) w ⟨#[32,9]⟩ 1 ty (by decide) (by decide)
          go_wp2
          go_roundg g
          case measure=>omega
          case rel=>exact ⟨2,by omega,rfl⟩
  · have heq:(r==65533)=false:=by simpa using he
    have HV:Hid (Calls Tryz.prog 178 #[.int .i32 r] w fun e w'=>e=.returned (.bool (vr r))/\w'=w):=y22 r w h
    cases hv:vr r with
    | false =>
      rw [hv] at HV
      go_enter Tryz.func145,Tryz.ntmps145
      go_wp2_with fail
      refine cZ HV.out ?_
      rintro e w' ⟨rfl,hww⟩
      rw [hww]
      clear hww
      go_wp2_with fail
      go_ret
      exact ⟨rfl,Below.refl _ _⟩
    | true =>
      have HE:=y23 r h hv
      rw [hv] at HV
      go_enter Tryz.func145,Tryz.ntmps145
      go_wp2_with fail
      refine cZ HV.out ?_
      rintro e w' ⟨rfl,hww⟩
      rw [hww]
      clear hww
      go_wp2_with fail
      go_step3
      go_wp2_with fail
      rcases HE with ⟨a,b,hE,hb⟩ | h3
      · rw [hE]
        have hz:(ByteArray.mk #[a,b]).size=2:=rfl
        have hw:wrap64 (((ByteArray.mk #[a,b]).size:Int)-1)=1:=by rw [hz];unfold wrap64;omega
        rw [hw]
        have hb9:((9:Int)==(b.toNat:Int))=false:=by simp;omega
        have x0:∀ hh,((ByteArray.mk #[32,9])[1]'hh).toNat=9:=fun _=>rfl
        have x1:∀ hh,(ByteArray.mk #[a,b])[1]'hh=b:=fun _=>rfl
        have hb8:((9:Int) != (b.toNat:Int))=true:=by simp;omega
        have hb7:¬ (9:Int)=(b.toNat:Int):=by omega
        have HX:Hid (∀ w',Calls Tryz.prog 177 #[.string ByteArray.empty,.int .u8 b.toNat] w' fun e w2=>e=.returned (.int .i64 (-1))/\w2=w'):=fun w'=>(Tryz.strings_IndexByte ⟨#[]⟩ (b.toNat:Int) w').mono fun e w2 h=>h
        refine wp_loop_rounds 1 ?_
        rw [rounds_succ]
        go_wp2_with fail
        go_step3
        go_wp2_with fail
        go_quiet (fail)
        try simp only [x0,x1]
        go_wp2_with fail
        go_region_with (go_at_call 177;refine cZ (HX.out _) ?_;rintro e w2 ⟨rfl,hw2⟩;rw [hw2])
        all_goals go_wp2_with fail
        all_goals simp only [Exit.noGoto,Exit.inBlock,Exit.then]
        all_goals (go_ret;exact ⟨rfl,by first | exact Below.refl _ _ | exact (Below.refl _ _).drewN _ | exact y24 _ _⟩)
      · have hw:wrap64 (((Utf8.encode r).size:Int)-1)=((Utf8.encode r).size:Int)-1:=by
          have h4:=y25 r
          unfold wrap64
          omega
        rw [hw]
        have h3I:¬ ((Utf8.encode r).size:Int)-1<2:=by omega
        refine wp_loop_rounds 1 ?_
        rw [rounds_succ]
        go_wp2_with fail
        go_ret
        exact ⟨rfl,Below.refl _ _⟩
end Go.Proofs.YthohnmplbjhjaaaGreatDoor
