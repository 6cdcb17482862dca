import Derived.Test.YtjgghimjnbjlbaaGreatDoorJ28
import Derived.Test.YtjgghimjnbjlbaaGreatDoorShelf
import Derived.Laws.Externs
import Derived.Laws.Bits64b
namespace Go.Proofs.YtjgghimjnbjlbaaGreatDoor
open Go.RowKit
set_option maxRecDepth 10000
set_option maxHeartbeats 8000000
theorem y2F (x y:Int) (hx:0<=x) (hy:0<=y) (w:World):(callFunc 272 #[.int .u64 x,.int .u64 y,.int .u64 0]).run Tryz.prog w =
    .ok (.value (.tuple #[.int .u64 ((x+y) % 18446744073709551616),.int .u64 ((x+y) / 18446744073709551616)])) w:=by
  rw [run_callFunc_extern Tryz.func272 (by kernel_rfl) (by kernel_rfl) (by kernel_rfl) (e:=add64Entry) (by kernel_rfl),run_add64 x y 0 hx hy (Int.le_refl 0) (by decide)];simp [Result.andThen]
theorem y2G (lo:Nat) (w:World) (h:lo<18446744073709551616) :
    Calls Tryz.prog 273 #[.int .u64 0,.int .u64 (lo:Int),.int .u64 1000000000] w fun e w'=>e=.returned (.tuple #[.int .u64 ((lo / 1000000000:Nat):Int),.int .u64 ((lo % 1000000000:Nat):Int)])/\∃ n,w'=w.drewN n:=by
  obtain ⟨a,ha⟩:∃ a:Int,a=(lo:Int):=⟨_,rfl⟩;have h1:0<=a:=by omega
  have h2:a<=18446744073709551615:=by omega
  have HA:Hid (a=(lo:Int)):=ha;rw [<-ha];clear ha h;go_enter Tryz.func273,Tryz.ntmps273;go_wp2;go_quiet (fail)
  go_wp2;go_ret2;exact ⟨by rw [show ((lo / 1000000000:Nat):Int)=a / 1000000000 from by rw [HA.out];omega,show ((lo % 1000000000:Nat):Int)=a % 1000000000 from by rw [HA.out];omega];rfl,_,rfl⟩
theorem y2H:(64-(Lib.bitLen (1000000000:Int).toNat:Int))=34:=by decide +kernel
theorem y2I (a b:Int) (h1:1<=a) (h2:a<=999999999) (h3:0<=b) (h4:b<=18446744073709551615):bits .or .u64 (a * 17179869184) (b / 1073741824)=a * 17179869184+b / 1073741824:=by
  obtain ⟨x,rfl⟩:=Int.eq_ofNat_of_zero_le (show 0<=a by omega);obtain ⟨y,rfl⟩:=Int.eq_ofNat_of_zero_le h3;have e:((x:Int) * 17179869184)=((x * 17179869184:Nat):Int):=by omega
  have e2:((y:Int) / 1073741824)=((y / 1073741824:Nat):Int):=by omega
  rw [e,e2,bits_or_u64_nat _ _ (by omega) (by omega)];have h5:y / 1073741824<2 ^ 34:=by
    have:(2:Nat) ^ 34=17179869184:=by decide
    omega
  have h6:=Nat.two_pow_add_eq_or_of_lt h5 x;rw [show (2:Nat) ^ 34=17179869184 from by decide,Nat.mul_comm] at h6;rw [<-h6];omega
theorem Qm (v:Nat) (hv:v<18446744073709551616) (h:v % 4294967296=0):bits .and .u64 (v:Int) 4294967295=0:=by
  have h1:=bits_and_u64_nat v 4294967295 hv (by omega);have h2:v &&& 4294967295=v % 4294967296:=by
    have:=Nat.and_two_pow_sub_one_eq_mod v 32;rw [show (2:Nat) ^ 32=4294967296 from by decide] at this;exact this
  rw [h2,h] at h1;exact h1
theorem y2J:bits .and .u64 17179869184000000000 4294967295=0:=Qm 17179869184000000000 (by decide) (by decide)
theorem y2K (b:Int) (h3:0<=b):bits .and .u64 (b % 1073741824 * 17179869184) 4294967295=0:=by
  obtain ⟨y,rfl⟩:=Int.eq_ofNat_of_zero_le h3;have e:((y:Int) % 1073741824 * 17179869184)=((y % 1073741824 * 17179869184:Nat):Int):=by omega
  rw [e];exact Qm _ (by omega) (by omega)
theorem y2L (b:Int):IntKind.u64.wrap (b * 17179869184)=b % 1073741824 * 17179869184:=by
  rw [IntKind.wrap_u64];omega
theorem y2M (a b q r X Q1 R1 Z Q0 R0:Int) (h1:1<=a) (h2:a<=999999999) (h3:0<=b) (h4:b<=18446744073709551615) (hX:X=a * 17179869184+b / 1073741824) (hQ1:Q1=X / 4000000000) (hR1:R1=X-Q1 * 4000000000)
    (hZ:Z=R1 * 4294967296+b % 1073741824 * 4) (hQ0:Q0=Z / 4000000000) (hR0:R0=Z-Q0 * 4000000000) (he:a * 18446744073709551616+b=q * 1000000000+r) (hr0:0<=r) (hr1:r<1000000000) :
    0<=X/\X<=18446744073709551615/\0<=Q1/\Q1<=4294967295/\0<=R1/\R1<=3999999999/\0<=Z/\Z<=18446744073709551615/\0<=Q0/\Q0<=4294967295/\0<=R0/\R0<=3999999999/\Q1 * 4294967296+Q0=q/\R0 / 4=r:=by
  omega
theorem y2N (a b q r X V U Q1 R1 Z Q0 R0:Int) (w:World) (h1:1<=a) (h2:a<=999999999) (_h3:0<=b) (_h4:b<=18446744073709551615)
    (E1:Hid (bits .or .u64 (a * 17179869184) (b / 1073741824)=X)) (E2:Hid (IntKind.u64.wrap (b * 17179869184)=V)) (E3:Hid (bits .and .u64 V 4294967295=0)) (E4:Hid (V / 4294967296=U))
    (E5:Hid (IntKind.u64.wrap (X.tdiv 4000000000)=Q1)) (E6:Hid (IntKind.u64.wrap (X-IntKind.u64.wrap (Q1 * 4000000000))=R1))
    (E7:Hid (IntKind.u64.wrap (IntKind.u64.wrap (IntKind.u64.wrap (X * 4294967296)+U)-IntKind.u64.wrap (Q1 * 17179869184000000000))=Z))
    (E8:Hid (IntKind.u64.wrap (Z.tdiv 4000000000)=Q0)) (E9:Hid (IntKind.u64.wrap (Z-IntKind.u64.wrap (Q0 * 4000000000))=R0))
    (E10:Hid (Q1 * 4294967296+Q0=q)) (E11:Hid (IntKind.u64.wrap (IntKind.u64.wrap (IntKind.u64.wrap (Z * 4294967296))-IntKind.u64.wrap (Q0 * 17179869184000000000)) / 17179869184=r))
    (hU1:0<=U) (hU2:U<=4294967295) (hQ1:0<=Q1) (hQ2:Q1<=4294967295) (hR1:0<=R1) (hR2:R1<=3999999999) (_hX1:0<=X) (_hX2:X<=18446744073709551615)
    (hq1:0<=Q0) (hq2:Q0<=4294967295) (hr1:0<=R0) (hr2:R0<=3999999999) (_hz1:0<=Z) (_hz2:Z<=18446744073709551615) :
    Calls Tryz.prog 273 #[.int .u64 a,.int .u64 b,.int .u64 1000000000] w fun e w'=>e=.returned (.tuple #[.int .u64 q,.int .u64 r])/\∃ n,w'=w.drewN n:=by
  have ha0:(a==0)=false:=by rw [beq_eq_false_iff_ne];omega
  go_enter Tryz.func273,Tryz.ntmps273;go_wp2_with fail
  refine (Tryz.bits_LeadingZeros64 1000000000 _ (by decide) (by decide)).mono ?_;rintro e w' ⟨rfl,rfl⟩;rw [y2H];go_wp2;rw [y2J,E1.out,E2.out,E3.out,E4.out,E5.out,E6.out];go_loop [15,16] (fun qv rv=>qv=.int .u64 Q1/\rv=.int .u64 R1) (fun _ _=>0)
  case atStart=>exact ⟨rfl,rfl⟩
  case round=>
    obtain ⟨rfl,rfl⟩:=hrel;go_wp2;rw [E7.out,E8.out,E9.out];go_loop [18,16] (fun qv rv=>qv=.int .u64 Q0/\rv=.int .u64 R0) (fun _ _=>0)
    case atStart=>exact ⟨rfl,rfl⟩
    case round=>
      obtain ⟨rfl,rfl⟩:=hrel;go_wp2;go_ret2;refine ⟨?_,0,(World.drewN_zero _).symm⟩;rw [<-E10.out,<-E11.out];rfl
theorem Qn (x q:Int) (h0:0<=x) (h1:x<=18446744073709551615) (hq:q=x / 4000000000):IntKind.u64.wrap (x.tdiv 4000000000)=q:=by
  rw [IntKind.wrap_u64,Int.tdiv_eq_ediv_of_nonneg h0];omega
theorem Qo (x q r:Int) (h2:0<=r) (h3:r<=3999999999) (hr:r=x-q * 4000000000):IntKind.u64.wrap (x-IntKind.u64.wrap (q * 4000000000))=r:=by
  rw [IntKind.wrap_u64,IntKind.wrap_u64];omega
theorem y2O (x u q r z:Int) (hr:r=x-q * 4000000000) (hz:z=r * 4294967296+u) (h0:0<=z) (h1:z<=18446744073709551615) :
    IntKind.u64.wrap (IntKind.u64.wrap (IntKind.u64.wrap (x * 4294967296)+u)-IntKind.u64.wrap (q * 17179869184000000000))=z:=by
  rw [IntKind.wrap_u64,IntKind.wrap_u64,IntKind.wrap_u64,IntKind.wrap_u64];omega
theorem y2P (z q r0 r:Int) (hr:r0=z-q * 4000000000) (h0:0<=r0) (h1:r0<=3999999999) (h2:r0 / 4=r) :
    IntKind.u64.wrap (IntKind.u64.wrap (IntKind.u64.wrap (z * 4294967296))-IntKind.u64.wrap (q * 17179869184000000000)) / 17179869184=r:=by
  rw [IntKind.wrap_u64,IntKind.wrap_u64,IntKind.wrap_u64,IntKind.wrap_u64];omega
theorem y2Q (b:Int):b % 1073741824 * 17179869184 / 4294967296=b % 1073741824 * 4:=by omega
theorem y2R (hi lo q r:Nat) (w:World) (h:lo<18446744073709551616) (hh:hi<1000000000) (he:hi * 18446744073709551616+lo=q * 1000000000+r) (hr:r<1000000000) :
    Calls Tryz.prog 273 #[.int .u64 (hi:Int),.int .u64 (lo:Int),.int .u64 1000000000] w fun e w'=>e=.returned (.tuple #[.int .u64 (q:Int),.int .u64 (r:Int)])/\∃ n,w'=w.drewN n:=by
  by_cases h0:hi=0
  · subst h0
    have e1:q=lo / 1000000000:=by omega
    have e2:r=lo % 1000000000:=by omega
    rw [e1,e2];exact y2G lo w h
  · have h1:(1:Int)<=(hi:Int):=by omega
    have h2:(hi:Int)<=999999999:=by omega
    have h3:(0:Int)<=(lo:Int):=by omega
    have h4:(lo:Int)<=18446744073709551615:=by omega
    have he':(hi:Int) * 18446744073709551616+(lo:Int)=(q:Int) * 1000000000+(r:Int):=by omega
    obtain ⟨X,hX⟩:∃ X:Int,X=(hi:Int) * 17179869184+(lo:Int) / 1073741824:=⟨_,rfl⟩;obtain ⟨Q1,hQ1⟩:∃ Q1:Int,Q1=X / 4000000000:=⟨_,rfl⟩;obtain ⟨R1,hR1⟩:∃ R1:Int,R1=X-Q1 * 4000000000:=⟨_,rfl⟩;obtain ⟨Z,hZ⟩:∃ Z:Int,Z=R1 * 4294967296+(lo:Int) % 1073741824 * 4:=⟨_,rfl⟩;obtain ⟨Q0,hQ0⟩:∃ Q0:Int,Q0=Z / 4000000000:=⟨_,rfl⟩;obtain ⟨R0,hR0⟩:∃ R0:Int,R0=Z-Q0 * 4000000000:=⟨_,rfl⟩;obtain ⟨x1,x2,p1,p2,p3,p4,z1,z2,q1,q2,r1,r2,f1,f2⟩:=y2M hi lo q r X Q1 R1 Z Q0 R0 h1 h2 h3 h4 hX hQ1 hR1 hZ hQ0 hR0 he' (by omega) (by omega);have u1:(0:Int)<=(lo:Int) % 1073741824 * 4:=by omega
    have u2:(lo:Int) % 1073741824 * 4<=4294967295:=by omega
    exact y2N hi lo q r X _ _ Q1 R1 Z Q0 R0 w h1 h2 h3 h4 ((y2I _ _ h1 h2 h3 h4).trans hX.symm) (y2L _) (y2K _ h3) (y2Q _) (Qn _ _ x1 x2 hQ1) (Qo _ _ _ p3 p4 hR1)
      (y2O _ _ _ _ _ hR1 hZ z1 z2) (Qn _ _ z1 z2 hQ0) (Qo _ _ _ r1 r2 hR0) f1 (y2P _ _ _ _ hR0 r1 r2 f2) u1 u2 p1 p2 p3 p4 x1 x2 q1 q2 r1 r2 z1 z2
end Go.Proofs.YtjgghimjnbjlbaaGreatDoor
