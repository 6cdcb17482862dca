/-
  Put together: RoHi, RoH.
-/
import Derived.Test.YtpcijhecaedkpaaGreatDoorJ36
import Derived.WalkSmall
namespace Go.Proofs.YtpcijhecaedkpaaGreatDoor
open Go.RowKit
set_option maxRecDepth 10000
set_option maxHeartbeats 8000000
theorem holdInts_any (base R:Nat) (S:Lab) (N:Nat) (F:Nat->List Value) (w:World) (hF:RoomF base R S N F w) (hN:N<=1000000) :
    Calls Tryz.prog 62 #[.pointer (some ⟨R,0,none⟩)] w fun e w'=>e=.returned (.bool true)/\Below w.heap.size w w':=by
  have hR:=hF.room;obtain ⟨v0,hv0,ho0,_⟩:=hR.field 0 (by decide);obtain ⟨v1,hv1,ho1,_⟩:=hR.field 1 (by decide);have hlen:(F 0).length<=1000000:=Nat.le_trans (hF.len 0 (by decide)).1 hN;have hl:(F 0).length=(F 1).length:=(hF.len 0 (by decide)).2.symm;have HG:Hid (∀ (i:Nat) (x a:Value),(F 0)[i]?=some x->(F 1)[i]?=some a->Ent S w 0 x a):=fun i x a h1 h2=>hF.ent 0 (by decide) i x a h1 h2
  have hRl:=hR.lt;obtain ⟨X,hX⟩:∃ X,F 0=X:=⟨_,rfl⟩;obtain ⟨A,hA⟩:∃ A,F 1=A:=⟨_,rfl⟩;rw [hX] at HG ho0 hlen hl;rw [hA] at HG ho1 hl;obtain ⟨xa,xc,rfl⟩:=own_formS ho0;obtain ⟨aa,ac,rfl⟩:=own_formS ho1;have HOX:Hid (∀ i (hi:i<X.length),∃ g,xa=some ⟨g,0,none⟩/\w.cell? ⟨g,i,none⟩=some X[i]):=fun i hi=>row_cellR ho0 i hi
  have HOA:Hid (∀ i (hi:i<A.length),∃ g,aa=some ⟨g,0,none⟩/\w.cell? ⟨g,i,none⟩=some A[i]):=fun i hi=>row_cellR ho1 i hi
  rw [<-hl] at hv1;have HLE:Hid (X.length=A.length):=hl;clear hR hF ho0 ho1 hX hA hl;go_enter Tryz.func62,Tryz.ntmps62;go_wp2_with fail
  go_loopw [3] (fun iv wr=>∃ k:Nat,iv=.int .i64 (k:Int)/\k<=X.length/\Hid (Below w.heap.size w wr)) (fun iv _=>X.length-(intOf iv).toNat)
  case atStart=>exact ⟨0,rfl,Nat.zero_le _,Below.refl _ _⟩
  case round=>
    obtain ⟨k,rfl,hk,hB⟩:=hrel;have r0:=(hB.out.cell (p:=⟨R,0,none⟩) hRl).trans hv0;have r1:=(hB.out.cell (p:=⟨R,1,none⟩) hRl).trans hv1
    by_cases hlt:k<X.length
    · have hkI:(k:Int)<(X.length:Int):=by omega
      have hltA:k<A.length:=by have:=HLE.out;omega
      obtain ⟨gx,rfl,hcx⟩:=HOX.out k hlt;obtain ⟨ga,rfl,hca⟩:=HOA.out k hltA;obtain ⟨b,n,room,cap,hx,ha,hn,hroom,hcap,_,hbl,hmark⟩:=HG.out k _ _ (List.getElem?_eq_getElem hlt) (List.getElem?_eq_getElem hltA);rw [hx] at hcx;rw [ha] at hca;have hgx:=World.block_lt_of_cell? w _ hcx;have hga:=World.block_lt_of_cell? w _ hca;have s0:=(hB.out.cell (p:=⟨gx,k,none⟩) hgx).trans hcx;have s1:=(hB.out.cell (p:=⟨ga,k,none⟩) hga).trans hca;have HMK:Hid (∀ j,j<room->w.cell? ⟨b,n+j,none⟩=some (.int .i64 (lotI j))):=fun j hj=>by have h:=hmark j hj 0 _ rfl;simpa [esz] using h
      have HS0:Hid (∀ w',Below w.heap.size w w'->w'.cell? ⟨gx,k,none⟩=some (.slice (some ⟨b,0,none⟩) (n+room) cap)):=fun w' hb=>(hb.cell (p:=⟨gx,k,none⟩) hgx).trans hcx
      clear hx ha hcx hca hmark;go_wp2_with fail
      go_loopw [5] (fun jv wq=>∃ j:Nat,jv=.int .i64 ((n:Int)+(j:Int))/\j<=room/\Hid (Below w.heap.size w wq)) (fun jv _=>n+room-(intOf jv).toNat)
      case atStart=>exact ⟨0,by simp,Nat.zero_le _,hB⟩
      case round=>
        obtain ⟨j,rfl,hj,hQ⟩:=hrel;clear s0 s1 r0 r1;have r0:=(hQ.out.cell (p:=⟨R,0,none⟩) hRl).trans hv0;have s0:=HS0.out _ hQ.out
        by_cases hjl:j<room
        · have hjI:(n:Int)+(j:Int)<(n:Int)+(room:Int):=by omega
          have hbd:(n:Int)+(j:Int)<=1000100:=by omega
          have hc0:=HMK.out j hjl;have hw0:=(hQ.out.cell (p:=⟨b,n+j,none⟩) hbl).trans hc0;clear hc0;have hsub:(n:Int)+(j:Int)-(n:Int)=(j:Int):=by omega
          have HLOT:Hid (∀ w',Calls Tryz.prog 121 #[.int .i64 (j:Int)] w' fun e w''=>e=.returned (.int .i64 (lotI j))/\w''=w'):=fun w'=>lot_any j w'
          generalize lotI j=y at *
          go_wp2_with (go_at_call 121;refine calls_at (HLOT.out _) (by first | (with_reducible rfl) | (simp [hsub])) (by with_reducible rfl) ?_;rintro e w' ⟨rfl,hww⟩;rw [hww]);go_roundw
          case rel=>exact ⟨j+1,by go_num,by omega,hQ⟩
          case measure=>simp [intOf];omega
        · have hjI:¬ (n:Int)+(j:Int)<(n:Int)+(room:Int):=by omega
          go_wp2_with fail
          go_roundw
          case rel=>exact ⟨k+1,by go_num,by omega,hQ⟩
          case measure=>simp [intOf];omega
    · have hkI:¬ (k:Int)<(X.length:Int):=by omega
      go_wp2_with fail
      go_ret;exact ⟨rfl,hB.out⟩
end Go.Proofs.YtpcijhecaedkpaaGreatDoor

namespace Go.Proofs.YtpcijhecaedkpaaGreatDoor
open Go.RowKit
set_option maxRecDepth 10000
set_option maxHeartbeats 8000000
theorem RoomF.next {base R:Nat} {S:Lab} {N:Nat} {F:Nat->List Value} {w w1 w2:World} (h:RoomF base R S N F w1/\Below w.heap.size w w1) (hb:Below w1.heap.size w1 w2):RoomF base R S N F w2/\Below w.heap.size w w2:=
  ⟨h.1.below hb,h.2.trans (hb.mono h.2.size)⟩
theorem hold_any (base R:Nat) (S:Lab) (N:Nat) (w:World) (hG:RoomG base R S N w) (hN:N<=1000000):Calls Tryz.prog 20 #[.pointer (some ⟨R,0,none⟩)] w fun e w'=>e=.returned (.bool true)/\Below w.heap.size w w':=by
  obtain ⟨F,h⟩:=hG;have K0:Hid (RoomF base R S N F w/\Below w.heap.size w w):=⟨h,Below.refl _ _⟩;clear h;go_enter Tryz.func20,Tryz.ntmps20
  go_wp2_with (first
    | (go_at_call 62;refine calls_at (holdInts_any base R S N F _ K0.out.1 hN) (by with_reducible rfl) (by with_reducible rfl) ?_;rintro e w1 ⟨rfl,hb⟩;have K1:Hid (RoomF base R S N F w1/\Below w.heap.size w w1):=RoomF.next K0.out hb;clear hb)
    | (go_at_call 63;refine calls_at (holdTexts_any base R S N F _ K1.out.1 hN) (by with_reducible rfl) (by with_reducible rfl) ?_;rintro e w2 ⟨rfl,hb⟩;have K2:Hid (RoomF base R S N F w2/\Below w.heap.size w w2):=RoomF.next K1.out hb;clear hb)
    | (go_at_call 64;refine calls_at (hold64 base R S N F _ K2.out.1) (by with_reducible rfl) (by with_reducible rfl) ?_;rintro e w3 ⟨rfl,hb⟩;have K3:Hid (RoomF base R S N F w3/\Below w.heap.size w w3):=RoomF.next K2.out hb;clear hb)
    | (go_at_call 65;refine calls_at (hold65 base R S N F _ K3.out.1) (by with_reducible rfl) (by with_reducible rfl) ?_;rintro e w4 ⟨rfl,hb⟩;have K4:Hid (RoomF base R S N F w4/\Below w.heap.size w w4):=RoomF.next K3.out hb;clear hb)
    | (go_at_call 66;refine calls_at (holdPieces_any base R S N F _ K4.out.1 hN) (by with_reducible rfl) (by with_reducible rfl) ?_;rintro e w5 ⟨rfl,hb⟩;have K5:Hid (RoomF base R S N F w5/\Below w.heap.size w w5):=RoomF.next K4.out hb;clear hb)
    | (go_at_call 67;refine calls_at (holdOps_any base R S N F _ K5.out.1 hN) (by with_reducible rfl) (by with_reducible rfl) ?_;rintro e w6 ⟨rfl,hb⟩;have K6:Hid (RoomF base R S N F w6/\Below w.heap.size w w6):=RoomF.next K5.out hb;clear hb)
    | (go_at_call 68;refine calls_at (hold68 base R S N F _ K6.out.1) (by with_reducible rfl) (by with_reducible rfl) ?_;rintro e w7 ⟨rfl,hb⟩;have K7:Hid (RoomF base R S N F w7/\Below w.heap.size w w7):=RoomF.next K6.out hb;clear hb)
    | (go_at_call 69;refine calls_at (hold69 base R S N F _ K7.out.1) (by with_reducible rfl) (by with_reducible rfl) ?_;rintro e w8 ⟨rfl,hb⟩;have K8:Hid (RoomF base R S N F w8/\Below w.heap.size w w8):=RoomF.next K7.out hb;clear hb)
    | (go_at_call 70;refine calls_at (hold70 base R S N F _ K8.out.1) (by with_reducible rfl) (by with_reducible rfl) ?_;rintro e w9 ⟨rfl,hb⟩;have K9:Hid (RoomF base R S N F w9/\Below w.heap.size w w9):=RoomF.next K8.out hb;clear hb)
    | (go_at_call 71;refine calls_at (hold71 base R S N F _ K9.out.1) (by with_reducible rfl) (by with_reducible rfl) ?_;rintro e w10 ⟨rfl,hb⟩;have K10:Hid (RoomF base R S N F w10/\Below w.heap.size w w10):=RoomF.next K9.out hb;clear hb)
    | (go_at_call 72;refine calls_at (hold72 base R S N F _ K10.out.1) (by with_reducible rfl) (by with_reducible rfl) ?_;rintro e w11 ⟨rfl,hb⟩;have K11:Hid (RoomF base R S N F w11/\Below w.heap.size w w11):=RoomF.next K10.out hb;clear hb)
    | (go_at_call 73;refine calls_at (holdSteps_any base R S N F _ K11.out.1 hN) (by with_reducible rfl) (by with_reducible rfl) ?_;rintro e w12 ⟨rfl,hb⟩;have K12:Hid (RoomF base R S N F w12/\Below w.heap.size w w12):=RoomF.next K11.out hb;clear hb)
    | (go_at_call 74;refine calls_at (hold74 base R S N F _ K12.out.1) (by with_reducible rfl) (by with_reducible rfl) ?_;rintro e w13 ⟨rfl,hb⟩;have K13:Hid (RoomF base R S N F w13/\Below w.heap.size w w13):=RoomF.next K12.out hb;clear hb)
    | (go_at_call 75;refine calls_at (hold75 base R S N F _ K13.out.1) (by with_reducible rfl) (by with_reducible rfl) ?_;rintro e w14 ⟨rfl,hb⟩;have K14:Hid (RoomF base R S N F w14/\Below w.heap.size w w14):=RoomF.next K13.out hb;clear hb))
  go_ret;exact ⟨rfl,K14.out.2⟩
end Go.Proofs.YtpcijhecaedkpaaGreatDoor
