import Derived.Test.YtjgghimjnbjlbaaGreatDoorJ32
import Derived.Deep.RegionWith
namespace Go.Proofs.YtjgghimjnbjlbaaGreatDoor
open Go.RowKit
set_option maxRecDepth 10000
set_option maxHeartbeats 8000000
open Bn (yj)
def x9 (z:Int):Bool:=decide (-9223372036854775808<=z/\z<=9223372036854775807)
def zF (z:Int):Int:=if x9 z=true then z else 0
theorem y23 {z:Int} (h:Fits z):x9 z=true:=decide_eq_true h
theorem y24 {z:Int} (h:¬ Fits z):x9 z=false:=decide_eq_false h
theorem Q7 (z:Int) (v:Value) (w:World) (h:BigAt w v z) :
    Calls Tryz.prog 245 #[v] w fun e w'=>e=.returned (.bool (decide (z<0)))/\Below w.heap.size w w':=by
  rcases h with ⟨_,rfl⟩ | ⟨_,p,s,rfl,hp,h0,h1,hU⟩
  · exact YC z w
  · have h0':(w.alloc (.cells #[.int .i64 0,.pointer (some ⟨p,0,none⟩)] 275)).cell? ⟨p,0,none⟩=some (.bool (decide (z<0))):=(World.cell?_alloc_past _ _ _ hp).trans h0
    generalize decide (z<0)=d at *
    go_enter Tryz.func245,Tryz.ntmps245;go_wp2;go_ret;exact ⟨rfl,(Below.refl _ _).alloc (Nat.le_refl _) _⟩
theorem y25 (z:Int) (v:Value) (w:World) (h:BigAt w v z) :
    Calls Tryz.prog 236 #[v] w fun e w'=>e=.returned (.tuple #[.int .i64 (zF z),.bool (x9 z)])/\Below w.heap.size w w':=by
  rcases h with ⟨hf,rfl⟩ | ⟨hf,p,s,rfl,hp,h0,h1,hU⟩
  · have e2:x9 z=true:=y23 hf
    have e1:zF z=z:=by unfold zF;rw [if_pos e2]
    rw [e1,e2];exact y26 z w
  · have e2:x9 z=false:=y24 hf
    have e1:zF z=0:=by unfold zF;rw [if_neg (by rw [e2];simp)]
    rw [e1,e2];go_enter Tryz.func236,Tryz.ntmps236;go_wp2;go_ret2;exact ⟨rfl,(Below.refl _ _).alloc (Nat.le_refl _) _⟩
theorem y27 (z:Int) (v:Value) (w:World) (h:BigAt w v z) :
    Calls Tryz.prog 234 #[v] w fun e w'=>e=.returned (.int .i64 z.sign)/\Below w.heap.size w w':=by
  rcases h with ⟨_,rfl⟩ | h
  · exact y28 z w
  · have hz:z≠0:=by rintro rfl;exact h.1 (by unfold Fits;omega)
    obtain ⟨hf,p,s,rfl,hp,h0,h1,hU⟩:=h;have hb0:Below w.heap.size w (w.alloc (.cells #[.int .i64 0,.pointer (some ⟨p,0,none⟩)] 275)):=(Below.refl _ _).alloc (Nat.le_refl _) _;have HB:Hid (BigAt (w.alloc (.cells #[.int .i64 0,.pointer (some ⟨p,0,none⟩)] 275)) (.agg #[.int .i64 0,.pointer (some ⟨p,0,none⟩)]) z):=BigAt.below (.inr ⟨hf,p,s,rfl,hp,h0,h1,hU⟩) hb0;rcases Int.lt_or_gt_of_ne hz with hn | hn
    · have hd:decide (z<0)=true:=by simpa using hn
      clear hf h0 h1 hU;go_enter Tryz.func234,Tryz.ntmps234;go_wp2_with (go_at_call 245;refine (Q7 z _ _ HB.out).mono ?_;rintro e w' ⟨rfl,hb⟩;rw [hd]);go_ret;exact ⟨xT (Int.sign_eq_neg_one_of_neg hn).symm,hb0.trans (hb.mono (by simp))⟩
    · have hd:decide (z<0)=false:=by simp;omega
      clear hf h0 h1 hU;go_enter Tryz.func234,Tryz.ntmps234;go_wp2_with (go_at_call 245;refine (Q7 z _ _ HB.out).mono ?_;rintro e w' ⟨rfl,hb⟩;rw [hd];obtain ⟨hc,hf⟩:=xE hb);go_ret;exact ⟨xT (Int.sign_eq_one_of_pos hn).symm,hb0.trans (hb.mono (by simp))⟩
end Go.Proofs.YtjgghimjnbjlbaaGreatDoor
