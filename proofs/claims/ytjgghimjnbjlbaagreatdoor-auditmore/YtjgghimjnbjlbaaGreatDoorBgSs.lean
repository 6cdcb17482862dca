import Derived.Test.YtjgghimjnbjlbaaGreatDoorJ32
import Derived.Deep.RegionWith
namespace Go.Proofs.YtjgghimjnbjlbaaGreatDoor
open Go.RowKit
set_option maxRecDepth 10000
set_option maxHeartbeats 8000000
open Bn (limbs)
def smallB (z:Int):Bool:=decide (-9223372036854775808<=z/\z<=9223372036854775807)
def smallV (z:Int):Int:=if smallB z=true then z else 0
theorem smallB_yes {z:Int} (h:Fits z):smallB z=true:=decide_eq_true h
theorem smallB_no {z:Int} (h:¬ Fits z):smallB z=false:=decide_eq_false h
theorem negative_big (z:Int) (v:Value) (w:World) (h:BigAt w v z) :
    Calls Tryz.prog 245 #[v] w fun e w'=>e=.returned (.bool (decide (z<0)))/\Below w.heap.size w w':=by
  rcases h with ⟨_,rfl⟩ | ⟨_,p,s,rfl,hp,h0,h1,hU⟩
  · exact negative_int z w
  · have h0':(w.alloc (.cells #[.int .i64 0,.pointer (some ⟨p,0,none⟩)] 275)).cell? ⟨p,0,none⟩=some (.bool (decide (z<0))):=(World.cell?_alloc_past _ _ _ hp).trans h0
    generalize decide (z<0)=d at *
    go_enter Tryz.func245,Tryz.ntmps245;go_wp2;go_ret;exact ⟨rfl,(Below.refl _ _).alloc (Nat.le_refl _) _⟩
theorem small_big (z:Int) (v:Value) (w:World) (h:BigAt w v z) :
    Calls Tryz.prog 236 #[v] w fun e w'=>e=.returned (.tuple #[.int .i64 (smallV z),.bool (smallB z)])/\Below w.heap.size w w':=by
  rcases h with ⟨hf,rfl⟩ | ⟨hf,p,s,rfl,hp,h0,h1,hU⟩
  · have e2:smallB z=true:=smallB_yes hf
    have e1:smallV z=z:=by unfold smallV;rw [if_pos e2]
    rw [e1,e2];exact small_int z w
  · have e2:smallB z=false:=smallB_no hf
    have e1:smallV z=0:=by unfold smallV;rw [if_neg (by rw [e2];simp)]
    rw [e1,e2];go_enter Tryz.func236,Tryz.ntmps236;go_wp2;go_ret2;exact ⟨rfl,(Below.refl _ _).alloc (Nat.le_refl _) _⟩
theorem sign_big (z:Int) (v:Value) (w:World) (h:BigAt w v z) :
    Calls Tryz.prog 234 #[v] w fun e w'=>e=.returned (.int .i64 z.sign)/\Below w.heap.size w w':=by
  rcases h with ⟨_,rfl⟩ | h
  · exact sign_int z w
  · have hz:z≠0:=by rintro rfl;exact h.1 (by unfold Fits;omega)
    obtain ⟨hf,p,s,rfl,hp,h0,h1,hU⟩:=h;have hb0:Below w.heap.size w (w.alloc (.cells #[.int .i64 0,.pointer (some ⟨p,0,none⟩)] 275)):=(Below.refl _ _).alloc (Nat.le_refl _) _;have HB:Hid (BigAt (w.alloc (.cells #[.int .i64 0,.pointer (some ⟨p,0,none⟩)] 275)) (.agg #[.int .i64 0,.pointer (some ⟨p,0,none⟩)]) z):=BigAt.below (.inr ⟨hf,p,s,rfl,hp,h0,h1,hU⟩) hb0;rcases Int.lt_or_gt_of_ne hz with hn | hn
    · have hd:decide (z<0)=true:=by simpa using hn
      clear hf h0 h1 hU;go_enter Tryz.func234,Tryz.ntmps234;go_wp2_with (go_at_call 245;refine (negative_big z _ _ HB.out).mono ?_;rintro e w' ⟨rfl,hb⟩;rw [hd]);go_ret;exact ⟨ret_int (Int.sign_eq_neg_one_of_neg hn).symm,hb0.trans (hb.mono (by simp))⟩
    · have hd:decide (z<0)=false:=by simp;omega
      clear hf h0 h1 hU;go_enter Tryz.func234,Tryz.ntmps234;go_wp2_with (go_at_call 245;refine (negative_big z _ _ HB.out).mono ?_;rintro e w' ⟨rfl,hb⟩;rw [hd];obtain ⟨hc,hf⟩:=bcell hb);go_ret;exact ⟨ret_int (Int.sign_eq_one_of_pos hn).symm,hb0.trans (hb.mono (by simp))⟩
end Go.Proofs.YtjgghimjnbjlbaaGreatDoor
