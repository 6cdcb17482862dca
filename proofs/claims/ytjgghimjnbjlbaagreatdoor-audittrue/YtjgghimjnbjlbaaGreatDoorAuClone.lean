import Derived.Test.YtjgghimjnbjlbaaGreatDoorJ04
import Derived.Test.YtjgghimjnbjlbaaGreatDoorJ21
import Derived.Lib.SliceRun
namespace Go.Proofs.YtjgghimjnbjlbaaGreatDoor
open Go Go.RowKit
set_option maxRecDepth 10000
set_option maxHeartbeats 8000000
def Zl (l:List Int) (w:World) (e:Ending) (w':World):Prop:=∃ v,e=.returned v/\w'.ownsRow w.heap.size 3 1 v l.length (l.map (.int .i64))/\Below w.heap.size w w'
theorem XI (v:Value) (l:List Int) (w:World) (h:MInts w v l) (hl:l.length<=1000000):Calls Tryz.prog 33 #[v] w (Zl l w):=by
  have q27:∀ (w:World) (a:Option Addr) (n c n' c':Nat),(binOp .eql 27 (.slice a n c) (.slice none n' c')).run Tryz.prog w=.ok (.bool a.isNone) w:=fun w a n c n' c'=>Lib.run_eql_slice_nil w _ _ a n c n' c' Zm
  have hs:=h.src;obtain ⟨a,cap,rfl,hm,hc⟩:=h
  cases a with
  | none =>
    have h0:l=[]:=by
      rcases Nat.eq_zero_or_pos l.length with h | h
      · exact List.length_eq_zero_iff.1 h
      · obtain ⟨b,off,hb,_⟩:=hc h
        cases hb
    subst h0;clear hc hs hm hl;go_enter Tryz.func33,Tryz.ntmps33;go_wp2_with fail
    go_ret;exact ⟨_,rfl,World.ownsRow_nil _ _ _ _,Below.refl _ _⟩
  | some ad =>
    obtain ⟨W,hW⟩:∃ W,w.alloc (.cells #[] 3)=W:=⟨_,rfl⟩;have hbW:Below w.heap.size w W:=bAe hW;have HBW:Hid (Below w.heap.size w W):=hbW;have HO:Hid (W.ownsRow w.heap.size 3 1 (.slice (some ⟨w.heap.size,0,none⟩) 0 0) 0 []):=by
      refine ⟨rfl,.inr ⟨w.heap.size,0,#[],rfl,Nat.le_refl _,?_,Nat.le_refl _,Nat.zero_le _,rfl,rfl⟩⟩;rw [<-hW];exact heap_alloc_new w _
    have HS:Hid (MSrc W (.slice (some ad) l.length cap) l.length 1 (l.map (.int .i64))):=by
      obtain ⟨a2,c2,he,h1,h2,h3,h4⟩:=hs;refine ⟨a2,c2,he,h1,h2,h3,fun ad' ha j u hj=>?_⟩;have:=h4 ad' ha j u hj;exact yA hbW this
    clear hs hc hbW;go_enter Tryz.func33,Tryz.ntmps33
    go_wp2_with (first
      | (at_builtin;refine Y5 W rfl (.tmp 5) (.tmp 6) 27 3 (.int .i64 0) 1 8 rfl Zm XK rfl (by decide) w.heap.size _ _ 0 l.length [] _ (by rfl) (by rfl) HO.out HS.out (by unfold maxLen;omega) (by omega) HBW.out.size ?_;intro v1 w1 ho1 hg1 hn1))
    have HO1:Hid (w1.ownsRow w.heap.size 3 1 v1 l.length (l.map (.int .i64))):=by
      show World.ownsRow _ _ _ _ _ _ _;rw [Nat.zero_add,List.nil_append] at ho1;exact ho1
    have HB1:Hid (Below w.heap.size w w1):=HBW.out.grown hg1 HBW.out.size (fun g hg=>by simp [Value.ownBlock] at hg;omega);clear ho1 hg1 hn1;go_wp2_with fail
    go_ret;exact ⟨_,rfl,HO1.out,HB1.out⟩
end Go.Proofs.YtjgghimjnbjlbaaGreatDoor
