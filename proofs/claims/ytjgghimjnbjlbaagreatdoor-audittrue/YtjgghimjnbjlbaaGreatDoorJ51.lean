/-
  Put together: PfSame, AwKinds.
-/
import Derived.Test.YtjgghimjnbjlbaaGreatDoorJ04
import Derived.Test.YtjgghimjnbjlbaaGreatDoorJ42
import Derived.Test.YtjgghimjnbjlbaaGreatDoorJ36
import Derived.Test.YtjgghimjnbjlbaaGreatDoorJ37
import Derived.ChangeKeysEq
import Derived.Laws.StructEq
namespace Go.Proofs.YtjgghimjnbjlbaaGreatDoor
open Go.RowKit
def RdAt (w:World) (v:Value) (n:Nat) (xs:List Value):Prop:=∃ a cap,v=.slice a n cap/\n<=9223372036854775807/\(0<n->∃ g off,a=some ⟨g,off,none⟩/\g<w.heap.size/\∀ j u,xs[j]?=some u->w.cell? ⟨g,off+j,none⟩=some u)
theorem y1S {w:World} {B:Nat} {e:TypeId} {m:Nat} {v:Value} {n:Nat} {xs:List Value} (h:w.ownsRow B e m v n xs) (hn:n<=9223372036854775807):RdAt w v n xs:=by
  have hc:=fun g hg=>h.cells (g:=g) hg
  rcases h.2 with ⟨rfl,rfl⟩ | ⟨g,cap,cur,rfl,_,hg,_⟩
  · exact ⟨none,0,rfl,hn,fun h0=>absurd h0 (Nat.lt_irrefl _)⟩
  · refine ⟨_,_,rfl,hn,fun _=>⟨g,0,rfl,(hLt hg),fun j u hu=>?_⟩⟩
    have:=hc g rfl j u hu
    by_cases hj:j=0
    · subst hj;simpa [Addr.add] using this
    · simpa [Addr.add,hj] using this
theorem y1T {w:World} {B:Nat} {e:TypeId} {m:Nat} {v:Value} {n:Nat} {xs:List Value} (h:w.ownsRow B e m v n xs):n<=9223372036854775807:=by
  rcases h.2 with ⟨_,rfl⟩ | ⟨_,cap,_,_,_,_,h1,h2,_⟩
  · omega
  · unfold maxLen at h2;omega
theorem RdAt.at {w:World} {a:Option Addr} {n c:Nat} {xs:List Value} (h:RdAt w (.slice a n c) n xs) (i:Nat) (hi:i<n):∃ g off,a=some ⟨g,off,none⟩/\∀ j u,xs[j]?=some u->w.cell? ⟨g,off+j,none⟩=some u:=by
  obtain ⟨a',c',h1,_,h3⟩:=h;injection h1 with q1 q2 q3;subst q1;obtain ⟨g,off,e1,_,e3⟩:=h3 (by omega);exact ⟨g,off,e1,e3⟩
end Go.Proofs.YtjgghimjnbjlbaaGreatDoor

namespace Go.Proofs.YtjgghimjnbjlbaaGreatDoor
open Go.RowKit
theorem y1M:∀ f∈formsL,0<=f.1/\f.1<13:=by
  intro f hf;simp only [formsL,List.mem_cons,List.not_mem_nil,or_false] at hf
  rcases hf with rfl | rfl | rfl | rfl | rfl | rfl | rfl | rfl | rfl | rfl | rfl | rfl <;> exact ⟨by decide,by decide⟩
theorem y1N (s:Ls):0<=(zn formsL rdF s).1/\(zn formsL rdF s).1<13:=by
  unfold zn
  split
  case h_1 f h=>exact y1M f (List.mem_of_find?_eq_some h)
  case h_2=>exact ⟨Int.le_refl 0,(by decide:(0:Int)<13)⟩
theorem y1O (x:List UInt8):0<=(gd x).k/\(gd x).k<13:=by
  have hk:=y1N (x,none);unfold gd xC
  split
  · exact ⟨Int.le_refl 0,(by decide:(0:Int)<13)⟩
  · unfold xD
    split
    · exact ⟨(by decide:(0:Int)<=7),(by decide:(7:Int)<13)⟩
    · exact hk
end Go.Proofs.YtjgghimjnbjlbaaGreatDoor
