import Derived.Test.YtjnckfchgcmmpaaGreatDoorDmCut
import Derived.Test.YtjnckfchgcmmpaaGreatDoorJ26
import Derived.Test.YtjnckfchgcmmpaaGreatDoorMdSrc
namespace Go.Proofs.YtjnckfchgcmmpaaGreatDoor
open Go.RowKit
theorem und57:Tryz.prog.underlying 66=some (.slice 73):=by kernel_rfl
theorem info67b:(Tryz.prog.info? 73).map (fun i=>(i.zero,i.size,i.bytes))=some (some (.agg #[.int .i64 0,.int .u32 0,.int .u32 0]),3,16):=by kernel_rfl
theorem own_slice {w:World} {B:Nat} {e:TypeId} {size:Nat} {v:Value} {n:Nat} {xs:List Value} (h:w.ownsRow B e size v n xs):∃ a cap,v=.slice a n cap:=by
  rcases h.2 with ⟨rfl,hn⟩ | ⟨g,cap,cur,rfl,_⟩
  · exact ⟨none,0,by rw [hn]⟩
  · exact ⟨_,cap,rfl⟩
theorem dms_one (L:List Dm):∀ u∈dms L,u.oneCell'=true:=by
  intro u hu;unfold dms at hu;rw [List.mem_flatMap] at hu;obtain ⟨d,_,hu⟩:=hu;simp only [Dm.cells,List.mem_cons,List.not_mem_nil,or_false] at hu
  rcases hu with rfl | rfl | rfl <;> rfl
theorem row_src {w:World} {B:Nat} {e:TypeId} {v:Value} {L:List Dm} (h:w.ownsRow B e 3 v L.length (dms L)):SrcAt w v L.length 3 (dms L):=by
  rcases h.2 with ⟨rfl,hn⟩ | ⟨g,cap,cur,rfl,_,e3,_,_,_,e7⟩
  · exact ⟨none,0,by rw [hn],by rw [dms_len],dms_one L,(fun _=>hn),fun ad ha=>by cases ha⟩
  · refine ⟨_,cap,rfl,by rw [dms_len],dms_one L,(fun hn=>by cases hn),fun ad ha j u hj=>?_⟩
    injection ha with ha;subst ha;rw [addr_none,Nat.zero_add,cell_of e3];have hj2:j<L.length*3:=by
      have:=(List.getElem?_eq_some_iff.1 hj).1
      rwa [dms_len] at this
    have:(cur.toList.take (L.length*3))[j]?=some u:=by rw [e7];exact hj
    rw [List.getElem?_take,if_pos hj2] at this;simpa using this
theorem row_kept {w w':World} {B:Nat} {e:TypeId} {size:Nat} {v:Value} {n:Nat} {xs:List Value} (h:w.ownsRow B e size v n xs) (hk:∀ g,v.ownBlock=some g->w'.heap[g]?=w.heap[g]?):w'.ownsRow B e size v n xs:=by
  obtain ⟨h1,h2⟩:=h;refine ⟨h1,?_⟩;rcases h2 with h2 | ⟨g,cap,cur,e1,e2,e3,e4⟩
  · exact .inl h2
  · exact .inr ⟨g,cap,cur,e1,e2,(hk g (by rw [e1];rfl)).trans e3,e4⟩
theorem row_lt {w:World} {B:Nat} {e:TypeId} {size:Nat} {v:Value} {n:Nat} {xs:List Value} (h:w.ownsRow B e size v n xs) {g:Nat} (hg:v.ownBlock=some g):B<=g/\g<w.heap.size:=h.lt g hg
theorem dms_append (L M:List Dm):dms (L++M)=dms L++dms M:=by simp [dms]
end Go.Proofs.YtjnckfchgcmmpaaGreatDoor
