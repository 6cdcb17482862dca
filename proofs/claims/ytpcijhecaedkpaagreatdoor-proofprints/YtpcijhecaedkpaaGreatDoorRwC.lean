import Derived.Test.YtpcijhecaedkpaaGreatDoorJ43
import Derived.Test.YtpcijhecaedkpaaGreatDoorJ41
import Derived.Laws.BytesArg
import Derived.Test.YtpcijhecaedkpaaGreatDoorJ36
namespace Go.Proofs.YtpcijhecaedkpaaGreatDoor
open Go.RowKit
def lab0 (R:Nat):Lab:=fun k=>if k=R then 100 else 0
theorem room_new (w:World) (cs:List Value) (hc:cs=List.replicate 28 (.slice none 0 0)):RoomG w.heap.size w.heap.size (lab0 w.heap.size) 0 (w.alloc (.cells cs.toArray 65)):=by
  subst hc;have hn:(w.alloc (.cells (List.replicate 28 (.slice none 0 0)).toArray 65)).heap[w.heap.size]?=some (.cells (List.replicate 28 (.slice none 0 0)).toArray 65 (0,0)):=heap_alloc_new w _;refine ⟨fun _=>[],⟨by simp [lab0],fun k hk=>?_,fun k hk=>?_,by simp,⟨_,_,hn,by simp⟩,fun f hf=>⟨.slice none 0 0,?_,World.ownsRow_nil _ _ _ _,fun g hg=>by simp [Value.ownBlock] at hg⟩⟩,fun f hf=>⟨by simp,rfl⟩,fun f hf _=>rfl,fun f hf i x a h1 _=>by simp at h1⟩
  · have:w.heap.size<k:=by simp at hk;omega
    simp [lab0];omega
  · simp [lab0];omega
  · have h28:(List.replicate 28 (Value.slice none 0 0)).toArray[f]?=some (.slice none 0 0):=by rw [List.getElem?_toArray,List.getElem?_replicate,if_pos hf]
    simp only [World.cell?,hn,h28];rfl
theorem few_of {d:SL} (h:stW d<=200000):Few1 d:=by
  have h1:=len_tot (d.ops.map fun o=>o.2.1);have h2:=len_tot (d.pcs.map fun o=>o.1);have h3:=len_tot d.ids;rw [List.length_map] at h1 h2;unfold stW at h;exact ⟨by omega,by omega,by omega,by omega⟩
end Go.Proofs.YtpcijhecaedkpaaGreatDoor
