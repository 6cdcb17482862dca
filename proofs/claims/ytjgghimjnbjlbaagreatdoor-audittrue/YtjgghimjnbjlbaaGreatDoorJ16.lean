/-
  Put together: MdKinds, MdKindOf.
-/
import Derived.Test.YtjgghimjnbjlbaaGreatDoorJ05
import Derived.Laws.Tables
namespace Go.Proofs.YtjgghimjnbjlbaaGreatDoor
open Go.RowKit
set_option maxRecDepth 10000
set_option maxHeartbeats 8000000
def kindCells:Array Value:=#[.nilFunc,.bool false,.int .i64 0,.int .i64 0,.int .i64 0,.int .i64 0,.nilFunc,
  .func (.func 107) #[] #[],.bool true,.int .i64 64,.int .i64 0,.int .i64 0,.int .i64 0,.func (.func 106) #[] #[],
  .func (.func 109) #[] #[],.bool false,.int .i64 0,.int .i64 0,.int .i64 0,.int .i64 0,.func (.func 108) #[] #[],
  .func (.func 105) #[] #[],.bool false,.int .i64 0,.int .i64 64,.int .i64 0,.int .i64 0,.func (.func 110) #[] #[],
  .func (.func 112) #[] #[],.bool false,.int .i64 0,.int .i64 0,.int .i64 64,.int .i64 0,.func (.func 111) #[] #[],
  .func (.func 104) #[] #[],.bool false,.int .i64 0,.int .i64 64,.int .i64 0,.int .i64 0,.func (.func 113) #[] #[],
  .func (.func 104) #[] #[],.bool false,.int .i64 0,.int .i64 64,.int .i64 0,.int .i64 0,.func (.func 114) #[] #[],
  .func (.func 116) #[] #[],.bool false,.int .i64 64,.int .i64 0,.int .i64 0,.int .i64 0,.func (.func 115) #[] #[],
  .func (.func 105) #[] #[],.bool false,.int .i64 0,.int .i64 8,.int .i64 0,.int .i64 64,.func (.func 117) #[] #[],
  .func (.func 119) #[] #[],.bool true,.int .i64 0,.int .i64 64,.int .i64 0,.int .i64 0,.func (.func 118) #[] #[]]
theorem y49 {P:Program} {ops:Array Oper} {rest:List Oper} {o:Oper} {a:Act} {w:World} {Q:Exit->Act->World->Prop} (hg:o.guard=none) (t:TypeId) (parts:Array (Nat × Operand)) (ho:o.op=.build t parts) (cells:Array Value)
    (hf:P.built t (parts.map fun (i,x)=>(i,a.eval x)).toList=some cells) (h:wpList P ops Q rest (a.put o.dst (.agg cells)) w):wpList P ops Q (o :: rest) a w:=
  wpList_build hg t parts ho (by rw [hf];rfl) (by rw [hf];exact h)
theorem y4a (w:World) (o c:Array Value) (t:TypeId):(w.alloc (.cells o t)).setRow w.heap.size c=w.alloc (.cells c t):=by
  unfold World.setRow World.alloc
  congr 1
  apply Array.ext
  · simp
  · intro i h1 h2
    simp only [Array.getElem_modify,Array.getElem_push]
    split
    · rename_i h;subst h;simp
    · rename_i h
      have hi:i<w.heap.size:=by simp at h2;omega
      simp [hi]
theorem K2:(Tryz.prog.info? 133).map (·.size)=some kindCells.size:=by kernel_rfl
theorem y4b:kindCells.all (·.oneCell')=true:=by kernel_rfl
theorem xt (w:World):Calls Tryz.prog 77 #[] w fun e w'=>e=.returned (.agg kindCells)/\Below w.heap.size w w':=by
  go_enter Tryz.func77,Tryz.ntmps77
  go_wp2_with (first
    | (refine y49 rfl 133 _ rfl kindCells (by kernel_rfl) ?_)
    | (refine wpList_store_row rfl 133 _ _ rfl w.heap.size kindCells rfl rfl 133 _ (heap_alloc_new w _) K2 (by rfl) y4b ?_;rw [y4a]))
  exact bodyPost_ret (v:=.agg kindCells) (results_cell_row (p:=0) (ty:=133) rfl _ _ w.heap.size 133 kindCells (0,0) (.array 10 115) rfl (heap_alloc_new w _) (by kernel_rfl) rfl K2) rfl ⟨rfl,(Below.refl _ _).alloc (Nat.le_refl _) _⟩
end Go.Proofs.YtjgghimjnbjlbaaGreatDoor

namespace Go.Proofs.YtjgghimjnbjlbaaGreatDoor
open Go.RowKit
set_option maxRecDepth 10000
set_option maxHeartbeats 8000000
def yD (o h:Nat) (b:Bool) (m0 m1 m2 m3:Nat):Value:=.agg #[.func (.func o) #[] #[],.bool b,.int .i64 (m0:Int),.int .i64 (m1:Int),.int .i64 (m2:Int),.int .i64 (m3:Int),.func (.func h) #[] #[]]
theorem y3M (k:Int) (w:World) (h:k<1∨9<k):Calls Tryz.prog 61 #[.int .i64 k] w fun e w'=>e=.returned (.tuple #[.agg #[.nilFunc,.bool false,.int .i64 0,.int .i64 0,.int .i64 0,.int .i64 0,.nilFunc],.bool false])/\Below w.heap.size w w':=by
  rcases h with h | h
  · go_enter Tryz.func61,Tryz.ntmps61
    go_wp2;exact bodyPost_ret (v:=.tuple #[.agg #[.nilFunc,.bool false,.int .i64 0,.int .i64 0,.int .i64 0,.int .i64 0,.nilFunc],.bool false]) (by simp [results,Tryz.results61,go_sem]) rfl ⟨rfl,(Below.refl _ _).alloc (Nat.le_refl _) _⟩
  · have h1:¬ k<1:=by omega
    go_enter Tryz.func61,Tryz.ntmps61;go_wp2;exact bodyPost_ret (v:=.tuple #[.agg #[.nilFunc,.bool false,.int .i64 0,.int .i64 0,.int .i64 0,.int .i64 0,.nilFunc],.bool false]) (by simp [results,Tryz.results61,go_sem]) rfl ⟨rfl,(Below.refl _ _).alloc (Nat.le_refl _) _⟩
theorem y40 (w:World):(Instr.index 133 (.agg kindCells) (.int .i64 1)).run Tryz.prog w=.ok (.agg #[.func (.func 107) #[] #[],.bool true,.int .i64 64,.int .i64 0,.int .i64 0,.int .i64 0,.func (.func 106) #[] #[]]) w:=by kernel_rfl
theorem y3x (w:World):Calls Tryz.prog 61 #[.int .i64 1] w fun e w'=>e=.returned (.tuple #[yD 107 106 true 64 0 0 0,.bool true])/\Below w.heap.size w w':=by
  go_enter Tryz.func61,Tryz.ntmps61;go_wp2_with fail
  refine (xt _).mono ?_;rintro e w1 ⟨rfl,hb1⟩;obtain ⟨hc,hf⟩:=zo hb1;have hb2:Below w.heap.size w w1:=((Below.refl _ _).alloc (Nat.le_refl _) _).trans (hb1.mono (by simp));have h0:=(hb1.block w.heap.size (by simp)).trans (heap_alloc_new w _);have hidx:=y40;go_wp2
  exact bodyPost_ret (v:=.tuple #[yD 107 106 true 64 0 0 0,.bool true]) (by simp [results,Tryz.results61,go_sem,yD,World.cell?,World.setCell,Array.getElem?_modify,h0]) rfl ⟨rfl,(((((((hb2).setCell (p:=⟨w.heap.size,0,none⟩) (Nat.le_refl _) _).setCell (p:=⟨w.heap.size,1,none⟩) (Nat.le_refl _) _).setCell (p:=⟨w.heap.size,2,none⟩) (Nat.le_refl _) _).setCell (p:=⟨w.heap.size,3,none⟩) (Nat.le_refl _) _).setCell (p:=⟨w.heap.size,4,none⟩) (Nat.le_refl _) _).setCell (p:=⟨w.heap.size,5,none⟩) (Nat.le_refl _) _).setCell (p:=⟨w.heap.size,6,none⟩) (Nat.le_refl _) _⟩
theorem y41 (w:World):(Instr.index 133 (.agg kindCells) (.int .i64 2)).run Tryz.prog w=.ok (.agg #[.func (.func 109) #[] #[],.bool false,.int .i64 0,.int .i64 0,.int .i64 0,.int .i64 0,.func (.func 108) #[] #[]]) w:=by kernel_rfl
theorem y3z (w:World):Calls Tryz.prog 61 #[.int .i64 2] w fun e w'=>e=.returned (.tuple #[yD 109 108 false 0 0 0 0,.bool true])/\Below w.heap.size w w':=by
  go_enter Tryz.func61,Tryz.ntmps61;go_wp2_with fail
  refine (xt _).mono ?_;rintro e w1 ⟨rfl,hb1⟩;obtain ⟨hc,hf⟩:=zo hb1;have hb2:Below w.heap.size w w1:=((Below.refl _ _).alloc (Nat.le_refl _) _).trans (hb1.mono (by simp));have h0:=(hb1.block w.heap.size (by simp)).trans (heap_alloc_new w _);have hidx:=y41;go_wp2
  exact bodyPost_ret (v:=.tuple #[yD 109 108 false 0 0 0 0,.bool true]) (by simp [results,Tryz.results61,go_sem,yD,World.cell?,World.setCell,Array.getElem?_modify,h0]) rfl ⟨rfl,(((((((hb2).setCell (p:=⟨w.heap.size,0,none⟩) (Nat.le_refl _) _).setCell (p:=⟨w.heap.size,1,none⟩) (Nat.le_refl _) _).setCell (p:=⟨w.heap.size,2,none⟩) (Nat.le_refl _) _).setCell (p:=⟨w.heap.size,3,none⟩) (Nat.le_refl _) _).setCell (p:=⟨w.heap.size,4,none⟩) (Nat.le_refl _) _).setCell (p:=⟨w.heap.size,5,none⟩) (Nat.le_refl _) _).setCell (p:=⟨w.heap.size,6,none⟩) (Nat.le_refl _) _⟩
theorem y42 (w:World):(Instr.index 133 (.agg kindCells) (.int .i64 3)).run Tryz.prog w=.ok (.agg #[.func (.func 105) #[] #[],.bool false,.int .i64 0,.int .i64 64,.int .i64 0,.int .i64 0,.func (.func 110) #[] #[]]) w:=by kernel_rfl
theorem y3B (w:World):Calls Tryz.prog 61 #[.int .i64 3] w fun e w'=>e=.returned (.tuple #[yD 105 110 false 0 64 0 0,.bool true])/\Below w.heap.size w w':=by
  go_enter Tryz.func61,Tryz.ntmps61;go_wp2_with fail
  refine (xt _).mono ?_;rintro e w1 ⟨rfl,hb1⟩;obtain ⟨hc,hf⟩:=zo hb1;have hb2:Below w.heap.size w w1:=((Below.refl _ _).alloc (Nat.le_refl _) _).trans (hb1.mono (by simp));have h0:=(hb1.block w.heap.size (by simp)).trans (heap_alloc_new w _);have hidx:=y42;go_wp2
  exact bodyPost_ret (v:=.tuple #[yD 105 110 false 0 64 0 0,.bool true]) (by simp [results,Tryz.results61,go_sem,yD,World.cell?,World.setCell,Array.getElem?_modify,h0]) rfl ⟨rfl,(((((((hb2).setCell (p:=⟨w.heap.size,0,none⟩) (Nat.le_refl _) _).setCell (p:=⟨w.heap.size,1,none⟩) (Nat.le_refl _) _).setCell (p:=⟨w.heap.size,2,none⟩) (Nat.le_refl _) _).setCell (p:=⟨w.heap.size,3,none⟩) (Nat.le_refl _) _).setCell (p:=⟨w.heap.size,4,none⟩) (Nat.le_refl _) _).setCell (p:=⟨w.heap.size,5,none⟩) (Nat.le_refl _) _).setCell (p:=⟨w.heap.size,6,none⟩) (Nat.le_refl _) _⟩
theorem y43 (w:World):(Instr.index 133 (.agg kindCells) (.int .i64 4)).run Tryz.prog w=.ok (.agg #[.func (.func 112) #[] #[],.bool false,.int .i64 0,.int .i64 0,.int .i64 64,.int .i64 0,.func (.func 111) #[] #[]]) w:=by kernel_rfl
theorem y3C (w:World):Calls Tryz.prog 61 #[.int .i64 4] w fun e w'=>e=.returned (.tuple #[yD 112 111 false 0 0 64 0,.bool true])/\Below w.heap.size w w':=by
  go_enter Tryz.func61,Tryz.ntmps61;go_wp2_with fail
  refine (xt _).mono ?_;rintro e w1 ⟨rfl,hb1⟩;obtain ⟨hc,hf⟩:=zo hb1;have hb2:Below w.heap.size w w1:=((Below.refl _ _).alloc (Nat.le_refl _) _).trans (hb1.mono (by simp));have h0:=(hb1.block w.heap.size (by simp)).trans (heap_alloc_new w _);have hidx:=y43;go_wp2
  exact bodyPost_ret (v:=.tuple #[yD 112 111 false 0 0 64 0,.bool true]) (by simp [results,Tryz.results61,go_sem,yD,World.cell?,World.setCell,Array.getElem?_modify,h0]) rfl ⟨rfl,(((((((hb2).setCell (p:=⟨w.heap.size,0,none⟩) (Nat.le_refl _) _).setCell (p:=⟨w.heap.size,1,none⟩) (Nat.le_refl _) _).setCell (p:=⟨w.heap.size,2,none⟩) (Nat.le_refl _) _).setCell (p:=⟨w.heap.size,3,none⟩) (Nat.le_refl _) _).setCell (p:=⟨w.heap.size,4,none⟩) (Nat.le_refl _) _).setCell (p:=⟨w.heap.size,5,none⟩) (Nat.le_refl _) _).setCell (p:=⟨w.heap.size,6,none⟩) (Nat.le_refl _) _⟩
theorem y44 (w:World):(Instr.index 133 (.agg kindCells) (.int .i64 5)).run Tryz.prog w=.ok (.agg #[.func (.func 104) #[] #[],.bool false,.int .i64 0,.int .i64 64,.int .i64 0,.int .i64 0,.func (.func 113) #[] #[]]) w:=by kernel_rfl
theorem y3E (w:World):Calls Tryz.prog 61 #[.int .i64 5] w fun e w'=>e=.returned (.tuple #[yD 104 113 false 0 64 0 0,.bool true])/\Below w.heap.size w w':=by
  go_enter Tryz.func61,Tryz.ntmps61;go_wp2_with fail
  refine (xt _).mono ?_;rintro e w1 ⟨rfl,hb1⟩;obtain ⟨hc,hf⟩:=zo hb1;have hb2:Below w.heap.size w w1:=((Below.refl _ _).alloc (Nat.le_refl _) _).trans (hb1.mono (by simp));have h0:=(hb1.block w.heap.size (by simp)).trans (heap_alloc_new w _);have hidx:=y44;go_wp2
  exact bodyPost_ret (v:=.tuple #[yD 104 113 false 0 64 0 0,.bool true]) (by simp [results,Tryz.results61,go_sem,yD,World.cell?,World.setCell,Array.getElem?_modify,h0]) rfl ⟨rfl,(((((((hb2).setCell (p:=⟨w.heap.size,0,none⟩) (Nat.le_refl _) _).setCell (p:=⟨w.heap.size,1,none⟩) (Nat.le_refl _) _).setCell (p:=⟨w.heap.size,2,none⟩) (Nat.le_refl _) _).setCell (p:=⟨w.heap.size,3,none⟩) (Nat.le_refl _) _).setCell (p:=⟨w.heap.size,4,none⟩) (Nat.le_refl _) _).setCell (p:=⟨w.heap.size,5,none⟩) (Nat.le_refl _) _).setCell (p:=⟨w.heap.size,6,none⟩) (Nat.le_refl _) _⟩
theorem y45 (w:World):(Instr.index 133 (.agg kindCells) (.int .i64 6)).run Tryz.prog w=.ok (.agg #[.func (.func 104) #[] #[],.bool false,.int .i64 0,.int .i64 64,.int .i64 0,.int .i64 0,.func (.func 114) #[] #[]]) w:=by kernel_rfl
theorem y3F (w:World):Calls Tryz.prog 61 #[.int .i64 6] w fun e w'=>e=.returned (.tuple #[yD 104 114 false 0 64 0 0,.bool true])/\Below w.heap.size w w':=by
  go_enter Tryz.func61,Tryz.ntmps61;go_wp2_with fail
  refine (xt _).mono ?_;rintro e w1 ⟨rfl,hb1⟩;obtain ⟨hc,hf⟩:=zo hb1;have hb2:Below w.heap.size w w1:=((Below.refl _ _).alloc (Nat.le_refl _) _).trans (hb1.mono (by simp));have h0:=(hb1.block w.heap.size (by simp)).trans (heap_alloc_new w _);have hidx:=y45;go_wp2
  exact bodyPost_ret (v:=.tuple #[yD 104 114 false 0 64 0 0,.bool true]) (by simp [results,Tryz.results61,go_sem,yD,World.cell?,World.setCell,Array.getElem?_modify,h0]) rfl ⟨rfl,(((((((hb2).setCell (p:=⟨w.heap.size,0,none⟩) (Nat.le_refl _) _).setCell (p:=⟨w.heap.size,1,none⟩) (Nat.le_refl _) _).setCell (p:=⟨w.heap.size,2,none⟩) (Nat.le_refl _) _).setCell (p:=⟨w.heap.size,3,none⟩) (Nat.le_refl _) _).setCell (p:=⟨w.heap.size,4,none⟩) (Nat.le_refl _) _).setCell (p:=⟨w.heap.size,5,none⟩) (Nat.le_refl _) _).setCell (p:=⟨w.heap.size,6,none⟩) (Nat.le_refl _) _⟩
theorem y46 (w:World):(Instr.index 133 (.agg kindCells) (.int .i64 7)).run Tryz.prog w=.ok (.agg #[.func (.func 116) #[] #[],.bool false,.int .i64 64,.int .i64 0,.int .i64 0,.int .i64 0,.func (.func 115) #[] #[]]) w:=by kernel_rfl
theorem y3G (w:World):Calls Tryz.prog 61 #[.int .i64 7] w fun e w'=>e=.returned (.tuple #[yD 116 115 false 64 0 0 0,.bool true])/\Below w.heap.size w w':=by
  go_enter Tryz.func61,Tryz.ntmps61;go_wp2_with fail
  refine (xt _).mono ?_;rintro e w1 ⟨rfl,hb1⟩;obtain ⟨hc,hf⟩:=zo hb1;have hb2:Below w.heap.size w w1:=((Below.refl _ _).alloc (Nat.le_refl _) _).trans (hb1.mono (by simp));have h0:=(hb1.block w.heap.size (by simp)).trans (heap_alloc_new w _);have hidx:=y46;go_wp2
  exact bodyPost_ret (v:=.tuple #[yD 116 115 false 64 0 0 0,.bool true]) (by simp [results,Tryz.results61,go_sem,yD,World.cell?,World.setCell,Array.getElem?_modify,h0]) rfl ⟨rfl,(((((((hb2).setCell (p:=⟨w.heap.size,0,none⟩) (Nat.le_refl _) _).setCell (p:=⟨w.heap.size,1,none⟩) (Nat.le_refl _) _).setCell (p:=⟨w.heap.size,2,none⟩) (Nat.le_refl _) _).setCell (p:=⟨w.heap.size,3,none⟩) (Nat.le_refl _) _).setCell (p:=⟨w.heap.size,4,none⟩) (Nat.le_refl _) _).setCell (p:=⟨w.heap.size,5,none⟩) (Nat.le_refl _) _).setCell (p:=⟨w.heap.size,6,none⟩) (Nat.le_refl _) _⟩
theorem y47 (w:World):(Instr.index 133 (.agg kindCells) (.int .i64 8)).run Tryz.prog w=.ok (.agg #[.func (.func 105) #[] #[],.bool false,.int .i64 0,.int .i64 8,.int .i64 0,.int .i64 64,.func (.func 117) #[] #[]]) w:=by kernel_rfl
theorem y3I (w:World):Calls Tryz.prog 61 #[.int .i64 8] w fun e w'=>e=.returned (.tuple #[yD 105 117 false 0 8 0 64,.bool true])/\Below w.heap.size w w':=by
  go_enter Tryz.func61,Tryz.ntmps61;go_wp2_with fail
  refine (xt _).mono ?_;rintro e w1 ⟨rfl,hb1⟩;obtain ⟨hc,hf⟩:=zo hb1;have hb2:Below w.heap.size w w1:=((Below.refl _ _).alloc (Nat.le_refl _) _).trans (hb1.mono (by simp));have h0:=(hb1.block w.heap.size (by simp)).trans (heap_alloc_new w _);have hidx:=y47;go_wp2
  exact bodyPost_ret (v:=.tuple #[yD 105 117 false 0 8 0 64,.bool true]) (by simp [results,Tryz.results61,go_sem,yD,World.cell?,World.setCell,Array.getElem?_modify,h0]) rfl ⟨rfl,(((((((hb2).setCell (p:=⟨w.heap.size,0,none⟩) (Nat.le_refl _) _).setCell (p:=⟨w.heap.size,1,none⟩) (Nat.le_refl _) _).setCell (p:=⟨w.heap.size,2,none⟩) (Nat.le_refl _) _).setCell (p:=⟨w.heap.size,3,none⟩) (Nat.le_refl _) _).setCell (p:=⟨w.heap.size,4,none⟩) (Nat.le_refl _) _).setCell (p:=⟨w.heap.size,5,none⟩) (Nat.le_refl _) _).setCell (p:=⟨w.heap.size,6,none⟩) (Nat.le_refl _) _⟩
theorem y48 (w:World):(Instr.index 133 (.agg kindCells) (.int .i64 9)).run Tryz.prog w=.ok (.agg #[.func (.func 119) #[] #[],.bool true,.int .i64 0,.int .i64 64,.int .i64 0,.int .i64 0,.func (.func 118) #[] #[]]) w:=by kernel_rfl
theorem y3J (w:World):Calls Tryz.prog 61 #[.int .i64 9] w fun e w'=>e=.returned (.tuple #[yD 119 118 true 0 64 0 0,.bool true])/\Below w.heap.size w w':=by
  go_enter Tryz.func61,Tryz.ntmps61;go_wp2_with fail
  refine (xt _).mono ?_;rintro e w1 ⟨rfl,hb1⟩;obtain ⟨hc,hf⟩:=zo hb1;have hb2:Below w.heap.size w w1:=((Below.refl _ _).alloc (Nat.le_refl _) _).trans (hb1.mono (by simp));have h0:=(hb1.block w.heap.size (by simp)).trans (heap_alloc_new w _);have hidx:=y48;go_wp2
  exact bodyPost_ret (v:=.tuple #[yD 119 118 true 0 64 0 0,.bool true]) (by simp [results,Tryz.results61,go_sem,yD,World.cell?,World.setCell,Array.getElem?_modify,h0]) rfl ⟨rfl,(((((((hb2).setCell (p:=⟨w.heap.size,0,none⟩) (Nat.le_refl _) _).setCell (p:=⟨w.heap.size,1,none⟩) (Nat.le_refl _) _).setCell (p:=⟨w.heap.size,2,none⟩) (Nat.le_refl _) _).setCell (p:=⟨w.heap.size,3,none⟩) (Nat.le_refl _) _).setCell (p:=⟨w.heap.size,4,none⟩) (Nat.le_refl _) _).setCell (p:=⟨w.heap.size,5,none⟩) (Nat.le_refl _) _).setCell (p:=⟨w.heap.size,6,none⟩) (Nat.le_refl _) _⟩
end Go.Proofs.YtjgghimjnbjlbaaGreatDoor
