/-
  Put together: MdKinds, MdKindOf.
-/
import Derived.Test.YthohnmplbjhjaaaGreatDoorJ06
import Derived.Laws.Tables
namespace Go.Proofs.YthohnmplbjhjaaaGreatDoor
open Go.RowKit
def kindCells:Array Value:=#[.nilFunc,.bool false,.int .i64 0,.int .i64 0,.int .i64 0,.int .i64 0,.nilFunc,
 .func (.func 151) #[] #[],.bool true,.int .i64 64,.int .i64 0,.int .i64 0,.int .i64 0,.func (.func 150) #[] #[],
 .func (.func 153) #[] #[],.bool false,.int .i64 0,.int .i64 0,.int .i64 0,.int .i64 0,.func (.func 152) #[] #[],
 .func (.func 149) #[] #[],.bool false,.int .i64 0,.int .i64 64,.int .i64 0,.int .i64 0,.func (.func 154) #[] #[],
 .func (.func 156) #[] #[],.bool false,.int .i64 0,.int .i64 0,.int .i64 64,.int .i64 0,.func (.func 155) #[] #[],
 .func (.func 148) #[] #[],.bool false,.int .i64 0,.int .i64 64,.int .i64 0,.int .i64 0,.func (.func 157) #[] #[],
 .func (.func 148) #[] #[],.bool false,.int .i64 0,.int .i64 64,.int .i64 0,.int .i64 0,.func (.func 158) #[] #[],
 .func (.func 160) #[] #[],.bool false,.int .i64 64,.int .i64 0,.int .i64 0,.int .i64 0,.func (.func 159) #[] #[],
 .func (.func 149) #[] #[],.bool false,.int .i64 0,.int .i64 8,.int .i64 0,.int .i64 64,.func (.func 161) #[] #[],
 .func (.func 163) #[] #[],.bool true,.int .i64 0,.int .i64 64,.int .i64 0,.int .i64 0,.func (.func 162) #[] #[]]
theorem Yp {P:Program} {ops:Array Oper} {rest:List Oper} {o:Oper} {a:Act} {w:World} {Q:Exit->Act->World->Prop} (hg:o.guard=none) (t:TypeId) (parts:Array (Nat × Operand)) (ho:o.op=.build t parts) (cells:Array Value)
  (hf:P.built t (parts.map fun (i,x)=>(i,a.eval x)).toList=some cells) (h:wpList P ops Q rest (a.put o.dst (.agg cells)) w):wpList P ops Q (o :: rest) a w:=
 wpList_build hg t parts ho (by rw [hf];rfl) (by rw [hf];exact h)
theorem Y6 (w:World) (o c:Array Value) (t:TypeId):(w.alloc (.cells o t)).setRow w.heap.size c=w.alloc (.cells c t):=by
 unfold World.setRow World.alloc
 congr 1
 apply Array.ext
 ·simp
 ·intro i h1 h2
  simp only [Array.getElem_modify,Array.getElem_push]
  split
  ·rename_i h;subst h;simp
  ·rename_i h
   have hi:i<w.heap.size:=by simp at h2;omega
   simp [hi]
theorem XL:(Tryz.prog.info? 156).map (·.size)=some kindCells.size:=by kernel_rfl
theorem y1f:kindCells.all (·.oneCell')=true:=by kernel_rfl
set_option maxRecDepth 10000 in
set_option maxHeartbeats 400000 in
theorem xH (w:World):Calls Tryz.prog 114 #[] w fun e w'=>e=.returned (.agg kindCells)/\Below w.heap.size w w':=by
 go_enter Tryz.func114,Tryz.ntmps114
 go_wp2_with (first
  | (refine Yp rfl 156 _ rfl kindCells (by kernel_rfl) ?_)
  | (refine wpList_store_row rfl 156 _ _ rfl w.heap.size kindCells rfl rfl 156 _ (heap_alloc_new w _) XL (by rfl) y1f ?_;rw [Y6]))
 exact bodyPost_ret (v:=.agg kindCells) (results_cell_row (p:=0) (ty:=156) rfl _ _ w.heap.size 156 kindCells (0,0) (.array 10 132) rfl (heap_alloc_new w _) (by kernel_rfl) rfl XL) rfl ⟨rfl,(Below.refl _ _).alloc (Nat.le_refl _) _⟩
end Go.Proofs.YthohnmplbjhjaaaGreatDoor

namespace Go.Proofs.YthohnmplbjhjaaaGreatDoor
open Go.RowKit
set_option maxRecDepth 10000
set_option maxHeartbeats 400000
def yV (o h:Nat) (b:Bool) (m0 m1 m2 m3:Nat):Value:=.agg #[.func (.func o) #[] #[],.bool b,.int .i64 (m0:Int),.int .i64 (m1:Int),.int .i64 (m2:Int),.int .i64 (m3:Int),.func (.func h) #[] #[]]
theorem y0Y (k:Int) (w:World) (h:k<1∨9<k):Calls Tryz.prog 58 #[.int .i64 k] w fun e w'=>e=.returned (.tuple #[.agg #[.nilFunc,.bool false,.int .i64 0,.int .i64 0,.int .i64 0,.int .i64 0,.nilFunc],.bool false])/\Below w.heap.size w w':=by
 rcases h with h | h
 ·go_enter Tryz.func58,Tryz.ntmps58
  go_wp2
  exact bodyPost_ret (v:=.tuple #[.agg #[.nilFunc,.bool false,.int .i64 0,.int .i64 0,.int .i64 0,.int .i64 0,.nilFunc],.bool false]) (by simp [results,Tryz.results58,go_sem]) rfl ⟨rfl,(Below.refl _ _).alloc (Nat.le_refl _) _⟩
 ·have h1:¬ k<1:=by omega
  go_enter Tryz.func58,Tryz.ntmps58
  go_wp2
  exact bodyPost_ret (v:=.tuple #[.agg #[.nilFunc,.bool false,.int .i64 0,.int .i64 0,.int .i64 0,.int .i64 0,.nilFunc],.bool false]) (by simp [results,Tryz.results58,go_sem]) rfl ⟨rfl,(Below.refl _ _).alloc (Nat.le_refl _) _⟩
theorem y16 (w:World):(Instr.index 156 (.agg kindCells) (.int .i64 1)).run Tryz.prog w=.ok (.agg #[.func (.func 151) #[] #[],.bool true,.int .i64 64,.int .i64 0,.int .i64 0,.int .i64 0,.func (.func 150) #[] #[]]) w:=by kernel_rfl
theorem y0B (w:World):Calls Tryz.prog 58 #[.int .i64 1] w fun e w'=>e=.returned (.tuple #[yV 151 150 true 64 0 0 0,.bool true])/\Below w.heap.size w w':=by
 go_enter Tryz.func58,Tryz.ntmps58
 go_wp2_with fail
 refine (xH _).mono ?_
 rintro e w1 ⟨rfl,hb1⟩
 obtain ⟨hc,hf⟩:=zL hb1
 have hb2:Below w.heap.size w w1:=((Below.refl _ _).alloc (Nat.le_refl _) _).trans (hb1.mono (by simp))
 have h0:=(hb1.block w.heap.size (by simp)).trans (heap_alloc_new w _)
 have hidx:=y16
 go_wp2
 exact bodyPost_ret (v:=.tuple #[yV 151 150 true 64 0 0 0,.bool true]) (by simp [results,Tryz.results58,go_sem,yV,World.cell?,World.setCell,Array.getElem?_modify,h0]) rfl ⟨rfl,(((((((hb2).setCell (p:=⟨w.heap.size,0,none⟩) (Nat.le_refl _) _).setCell (p:=⟨w.heap.size,1,none⟩) (Nat.le_refl _) _).setCell (p:=⟨w.heap.size,2,none⟩) (Nat.le_refl _) _).setCell (p:=⟨w.heap.size,3,none⟩) (Nat.le_refl _) _).setCell (p:=⟨w.heap.size,4,none⟩) (Nat.le_refl _) _).setCell (p:=⟨w.heap.size,5,none⟩) (Nat.le_refl _) _).setCell (p:=⟨w.heap.size,6,none⟩) (Nat.le_refl _) _⟩
theorem y17 (w:World):(Instr.index 156 (.agg kindCells) (.int .i64 2)).run Tryz.prog w=.ok (.agg #[.func (.func 153) #[] #[],.bool false,.int .i64 0,.int .i64 0,.int .i64 0,.int .i64 0,.func (.func 152) #[] #[]]) w:=by kernel_rfl
theorem y0E (w:World):Calls Tryz.prog 58 #[.int .i64 2] w fun e w'=>e=.returned (.tuple #[yV 153 152 false 0 0 0 0,.bool true])/\Below w.heap.size w w':=by
 go_enter Tryz.func58,Tryz.ntmps58
 go_wp2_with fail
 refine (xH _).mono ?_
 rintro e w1 ⟨rfl,hb1⟩
 obtain ⟨hc,hf⟩:=zL hb1
 have hb2:Below w.heap.size w w1:=((Below.refl _ _).alloc (Nat.le_refl _) _).trans (hb1.mono (by simp))
 have h0:=(hb1.block w.heap.size (by simp)).trans (heap_alloc_new w _)
 have hidx:=y17
 go_wp2
 exact bodyPost_ret (v:=.tuple #[yV 153 152 false 0 0 0 0,.bool true]) (by simp [results,Tryz.results58,go_sem,yV,World.cell?,World.setCell,Array.getElem?_modify,h0]) rfl ⟨rfl,(((((((hb2).setCell (p:=⟨w.heap.size,0,none⟩) (Nat.le_refl _) _).setCell (p:=⟨w.heap.size,1,none⟩) (Nat.le_refl _) _).setCell (p:=⟨w.heap.size,2,none⟩) (Nat.le_refl _) _).setCell (p:=⟨w.heap.size,3,none⟩) (Nat.le_refl _) _).setCell (p:=⟨w.heap.size,4,none⟩) (Nat.le_refl _) _).setCell (p:=⟨w.heap.size,5,none⟩) (Nat.le_refl _) _).setCell (p:=⟨w.heap.size,6,none⟩) (Nat.le_refl _) _⟩
theorem y18 (w:World):(Instr.index 156 (.agg kindCells) (.int .i64 3)).run Tryz.prog w=.ok (.agg #[.func (.func 149) #[] #[],.bool false,.int .i64 0,.int .i64 64,.int .i64 0,.int .i64 0,.func (.func 154) #[] #[]]) w:=by kernel_rfl
theorem y0H (w:World):Calls Tryz.prog 58 #[.int .i64 3] w fun e w'=>e=.returned (.tuple #[yV 149 154 false 0 64 0 0,.bool true])/\Below w.heap.size w w':=by
 go_enter Tryz.func58,Tryz.ntmps58
 go_wp2_with fail
 refine (xH _).mono ?_
 rintro e w1 ⟨rfl,hb1⟩
 obtain ⟨hc,hf⟩:=zL hb1
 have hb2:Below w.heap.size w w1:=((Below.refl _ _).alloc (Nat.le_refl _) _).trans (hb1.mono (by simp))
 have h0:=(hb1.block w.heap.size (by simp)).trans (heap_alloc_new w _)
 have hidx:=y18
 go_wp2
 exact bodyPost_ret (v:=.tuple #[yV 149 154 false 0 64 0 0,.bool true]) (by simp [results,Tryz.results58,go_sem,yV,World.cell?,World.setCell,Array.getElem?_modify,h0]) rfl ⟨rfl,(((((((hb2).setCell (p:=⟨w.heap.size,0,none⟩) (Nat.le_refl _) _).setCell (p:=⟨w.heap.size,1,none⟩) (Nat.le_refl _) _).setCell (p:=⟨w.heap.size,2,none⟩) (Nat.le_refl _) _).setCell (p:=⟨w.heap.size,3,none⟩) (Nat.le_refl _) _).setCell (p:=⟨w.heap.size,4,none⟩) (Nat.le_refl _) _).setCell (p:=⟨w.heap.size,5,none⟩) (Nat.le_refl _) _).setCell (p:=⟨w.heap.size,6,none⟩) (Nat.le_refl _) _⟩
theorem y19 (w:World):(Instr.index 156 (.agg kindCells) (.int .i64 4)).run Tryz.prog w=.ok (.agg #[.func (.func 156) #[] #[],.bool false,.int .i64 0,.int .i64 0,.int .i64 64,.int .i64 0,.func (.func 155) #[] #[]]) w:=by kernel_rfl
theorem y0J (w:World):Calls Tryz.prog 58 #[.int .i64 4] w fun e w'=>e=.returned (.tuple #[yV 156 155 false 0 0 64 0,.bool true])/\Below w.heap.size w w':=by
 go_enter Tryz.func58,Tryz.ntmps58
 go_wp2_with fail
 refine (xH _).mono ?_
 rintro e w1 ⟨rfl,hb1⟩
 obtain ⟨hc,hf⟩:=zL hb1
 have hb2:Below w.heap.size w w1:=((Below.refl _ _).alloc (Nat.le_refl _) _).trans (hb1.mono (by simp))
 have h0:=(hb1.block w.heap.size (by simp)).trans (heap_alloc_new w _)
 have hidx:=y19
 go_wp2
 exact bodyPost_ret (v:=.tuple #[yV 156 155 false 0 0 64 0,.bool true]) (by simp [results,Tryz.results58,go_sem,yV,World.cell?,World.setCell,Array.getElem?_modify,h0]) rfl ⟨rfl,(((((((hb2).setCell (p:=⟨w.heap.size,0,none⟩) (Nat.le_refl _) _).setCell (p:=⟨w.heap.size,1,none⟩) (Nat.le_refl _) _).setCell (p:=⟨w.heap.size,2,none⟩) (Nat.le_refl _) _).setCell (p:=⟨w.heap.size,3,none⟩) (Nat.le_refl _) _).setCell (p:=⟨w.heap.size,4,none⟩) (Nat.le_refl _) _).setCell (p:=⟨w.heap.size,5,none⟩) (Nat.le_refl _) _).setCell (p:=⟨w.heap.size,6,none⟩) (Nat.le_refl _) _⟩
theorem y1a (w:World):(Instr.index 156 (.agg kindCells) (.int .i64 5)).run Tryz.prog w=.ok (.agg #[.func (.func 148) #[] #[],.bool false,.int .i64 0,.int .i64 64,.int .i64 0,.int .i64 0,.func (.func 157) #[] #[]]) w:=by kernel_rfl
theorem y0M (w:World):Calls Tryz.prog 58 #[.int .i64 5] w fun e w'=>e=.returned (.tuple #[yV 148 157 false 0 64 0 0,.bool true])/\Below w.heap.size w w':=by
 go_enter Tryz.func58,Tryz.ntmps58
 go_wp2_with fail
 refine (xH _).mono ?_
 rintro e w1 ⟨rfl,hb1⟩
 obtain ⟨hc,hf⟩:=zL hb1
 have hb2:Below w.heap.size w w1:=((Below.refl _ _).alloc (Nat.le_refl _) _).trans (hb1.mono (by simp))
 have h0:=(hb1.block w.heap.size (by simp)).trans (heap_alloc_new w _)
 have hidx:=y1a
 go_wp2
 exact bodyPost_ret (v:=.tuple #[yV 148 157 false 0 64 0 0,.bool true]) (by simp [results,Tryz.results58,go_sem,yV,World.cell?,World.setCell,Array.getElem?_modify,h0]) rfl ⟨rfl,(((((((hb2).setCell (p:=⟨w.heap.size,0,none⟩) (Nat.le_refl _) _).setCell (p:=⟨w.heap.size,1,none⟩) (Nat.le_refl _) _).setCell (p:=⟨w.heap.size,2,none⟩) (Nat.le_refl _) _).setCell (p:=⟨w.heap.size,3,none⟩) (Nat.le_refl _) _).setCell (p:=⟨w.heap.size,4,none⟩) (Nat.le_refl _) _).setCell (p:=⟨w.heap.size,5,none⟩) (Nat.le_refl _) _).setCell (p:=⟨w.heap.size,6,none⟩) (Nat.le_refl _) _⟩
theorem y1b (w:World):(Instr.index 156 (.agg kindCells) (.int .i64 6)).run Tryz.prog w=.ok (.agg #[.func (.func 148) #[] #[],.bool false,.int .i64 0,.int .i64 64,.int .i64 0,.int .i64 0,.func (.func 158) #[] #[]]) w:=by kernel_rfl
theorem y0O (w:World):Calls Tryz.prog 58 #[.int .i64 6] w fun e w'=>e=.returned (.tuple #[yV 148 158 false 0 64 0 0,.bool true])/\Below w.heap.size w w':=by
 go_enter Tryz.func58,Tryz.ntmps58
 go_wp2_with fail
 refine (xH _).mono ?_
 rintro e w1 ⟨rfl,hb1⟩
 obtain ⟨hc,hf⟩:=zL hb1
 have hb2:Below w.heap.size w w1:=((Below.refl _ _).alloc (Nat.le_refl _) _).trans (hb1.mono (by simp))
 have h0:=(hb1.block w.heap.size (by simp)).trans (heap_alloc_new w _)
 have hidx:=y1b
 go_wp2
 exact bodyPost_ret (v:=.tuple #[yV 148 158 false 0 64 0 0,.bool true]) (by simp [results,Tryz.results58,go_sem,yV,World.cell?,World.setCell,Array.getElem?_modify,h0]) rfl ⟨rfl,(((((((hb2).setCell (p:=⟨w.heap.size,0,none⟩) (Nat.le_refl _) _).setCell (p:=⟨w.heap.size,1,none⟩) (Nat.le_refl _) _).setCell (p:=⟨w.heap.size,2,none⟩) (Nat.le_refl _) _).setCell (p:=⟨w.heap.size,3,none⟩) (Nat.le_refl _) _).setCell (p:=⟨w.heap.size,4,none⟩) (Nat.le_refl _) _).setCell (p:=⟨w.heap.size,5,none⟩) (Nat.le_refl _) _).setCell (p:=⟨w.heap.size,6,none⟩) (Nat.le_refl _) _⟩
theorem y1c (w:World):(Instr.index 156 (.agg kindCells) (.int .i64 7)).run Tryz.prog w=.ok (.agg #[.func (.func 160) #[] #[],.bool false,.int .i64 64,.int .i64 0,.int .i64 0,.int .i64 0,.func (.func 159) #[] #[]]) w:=by kernel_rfl
theorem y0Q (w:World):Calls Tryz.prog 58 #[.int .i64 7] w fun e w'=>e=.returned (.tuple #[yV 160 159 false 64 0 0 0,.bool true])/\Below w.heap.size w w':=by
 go_enter Tryz.func58,Tryz.ntmps58
 go_wp2_with fail
 refine (xH _).mono ?_
 rintro e w1 ⟨rfl,hb1⟩
 obtain ⟨hc,hf⟩:=zL hb1
 have hb2:Below w.heap.size w w1:=((Below.refl _ _).alloc (Nat.le_refl _) _).trans (hb1.mono (by simp))
 have h0:=(hb1.block w.heap.size (by simp)).trans (heap_alloc_new w _)
 have hidx:=y1c
 go_wp2
 exact bodyPost_ret (v:=.tuple #[yV 160 159 false 64 0 0 0,.bool true]) (by simp [results,Tryz.results58,go_sem,yV,World.cell?,World.setCell,Array.getElem?_modify,h0]) rfl ⟨rfl,(((((((hb2).setCell (p:=⟨w.heap.size,0,none⟩) (Nat.le_refl _) _).setCell (p:=⟨w.heap.size,1,none⟩) (Nat.le_refl _) _).setCell (p:=⟨w.heap.size,2,none⟩) (Nat.le_refl _) _).setCell (p:=⟨w.heap.size,3,none⟩) (Nat.le_refl _) _).setCell (p:=⟨w.heap.size,4,none⟩) (Nat.le_refl _) _).setCell (p:=⟨w.heap.size,5,none⟩) (Nat.le_refl _) _).setCell (p:=⟨w.heap.size,6,none⟩) (Nat.le_refl _) _⟩
theorem y1d (w:World):(Instr.index 156 (.agg kindCells) (.int .i64 8)).run Tryz.prog w=.ok (.agg #[.func (.func 149) #[] #[],.bool false,.int .i64 0,.int .i64 8,.int .i64 0,.int .i64 64,.func (.func 161) #[] #[]]) w:=by kernel_rfl
theorem y0T (w:World):Calls Tryz.prog 58 #[.int .i64 8] w fun e w'=>e=.returned (.tuple #[yV 149 161 false 0 8 0 64,.bool true])/\Below w.heap.size w w':=by
 go_enter Tryz.func58,Tryz.ntmps58
 go_wp2_with fail
 refine (xH _).mono ?_
 rintro e w1 ⟨rfl,hb1⟩
 obtain ⟨hc,hf⟩:=zL hb1
 have hb2:Below w.heap.size w w1:=((Below.refl _ _).alloc (Nat.le_refl _) _).trans (hb1.mono (by simp))
 have h0:=(hb1.block w.heap.size (by simp)).trans (heap_alloc_new w _)
 have hidx:=y1d
 go_wp2
 exact bodyPost_ret (v:=.tuple #[yV 149 161 false 0 8 0 64,.bool true]) (by simp [results,Tryz.results58,go_sem,yV,World.cell?,World.setCell,Array.getElem?_modify,h0]) rfl ⟨rfl,(((((((hb2).setCell (p:=⟨w.heap.size,0,none⟩) (Nat.le_refl _) _).setCell (p:=⟨w.heap.size,1,none⟩) (Nat.le_refl _) _).setCell (p:=⟨w.heap.size,2,none⟩) (Nat.le_refl _) _).setCell (p:=⟨w.heap.size,3,none⟩) (Nat.le_refl _) _).setCell (p:=⟨w.heap.size,4,none⟩) (Nat.le_refl _) _).setCell (p:=⟨w.heap.size,5,none⟩) (Nat.le_refl _) _).setCell (p:=⟨w.heap.size,6,none⟩) (Nat.le_refl _) _⟩
theorem y1e (w:World):(Instr.index 156 (.agg kindCells) (.int .i64 9)).run Tryz.prog w=.ok (.agg #[.func (.func 163) #[] #[],.bool true,.int .i64 0,.int .i64 64,.int .i64 0,.int .i64 0,.func (.func 162) #[] #[]]) w:=by kernel_rfl
theorem y0V (w:World):Calls Tryz.prog 58 #[.int .i64 9] w fun e w'=>e=.returned (.tuple #[yV 163 162 true 0 64 0 0,.bool true])/\Below w.heap.size w w':=by
 go_enter Tryz.func58,Tryz.ntmps58
 go_wp2_with fail
 refine (xH _).mono ?_
 rintro e w1 ⟨rfl,hb1⟩
 obtain ⟨hc,hf⟩:=zL hb1
 have hb2:Below w.heap.size w w1:=((Below.refl _ _).alloc (Nat.le_refl _) _).trans (hb1.mono (by simp))
 have h0:=(hb1.block w.heap.size (by simp)).trans (heap_alloc_new w _)
 have hidx:=y1e
 go_wp2
 exact bodyPost_ret (v:=.tuple #[yV 163 162 true 0 64 0 0,.bool true]) (by simp [results,Tryz.results58,go_sem,yV,World.cell?,World.setCell,Array.getElem?_modify,h0]) rfl ⟨rfl,(((((((hb2).setCell (p:=⟨w.heap.size,0,none⟩) (Nat.le_refl _) _).setCell (p:=⟨w.heap.size,1,none⟩) (Nat.le_refl _) _).setCell (p:=⟨w.heap.size,2,none⟩) (Nat.le_refl _) _).setCell (p:=⟨w.heap.size,3,none⟩) (Nat.le_refl _) _).setCell (p:=⟨w.heap.size,4,none⟩) (Nat.le_refl _) _).setCell (p:=⟨w.heap.size,5,none⟩) (Nat.le_refl _) _).setCell (p:=⟨w.heap.size,6,none⟩) (Nat.le_refl _) _⟩
end Go.Proofs.YthohnmplbjhjaaaGreatDoor
