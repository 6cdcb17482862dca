import Derived.Test.YtjnckfchgcmmpaaGreatDoorJ05
import Derived.Test.YtjnckfchgcmmpaaGreatDoorHlSortS
import Derived.Test.YtjnckfchgcmmpaaGreatDoorShelf
import Derived.Test.YtjnckfchgcmmpaaGreatDoorHlPlaces
import Derived.Shelf.GgSortFunc.RowK
namespace Go.Proofs.YtjnckfchgcmmpaaGreatDoor
open Go.Shelf Go.RowKit Go.Lib Go.Sort
set_option maxRecDepth 10000
set_option maxHeartbeats 8000000
abbrev BGr:=Fin 4000000001 × Int × Nat × Int
def frG (p:BGr):Gr:=⟨p.2.1,(p.1.val:Int)-2000000000,p.2.2.1,p.2.2.2⟩
def encG (g:BGr):List Value:=(frG g).cells
theorem frG_bd (p:BGr):-2000000000<=(frG p).hi/\(frG p).hi<=2000000000:=by
  have:=p.1.isLt;show -2000000000<=(p.1.val:Int)-2000000000/\(p.1.val:Int)-2000000000<=2000000000;omega
theorem byEnd_gr (x y:Gr) (k1:-2000000000<=x.hi) (k2:x.hi<=2000000000) (k3:-2000000000<=y.hi) (k4:y.hi<=2000000000) (W:World):Calls Tryz.prog 123 #[.agg #[.int .i64 x.lo,.int .i64 x.hi,.int .i64 (x.x:Int),.int .i64 x.n],.agg #[.int .i64 y.lo,.int .i64 y.hi,.int .i64 (y.x:Int),.int .i64 y.n]] W fun e w'=>e=.returned (.int .i64 (x.hi-y.hi))/\∃ q os',w'=grow (W.drewN q) os':=by
  obtain ⟨a,b,c,d⟩:=x;obtain ⟨a',b',c',d'⟩:=y;dsimp only at k1 k2 k3 k4 ⊢;go_enter Tryz.func123,Tryz.ntmps123;go_wp2;go_ret;exact ⟨rfl,0,_,(by rw [alloc_eq_grow,alloc_eq_grow,grow_grow];rfl)⟩
theorem byEnd_any (x y:BGr) (W:World):Calls Tryz.prog 123 #[.agg #[.int .i64 (frG x).lo,.int .i64 (frG x).hi,.int .i64 ((frG x).x:Int),.int .i64 (frG x).n],.agg #[.int .i64 (frG y).lo,.int .i64 (frG y).hi,.int .i64 ((frG y).x:Int),.int .i64 (frG y).n]] W fun e w'=>e=.returned (.int .i64 ((frG x).hi-(frG y).hi))/\∃ q os',w'=grow (W.drewN q) os':=byEnd_gr (frG x) (frG y) (frG_bd x).1 (frG_bd x).2 (frG_bd y).1 (frG_bd y).2 W
theorem cmpG_lt (x y:BGr):ltOf (fun x y:BGr=>(frG x).hi-(frG y).hi) x y=decide ((frG x).hi<(frG y).hi):=by
  unfold ltOf;rw [decide_eq_decide];show (frG x).hi-(frG y).hi<0↔_;omega
theorem cmpG_swo:SWO (ltOf fun x y:BGr=>(frG x).hi-(frG y).hi) where
  irrefl x:=by rw [cmpG_lt];simp
  trans x y z h1 h2:=by rw [cmpG_lt] at *;simp at *;omega
  ntrans x y z h1 h2:=by rw [cmpG_lt] at *;simp at *;omega
theorem isAggG:∀ w,(isAgg 160).run Tryz.prog w=.ok true w:=Tryz.isAgg160
theorem sizeOfG:∀ w,(Go.sizeOf 160).run Tryz.prog w=.ok 4 w:=Tryz.sizeOf160
theorem sortG_call (blk off cap:Nat) (d:Array BGr) (w:World) (hH:HoldsK encG 4 w blk off d) (hblk:blk<w.heap.size) (hsz:d.size<=1000000) :
    Calls Tryz.prog 122 #[.slice (some ⟨blk,off,none⟩) d.size cap,.func (.func 123) #[] #[]] w fun e w'=>e=.returned (.tuple #[])/\∃ d' n os,PermIn 0 d.size d d'/\SortedIn (ltOf fun x y:BGr=>(frG x).hi-(frG y).hi) 0 d.size d'/\w'=sortWorldK encG 4 w blk off n d' os:=by
  have eg:∀ args w,(callFunc 123 args).run Tryz.prog w=.ok (.enter 123 args) w:=enters_of Tryz.func123 (by kernel_rfl) rfl
  exact AnyQ.slices_SortFunc Tryz.sortGroups 4 isAggG sizeOfG encG (fun _=>rfl) (fun x v hv=>by simp [encG,Gr.cells] at hv;rcases hv with rfl | rfl | rfl | rfl <;> rfl) (fun x y=>(frG x).hi-(frG y).hi) cmpG_swo 123 #[] blk off cap d w eg
    (fun _ _ _ _ x y=>by simpa [encG,Gr.cells] using byEnd_any x y _) hH hblk (by omega)
theorem sortG_grown (w:World) (b off m:Nat) (d:Array BGr) (os:Array Obj):w.grownBy (sortWorldK encG 4 w b off m d os) (some b):=by
  refine ⟨rfl,rfl,rfl,size_sortWorldK_c encG 4 w b off m d os,fun k hk hne=>?_⟩;have hkb:k≠b:=fun h=>hne (by rw [h])
  unfold sortWorldK grow putRowK putRow;show ((mapBlock (Sort.ahead w m) b _).heap++os)[k]?=_;rw [Array.getElem?_append_left (by simp [mapBlock];exact hk)];simp [mapBlock,Array.getElem?_modify,Ne.symm hkb,Sort.ahead]
def GrAt (w:World) (b o:Nat) (g:Gr):Prop:=w.cell? ⟨b,o,none⟩=some (.int .i64 g.lo)/\w.cell? ⟨b,o+1,none⟩=some (.int .i64 g.hi)/\w.cell? ⟨b,o+2,none⟩=some (.int .i64 (g.x:Int))/\w.cell? ⟨b,o+3,none⟩=some (.int .i64 g.n)
def GrsAt (w:World) (a:Option Addr) (G:List Gr):Prop:=∀ j (h:j<G.length),∃ b off,a=some ⟨b,off,none⟩/\b<w.heap.size/\GrAt w b (off+j*4) G[j]
theorem GrAt.mono {w w':World} {b o:Nat} {g:Gr} (h:GrAt w b o g) (hb:w'.heap[b]?=w.heap[b]?):GrAt w' b o g:=by
  have hc:∀ k,w'.cell? ⟨b,k,none⟩=w.cell? ⟨b,k,none⟩:=fun k=>by unfold World.cell?;rw [hb]
  obtain ⟨h0,h1,h2,h3⟩:=h;exact ⟨(hc _).trans h0,(hc _).trans h1,(hc _).trans h2,(hc _).trans h3⟩
theorem GrsAt.below {w w':World} {a:Option Addr} {G:List Gr} (h:GrsAt w a G) (hb:Below w.heap.size w w'):GrsAt w' a G:=fun j hj=>by
  obtain ⟨b,off,e,hlt,hg⟩:=h j hj;exact ⟨b,off,e,Nat.lt_of_lt_of_le hlt hb.size,hg.mono (hb.block b hlt)⟩
theorem grs_get (G:List Gr) (j:Nat) (hj:j<G.length):(grs G)[j*4]?=some (.int .i64 G[j].lo)/\(grs G)[j*4+1]?=some (.int .i64 G[j].hi)/\(grs G)[j*4+2]?=some (.int .i64 (G[j].x:Int))/\(grs G)[j*4+3]?=some (.int .i64 G[j].n):=by
  induction G generalizing j with
  | nil=>exact absurd hj (by simp)
  | cons g G ih =>
    have e:grs (g :: G)=g.cells++grs G:=by simp [grs]
    rw [e];have hl:g.cells.length=4:=rfl
    cases j with
    | zero=>exact ⟨rfl,rfl,rfl,rfl⟩
    | succ j =>
      obtain ⟨h0,h1,h2,h3⟩:=ih j (by simpa using hj);have q:∀ r,(j+1)*4+r-4=j*4+r:=fun r=>by omega
      refine ⟨?_,?_,?_,?_⟩
      · rw [List.getElem?_append_right (by omega),hl,show (j+1)*4-4=j*4 by omega];simpa using h0
      · rw [List.getElem?_append_right (by omega),hl,q];simpa using h1
      · rw [List.getElem?_append_right (by omega),hl,q];simpa using h2
      · rw [List.getElem?_append_right (by omega),hl,q];simpa using h3
theorem own_grs {w:World} {B:Nat} {v:Value} {G:List Gr} (h:w.ownsRow B 160 4 v G.length (grs G)):∃ a cap,v=.slice a G.length cap/\GrsAt w a G:=by
  rcases h.2 with ⟨rfl,hn⟩ | ⟨g,cap,cur,rfl,_,h3,_,_,_,h7⟩
  · exact ⟨none,0,by rw [hn],fun j hj=>by omega⟩
  · refine ⟨_,cap,rfl,fun j hj=>⟨g,0,rfl,(hLt h3),?_⟩⟩
    obtain ⟨q0,q1,q2,q3⟩:=grs_get G j hj;have get:∀ k v,(grs G)[k]?=some v->k<G.length*4->w.cell? ⟨g,0+k,none⟩=some v:=fun k v hk hlt=>by
      rw [cell_of h3,Nat.zero_add];rw [<-h7,List.getElem?_take,if_pos hlt] at hk;simpa using hk
    unfold GrAt;simp only [Nat.zero_add] at get ⊢;exact ⟨get _ _ q0 (by omega),get _ _ q1 (by omega),get _ _ q2 (by omega),get _ _ q3 (by omega)⟩
theorem und64s:Tryz.prog.underlying 145=some (.slice 160):=by kernel_rfl
theorem grs_src {w:World} {B:Nat} {v:Value} {G:List Gr} (h:w.ownsRow B 160 4 v G.length (grs G)):SrcAt w v G.length 4 (grs G):=by
  have h1:∀ u∈grs G,u.oneCell'=true:=by
    intro u hu;unfold grs at hu;rw [List.mem_flatMap] at hu;obtain ⟨d,_,hu⟩:=hu;simp only [Gr.cells,List.mem_cons,List.not_mem_nil,or_false] at hu
    rcases hu with rfl | rfl | rfl | rfl <;> rfl
  have hl:(grs G).length=G.length*4:=h.1;rcases h.2 with ⟨rfl,hn⟩ | ⟨g,cap,cur,rfl,_,e3,_,_,_,e7⟩
  · exact ⟨none,0,by rw [hn],hl,h1,(fun _=>hn),fun ad ha=>by cases ha⟩
  · refine ⟨_,cap,rfl,hl,h1,(fun hn=>by cases hn),fun ad ha j u hj=>?_⟩
    injection ha with ha;subst ha;rw [add_none,Nat.zero_add,cell_of e3];have hj2:j<G.length*4:=by
      have:=(List.getElem?_eq_some_iff.1 hj).1;omega
    have:(cur.toList.take (G.length*4))[j]?=some u:=by rw [e7];exact hj
    rw [List.getElem?_take,if_pos hj2] at this;simpa using this
theorem cloneG_any (B:Nat) (v:Value) (G:List Gr) (w:World) (h:w.ownsRow B 160 4 v G.length (grs G)) (hl:G.length<=400000):Calls Tryz.prog 121 #[v] w fun e w'=>∃ v',e=.returned v'/\w'.ownsRow w.heap.size 160 4 v' G.length (grs G)/\Below w.heap.size w w':=by
  have q57:∀ (w:World) (a:Option Addr) (n c n' c':Nat),(binOp .eql 145 (.slice a n c) (.slice none n' c')).run Tryz.prog w=.ok (.bool a.isNone) w:=fun w a n c n' c'=>Lib.run_eql_slice_nil w _ _ a n c n' c' und64s
  obtain ⟨a,cap,rfl⟩:=own_slice h
  cases a with
  | none =>
    have h0:G=[]:=by
      rcases h.2 with ⟨_,h2⟩ | ⟨g,cp,cur,e1,_⟩
      · exact List.length_eq_zero_iff.1 h2
      · injection e1 with e1
        cases e1
    subst h0;clear h hl;go_enter Tryz.func121,Tryz.ntmps121;go_wp2_with fail
    go_ret;exact ⟨_,rfl,World.ownsRow_nil _ _ _ _,Below.refl _ _⟩
  | some ad =>
    obtain ⟨W,hW⟩:∃ W,w.alloc (.cells #[] 160)=W:=⟨_,rfl⟩;have hbW:Below w.heap.size w W:=bAe hW;have HBW:Hid (Below w.heap.size w W):=hbW;have HO:Hid (W.ownsRow w.heap.size 160 4 (.slice (some ⟨w.heap.size,0,none⟩) 0 0) 0 []):=by
      refine ⟨rfl,.inr ⟨w.heap.size,0,#[],rfl,Nat.le_refl _,?_,Nat.le_refl _,Nat.zero_le _,rfl,rfl⟩⟩;rw [<-hW];exact heap_alloc_new w _
    have HS:Hid (SrcAt W (.slice (some ad) G.length cap) G.length 4 (grs G)):=grs_src (own_bl h hbW);clear h hbW;go_enter Tryz.func121,Tryz.ntmps121
    go_wp2_with (first
      | (at_builtin;refine append_src W rfl (.tmp 5) (.tmp 6) 145 160 (.agg #[.int .i64 0,.int .i64 0,.int .i64 0,.int .i64 0]) 4 32 rfl und64s info79 rfl (by decide) w.heap.size _ _ 0 G.length [] _ (by rfl) (by rfl) HO.out HS.out (by unfold maxLen;omega) (by omega) HBW.out.size ?_;intro v1 w1 ho1 hg1 hn1))
    go_ret;refine ⟨_,rfl,?_,HBW.out.grown hg1 HBW.out.size (fun k hk=>(HO.out.lt k hk).1)⟩;simpa using ho1
end Go.Proofs.YtjnckfchgcmmpaaGreatDoor
