import Derived.Test.YthohnmplbjhjaaaGreatDoorRows
import Derived.Test.YthohnmplbjhjaaaGreatDoorCards
import Derived.Test.YthohnmplbjhjaaaGreatDoorTie
import Derived.Test.YthohnmplbjhjaaaGreatDoorJ33
import Derived.ProofKit
import Derived.OpenShut
import Derived.LaidMore
import Derived.LaidSub
import Derived.Lay
import Derived.Lib.LaidTab
import Derived.Stop.Joined
import Derived.SevenTiedAt
import Derived.ChangeMaps
import Derived.Shelf.Vars
namespace Go.Proofs.YthohnmplbjhjaaaGreatDoor
open Go.ChangeShapes Go.WideShapes Go.ChangeAt Go.RowKit Go.Deep
open Go.ChangeMaps (open_string shut_string)
theorem Qm:laidOutB Tryz.prog=true:=by kernel_rfl
theorem own:ownKnob Tryz.prog.godebug=none:=by kernel_rfl
def laid6 : List (String × DataW Unit) := [("math/bits.deBruijn32tab", Rows.laid_math_bits_deBruijn32tab), ("math/bits.deBruijn64tab", Rows.laid_math_bits_deBruijn64tab), ("internal/strconv.uint64pow10", Rows.laid_internal_strconv_uint64pow10), ("unicode/utf8.acceptRanges", Rows.laid_unicode_utf8_acceptRanges), ("hallmark/text.opWords", Rows.laid_hallmark_text_opWords), ("unicode/utf8.first", Rows.laid_unicode_utf8_first)]
theorem y28 {W:World} (h:laidMetH Tryz.prog laid6 W):W.cell? ⟨0,1,none⟩=some (.string ⟨#[60,61]⟩)/\W.cell? ⟨0,2,none⟩=some (.string ⟨#[61]⟩)/\W.cell? ⟨0,3,none⟩=some (.string ⟨#[62,61]⟩):=by
 rw [MakeChecks.laidMetH_plain _ _ _ (by kernel_rfl)] at h
 have h1 := laidMet.filter (fun x => x.1 == "hallmark/text.opWords") h
 have e : laid6.filter (fun x => x.1 == "hallmark/text.opWords") = [("hallmark/text.opWords", Rows.laid_hallmark_text_opWords)] := by kernel_rfl
 rw [e] at h1
 obtain ⟨ps,⟨g,t,cs,fuel,p,q,hg,ht,hv,hd,_,_⟩,_,_⟩:=h1
 obtain rfl := Option.some.inj ((show Tryz.prog.globalNamed "hallmark/text.opWords" = some 0 by kernel_rfl).symm.trans hg)
 obtain rfl:=Option.some.inj ((show (Tryz.prog.globals[0]?).map (·.type)=some 148 by kernel_rfl).symm.trans ht)
 obtain ⟨xs,m,_,ex,_,hl,hel⟩:=DataW.trod_array Tryz.underlying148 hd
 have c9:Tryz.prog.cellsOf 9=1:=by kernel_rfl
 have e3:(xs.map (·.1))=[.lit (.string []),.lit (.string [60,61]),.lit (.string [61]),.lit (.string [62,61])]:=(DataW.agg.inj (Prod.mk.inj ex).1).symm
 have key:∀ r (l:List UInt8),r<4->([.lit (.string []),.lit (.string [60,61]),.lit (.string [61]),.lit (.string [62,61])]:List (DataW Unit))[r]?=some (.lit (.string l))->W.cell? ⟨0,r,none⟩=some (.string ⟨l.toArray⟩):=fun r l hr hq=>by
  have hE:=hel r hr
  rw [c9,Nat.mul_one,List.getElem?_eq_getElem (by omega)] at hE
  obtain ⟨s,e1,e2,_⟩:=DataW.trod_string Tryz.underlying9 hE
  have e4:(xs.map (·.1))[r]?=some (.lit (.string l)):=by rw [e3];exact hq
  rw [List.getElem?_map,List.getElem?_eq_getElem (by omega:r<xs.length),e2] at e4
  have hs:s.data.toList=l:=by
   simp only [Option.map_some,Option.some.injEq,DataW.lit.injEq,Lit.string.injEq] at e4
   exact e4
  have es:(⟨l.toArray⟩:ByteArray)=s:=by subst hs;simp
  rw [World.var?_cell hg hv r,es]
  have:cs.toList[r]?=some (.string s):=by
   have h0:((cs.toList.drop r).take 1)[0]?=some (.string s):=by rw [e1];rfl
   simpa using h0
  simpa using this
 exact ⟨key 1 _ (by decide) rfl,key 2 _ (by decide) rfl,key 3 _ (by decide) rfl⟩
theorem y29:Tryz.prog.globals.size=7:=by kernel_rfl
theorem y2a {W:World} (h:laidMetH Tryz.prog laid6 W) (hsh:W.ShapedOpen Tryz.prog):Way W W:=by
 have hop:=y28 h
 rw [MakeChecks.laidMetH_plain _ _ _ (by kernel_rfl)] at h
 have h1 := laidMet.filter (fun x => x.1 == "internal/strconv.uint64pow10") h
 have e : laid6.filter (fun x => x.1 == "internal/strconv.uint64pow10") = [("internal/strconv.uint64pow10", Lib.tabData .u64 Lib.pow10Tab)] := by kernel_rfl
 rw [e] at h1
 have ht : Lib.TabIs Tryz.prog W "internal/strconv.uint64pow10" .u64 Lib.pow10Tab :=
  Lib.tabIs_of_head (g:=4) (t:=211) (e:=205) (n:=20) (by kernel_rfl) (by kernel_rfl) (by kernel_rfl) (by kernel_rfl) (by kernel_rfl) (by kernel_rfl) h1
 refine ⟨Below.refl _ _,ht,?_,cell_of_shapedOpen_int (g:=1) (t:=3) (zero:=#[.int .i64 0]) hsh (by rw [y29];decide) (by kernel_rfl) rfl (by kernel_rfl) (by kernel_rfl) (by kernel_rfl),hop⟩
 have hg : Tryz.prog.globalNamed "internal/strconv.uint64pow10" = some 4 := by kernel_rfl
 unfold Lib.TabIs World.var? at ht
 rcases Nat.lt_or_ge 4 W.heap.size with h0 | h0
 ·exact h0
 ·rw [hg] at ht
  have:W.heap[4]?=none:=by rw [Array.getElem?_eq_none_iff];omega
  simp [this] at ht
theorem y2b {H:Type} {enc:TypeId × Value->H} {a:Assume} {C:Checked} {os:Os} {f:FuncId} {fn:Func} {s:ChangeSpec} {conds:List PathCond} {apart fresh handsOn again:Bool} {X:World->Array Value->Prop}
  (hX:∀ (w w':World) (args:Array Value),w.heap=w'.heap->X w args->X w' args)
  (own:ownKnob C.prog.godebug=none) (started:os.Started) (noInit:C.prog.inits.idxOf? f=none) (hfn:C.prog.funcs[f]?=some fn)
  (witness:∃ (w:World) (tape:Tape) (i:Input),w.os=os/\(w.forCall tape i).Shaped C.prog/\i.vars=[]/\Input.okWide C.prog (w.forCall tape i) .any w.heap.size f i /\
   ((s.pre enc C.prog fn conds apart (w.forCall tape i).memory i.args/\X (w.forCall tape i).memory i.args)/\sizedMet enc C.prog fn (OpenSpec.ofChange s) apart (w.forCall tape i).memory i.args)/\a.holds C.prog (lone (Frame.enter C.prog f i.args .normal) [] (w.forCall tape i)))
  (contract:∀ (W:World) (base:Nat) (args:Array Value) (ds gs:List (DataW H)) (before:List MemPlace),
   (∀ (j:Nat) t v,fn.params[j]?=some t->args[j]?=some v->Value.okWide C.prog W .any base t v) ->
   DataW.Whole enc C.prog fn.params.toList s.vars apart W args.toList ds gs before->X W args->W.ShapedOpen C.prog ->
   Calls C.prog f args W fun e W'=>∃ v,e=.returned v/\s.post enc C.prog fn apart fresh handsOn again W args v W') :
  ReturnsInHanded a C os f .any (fun w args=>(s.pre enc C.prog fn conds apart w args/\X w args)/\sizedMet enc C.prog fn (OpenSpec.ofChange s) apart w args) (s.post enc C.prog fn apart fresh handsOn again):=by
 refine returnsInHanded_of_calls own started noInit witness ?_
 intro w tape i _ hsh _ hok hpre _
 obtain ⟨_,_,_,fn',hfn',_,_,_,_,hval⟩:=hok
 have e:fn'=fn:=Option.some.inj (hfn'.symm.trans hfn)
 subst e
 obtain ⟨⟨⟨ds,gs,before,hw,_⟩,hx⟩,_⟩:=hpre
 have hw':=DataW.Whole.of_heap (w':=w.forCall tape i) (by rfl) hw
 refine (contract (w.forCall tape i) w.heap.size i.args ds gs before hval hw' (hX _ _ _ (by rfl) hx) hsh).mono fun e W' ⟨v,he,hp⟩=>?_
 subst he
 exact ChangeSpec.post_blind hp
end Go.Proofs.YthohnmplbjhjaaaGreatDoor
