/-
  Put together: PfLaid, PfCard.
-/
import Derived.Test.YtjgghimjnbjlbaaGreatDoorRows
import Derived.Test.YtjgghimjnbjlbaaGreatDoorPfGl
import Derived.ProofKit
import Derived.OpenShut
import Derived.LaidMore
import Derived.LaidSub
import Derived.LaidHandle
import Derived.Lib.LaidTab
import Derived.Lay
import Derived.Stop.Joined
import Derived.SevenTiedAt
import Derived.ChangeMaps
import Derived.Shelf.Vars
import Derived.Test.YtjgghimjnbjlbaaGreatDoorJ04
namespace Go.Proofs.YtjgghimjnbjlbaaGreatDoor
open Go.ChangeShapes Go.WideShapes Go.ChangeAt Go.RowKit
set_option maxRecDepth 10000
set_option maxHeartbeats 8000000
open Go.ChangeMaps (open_string shut_string)
theorem own:ownKnob Tryz.prog.godebug=none:=by kernel_rfl
def laid8 : List (String × DataW Unit) := [("math/bits.deBruijn32tab", Rows.laid_math_bits_deBruijn32tab), ("math/bits.deBruijn64tab", Rows.laid_math_bits_deBruijn64tab), ("internal/strconv.uint64pow10", Rows.laid_internal_strconv_uint64pow10), ("unicode/utf8.acceptRanges", Rows.laid_unicode_utf8_acceptRanges), ("errors.errorType", Rows.laid_errors_errorType), ("unicode.White_Space", Rows.laid_unicode_White_Space), ("strings.asciiSpace", Rows.laid_strings_asciiSpace), ("unicode/utf8.first", Rows.laid_unicode_utf8_first)]
def laid7:List (String × DataW Unit):=laid8.filter fun x=>x.2.handleName?.isNone
theorem ZK:(laid7.filter fun x=>(laid7.map (·.1)).contains x.1)=laid7:=by kernel_rfl
theorem y5g:(laid7.filter fun x=>!(laid7.map (·.1)).contains x.1)=[]:=by kernel_rfl
theorem y5e (os:Os):(World.doorLaid Tryz.prog 400 os).layFits Tryz.prog laid7 []=true:=by kernel_rfl
theorem y5f (os:Os):(World.doorLaid Tryz.prog 400 os).layIfaces Tryz.prog laid7 ((World.doorLaid Tryz.prog 400 os).layVars Tryz.prog laid7)=true:=by kernel_rfl
theorem y5h (os:Os):(laid8.filter fun x=>x.2.handleName?.isSome&&x.2.funcsIn?.isNone).all (handleAtB Tryz.prog ((World.doorLaid Tryz.prog 400 os).layVars Tryz.prog laid7))=true:=by kernel_rfl
end Go.Proofs.YtjgghimjnbjlbaaGreatDoor

namespace Go.Proofs.YtjgghimjnbjlbaaGreatDoor
open Go.ChangeShapes Go.WideShapes Go.ChangeAt Go.RowKit
set_option maxRecDepth 10000
set_option maxHeartbeats 8000000
open Go.ChangeMaps (open_string shut_string)
theorem met7 (os:Os) (args:Array Value):laidMetH Tryz.prog laid8 (((World.doorLaid Tryz.prog 400 os).layVars Tryz.prog laid7).forCall (fun _ _=>0) ⟨#[],args,[]⟩).memory:=by
  have h1:laidMet Tryz.prog laid7 ((World.doorLaid Tryz.prog 400 os).layVars Tryz.prog laid7):=laidMet_layVars (w0:=World.doorLaid Tryz.prog 400 os) (laid7.map (·.1)) [] (by rw [ZK]) (by rw [ZK];exact y5e os) (by rw [ZK];exact y5f os) (by rw [y5g];exact LaidIn.none);have h2:laidMetH Tryz.prog laid8 ((World.doorLaid Tryz.prog 400 os).layVars Tryz.prog laid7):=laidMetH_of_parts3 (fuel:=8) h1 (y5h os) (by kernel_rfl);exact h2.of_heap (by simp [World.memory,World.forCall,Input.heap])
theorem KG:Tryz.prog.globals.size=12:=by kernel_rfl
theorem y5i:((List.range Tryz.prog.types.size).all fun t=>!Tryz.prog.rowNamed t [101,114,114,111,114]||t==57)=true:=by kernel_rfl
theorem cut171 : (Tryz.prog.cutTypes.find? (·.1 == "internal/reflectlite.rtype")).map (·.2) = some 192 := by kernel_rfl
theorem y17 {W:World} (h:laidMetH Tryz.prog laid8 W) (hsh:W.ShapedOpen Tryz.prog):Gl W:=by
  obtain ⟨h1,h2⟩:=laidMetH_iff.1 h;refine ⟨?_,?_,?_,?_,?_⟩
  · exact cell_of_shapedOpen_int (g:=3) (t:=3) (zero:=#[.int .i64 0]) hsh (by rw [KG];decide) (by kernel_rfl) rfl (by kernel_rfl) (by kernel_rfl) (by kernel_rfl)
  · have q := laidMet.filter (fun x => x.1 == "strings.asciiSpace") h1
    have e : ((laid8.filter fun x => x.2.handleName?.isNone).filter fun x => x.1 == "strings.asciiSpace") = [("strings.asciiSpace", Lib.tabData .u8 Lib.asciiSpaceTab)] := by kernel_rfl
    rw [e] at q;exact Lib.tabIs_of_head (g:=1) (t:=214) (e:=5) (n:=256) (by kernel_rfl) (by kernel_rfl) (by kernel_rfl) (by kernel_rfl) (by kernel_rfl) (by kernel_rfl) q
  · have q := laidMet.filter (fun x => x.1 == "internal/strconv.uint64pow10") h1
    have e : ((laid8.filter fun x => x.2.handleName?.isNone).filter fun x => x.1 == "internal/strconv.uint64pow10") = [("internal/strconv.uint64pow10", Lib.tabData .u64 Lib.pow10Tab)] := by kernel_rfl
    rw [e] at q;exact Lib.tabIs_of_head (g:=6) (t:=308) (e:=289) (n:=20) (by kernel_rfl) (by kernel_rfl) (by kernel_rfl) (by kernel_rfl) (by kernel_rfl) (by kernel_rfl) q
  · have q := h2 ("errors.errorType", Rows.laid_errors_errorType) (by
      have : (laid8.filter fun x => x.2.handleName?.isSome) = [("errors.errorType", Rows.laid_errors_errorType)] := by kernel_rfl
      rw [this];exact List.mem_singleton.2 rfl)
    have hf:(Rows.laid_errors_errorType:DataW Unit).funcsIn?=none:=by kernel_rfl
    simp only [hf] at q;obtain ⟨name,u,ty,q1,q2,q3,q4,q5⟩:=q;obtain rfl:=Option.some.inj ((show (Rows.laid_errors_errorType:DataW Unit).handleName?=some [101,114,114,111,114] by kernel_rfl).symm.trans q1);obtain rfl:=Option.some.inj (cut171.symm.trans q2);have h28:=List.all_eq_true.1 y5i ty (List.mem_range.2 q3);rw [q4] at h28;have h28':ty=57:=by simpa using h28
    subst h28'
    have := World.var?_cell (show Tryz.prog.globalNamed "errors.errorType" = some 0 by kernel_rfl) q5 0
    exact this
  · obtain ⟨cs,hh,_⟩:=hsh.1 11 #[.pointer none] 238 (by rw [KG];decide) (by kernel_rfl)
    exact (hLt hh)
theorem y15 {H:Type} {enc:TypeId × Value->H} {a:Assume} {C:Checked} {os:Os} {f:FuncId} {fn:Func} {s:ChangeSpec} {conds:List PathCond} {apart fresh handsOn again:Bool} {X:World->Array Value->Prop}
    (hX:∀ (w w':World) (args:Array Value),w.heap=w'.heap->X w args->X w' args)
    (own:ownKnob C.prog.godebug=none) (started:os.Started) (noInit:C.prog.inits.idxOf? f=none) (hfn:C.prog.funcs[f]?=some fn)
    (witness:∃ (w:World) (tape:Tape) (i:Input),w.os=os/\(w.forCall tape i).Shaped C.prog/\i.vars=[]/\Input.okWide C.prog (w.forCall tape i) .any w.heap.size f i /\
      ((s.pre enc C.prog fn conds apart (w.forCall tape i).memory i.args/\X (w.forCall tape i).memory i.args)/\sizedMet enc C.prog fn (OpenSpec.ofChange s) apart (w.forCall tape i).memory i.args)/\a.holds C.prog (lone (Frame.enter C.prog f i.args .normal) [] (w.forCall tape i)))
    (contract:∀ (W:World) (base:Nat) (args:Array Value) (ds gs:List (DataW H)) (before:List MemPlace),
      (∀ (j:Nat) t v,fn.params[j]?=some t->args[j]?=some v->Value.okWide C.prog W .any base t v) ->
      DataW.Whole enc C.prog fn.params.toList s.vars apart W args.toList ds gs before->(DataW.weightsEach C.prog (fn.params.toList++s.plain.varTypes C.prog) (ds++gs)).all (·<=reachBytes)=true->X W args->W.ShapedOpen C.prog ->
      Calls C.prog f args W fun e W'=>∃ v,e=.returned v/\s.post enc C.prog fn apart fresh handsOn again W args v W') :
    ReturnsInHanded a C os f .any (fun w args=>(s.pre enc C.prog fn conds apart w args/\X w args)/\sizedMet enc C.prog fn (OpenSpec.ofChange s) apart w args) (s.post enc C.prog fn apart fresh handsOn again):=by
  refine returnsInHanded_of_calls own started noInit witness ?_;intro w tape i _ hsh _ hok hpre _;obtain ⟨_,_,_,fn',hfn',_,_,_,_,hval⟩:=hok;have e:fn'=fn:=Option.some.inj (hfn'.symm.trans hfn);subst e;obtain ⟨⟨_,hx⟩,_,ds,gs,before,hw,hz⟩:=hpre;have hw':=DataW.Whole.of_heap (w':=w.forCall tape i) (by rfl) hw;refine (contract (w.forCall tape i) w.heap.size i.args ds gs before hval hw' hz (hX _ _ _ (by rfl) hx) hsh).mono fun e W' ⟨v,he,hp⟩=>?_
  subst he;exact ChangeSpec.post_blind hp
theorem y16 (os:Os) (args:Array Value):(((World.doorLaid Tryz.prog 400 os).layVars Tryz.prog laid7).forCall (fun _ _=>0) ⟨#[],args,[]⟩).Shaped Tryz.prog:=World.shaped_of_ZipB (by kernel_rfl) (by kernel_rfl)
end Go.Proofs.YtjgghimjnbjlbaaGreatDoor
