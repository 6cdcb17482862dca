import Derived.Test.YtjgghimjnbjlbaaGreatDoorJ11
import Derived.LaidEql
import Derived.RowKitTokens
namespace Go.Proofs.YtjgghimjnbjlbaaGreatDoor
open Go.RowKit Go.Extern
set_option maxRecDepth 10000
set_option maxHeartbeats 8000000
theorem y4R (t:Value) (w:World):Calls Tryz.prog 65 #[.nilIface,t] w fun e w'=>e=.returned (.bool false)/\w'=w:=by
  go_enter Tryz.func65,Tryz.ntmps65;go_wp2;go_ret;exact ⟨rfl,rfl⟩
theorem y4S (t:Addr) (w:World):(ReflectliteValue.unpack (.iface 122 (.pointer (some t)))).run Tryz.prog w=.ok (.agg #[.pointer (some ⟨12,122,none⟩),.pointer (some ⟨w.heap.size,0,none⟩),.int .u64 150]) (w.alloc (.cells #[.pointer (some t)] 122)):=by kernel_rfl
theorem y4T (a : Addr) (w : World) : (ReflectliteValue.methodAny (ReflectliteValue.valueError "reflectlite.Value.Type" 0) (fun t _ _ _ => ReflectliteType.toType t) #[.agg #[.pointer (some ⟨12, 122, none⟩), .pointer (some a), .int .u64 150]]).run Tryz.prog w = .ok (.iface 192 (.agg #[.pointer (some ⟨12, 122, none⟩)])) w := by kernel_rfl
theorem y4U (h : Value) (w : World) : (Go.method 453 192 (.agg #[h]) "Kind").run Tryz.prog w = .ok (289, h) w := by kernel_rfl
theorem y4V (w:World):((ReflectliteType.abiMethod fun t=>Functor.map (fun a:Nat=>Value.int IntKind.u8 (a:Int)) (Rtype.kind t)) #[.pointer (some ⟨12,122,none⟩)]).run Tryz.prog w=.ok (.int .u8 22) w:=by kernel_rfl
theorem y4W (w:World):((ReflectliteType.abiMethod fun t=>Functor.map (fun a:Nat=>Value.int IntKind.u8 (a:Int)) (Rtype.kind t)) #[.pointer (some ⟨12,92,none⟩)]).run Tryz.prog w=.ok (.int .u8 2) w:=by kernel_rfl
theorem y4X (v:Value) (w:World):(ReflectliteType.typeOf #[.iface 92 v]).run Tryz.prog w=.ok (.iface 192 (.agg #[.pointer (some ⟨12,92,none⟩)])) w:=by kernel_rfl
theorem y4Y (w : World) : (ReflectliteType.relation "AssignableTo" ReflectliteType.assignableTo #[.agg #[.pointer (some ⟨12, 92, none⟩)], .iface 192 (.agg #[.pointer (some ⟨12, 92, none⟩)])]).run Tryz.prog w = .ok (.bool true) w := by kernel_rfl
theorem y4Z (w : World) : (ReflectliteType.relation "Implements" ReflectliteType.implements_ #[.agg #[.pointer (some ⟨12, 92, none⟩)], .iface 192 (.agg #[.pointer (some ⟨12, 57, none⟩)])]).run Tryz.prog w = .ok (.bool true) w := by kernel_rfl
theorem y50 (e:Int) (w:World):(ReflectliteValue.unpack (.iface 92 (.int .i64 e))).run Tryz.prog w=.ok (.agg #[.pointer (some ⟨12,92,none⟩),.pointer (some ⟨w.heap.size,0,none⟩),.int .u64 130]) (w.alloc (.cells #[.int .i64 e] 92)):=by kernel_rfl
theorem y51 (w:World):(ReflectliteType.method ReflectliteType.elem #[.agg #[.pointer (some ⟨12,122,none⟩)]]).run Tryz.prog w=.ok (.iface 192 (.agg #[.pointer (some ⟨12,92,none⟩)])) w:=by kernel_rfl
theorem y52 (p:Addr) (w:World):(ReflectliteValue.mk 92 p ReflectliteValue.flagAddr).run Tryz.prog w=.ok (.agg #[.pointer (some ⟨12,92,none⟩),.pointer (some p),.int .u64 386]) w:=by kernel_rfl
theorem KD (a:Addr) (w:World):(ReflectliteValue.parts (.agg #[.pointer (some ⟨12,122,none⟩),.pointer (some a),.int .u64 150])).run Tryz.prog w=.ok (some (122,a,150)) w:=by kernel_rfl
theorem y53 (a:Addr) (w:World):(ReflectliteValue.parts (.agg #[.pointer (some ⟨12,92,none⟩),.pointer (some a),.int .u64 386])).run Tryz.prog w=.ok (some (92,a,386)) w:=by kernel_rfl
theorem y54 (a:Addr) (w:World):(ReflectliteValue.parts (.agg #[.pointer (some ⟨12,92,none⟩),.pointer (some a),.int .u64 130])).run Tryz.prog w=.ok (some (92,a,130)) w:=by kernel_rfl
theorem y55 (a p : Addr) (W : World) (ha : W.cell? a = some (.pointer (some p))) : (ReflectliteValue.method (ReflectliteValue.valueError "reflectlite.Value.IsNil" 0) ReflectliteValue.isNil #[.agg #[.pointer (some ⟨12, 122, none⟩), .pointer (some a), .int .u64 150]]).run Tryz.prog W = .ok (.bool false) W := by
  change (ReflectliteValue.parts (.agg #[.pointer (some ⟨12,122,none⟩),.pointer (some a),.int .u64 150]) >>= _).run Tryz.prog W=_
  rw [Sem.run_bind,KD]
  change (ReflectliteValue.isNil 122 a 150 (150 % 32)).run Tryz.prog W=_
  simp [ReflectliteValue.isNil,loadVar,isAgg,underlying,Tryz.underlying122,ha,Result.andThen]
theorem y56 (w:World):(Rtype.elem? 122).run Tryz.prog w=.ok (some 92) w:=by kernel_rfl
theorem y57 (a p : Addr) (W : World) (ha : W.cell? a = some (.pointer (some p))) : (ReflectliteValue.method (ReflectliteValue.valueError "reflectlite.Value.Elem" 0) ReflectliteValue.elem #[.agg #[.pointer (some ⟨12, 122, none⟩), .pointer (some a), .int .u64 150]]).run Tryz.prog W = .ok (.agg #[.pointer (some ⟨12, 92, none⟩), .pointer (some p), .int .u64 386]) W := by
  change (ReflectliteValue.parts (.agg #[.pointer (some ⟨12,122,none⟩),.pointer (some a),.int .u64 150]) >>= _).run Tryz.prog W=_
  rw [Sem.run_bind,KD]
  change (ReflectliteValue.elem 122 a 150 (150 % 32)).run Tryz.prog W=_
  simp [ReflectliteValue.elem,loadVar,isAgg,underlying,Tryz.underlying122,ha,Result.andThen,y56,y52]
theorem y58 (w:World):(Rtype.directlyAssignable 92 92).run Tryz.prog w=.ok true w:=by kernel_rfl
theorem y59 (ta b:Addr) (e:Int) (old:Value) (W:World) (hb:W.cell? b=some (.int .i64 e)) (ht:W.cell? ta=some old) (hf:W.frozen? ta=false) :
    (ReflectliteValue.set #[.agg #[.pointer (some ⟨12,92,none⟩),.pointer (some ta),.int .u64 386],.agg #[.pointer (some ⟨12,92,none⟩),.pointer (some b),.int .u64 130]]).run Tryz.prog W=.ok (.tuple #[]) (W.setCell ta (.int .i64 e)):=by
  change (ReflectliteValue.parts (.agg #[.pointer (some ⟨12,92,none⟩),.pointer (some ta),.int .u64 386]) >>= _).run Tryz.prog W=_
  rw [Sem.run_bind,y53]
  change (ReflectliteValue.parts (.agg #[.pointer (some ⟨12,92,none⟩),.pointer (some b),.int .u64 130]) >>= _).run Tryz.prog W=_
  rw [Sem.run_bind,y54];simp [ReflectliteValue.flagAddr,loadVar,isAgg,underlying,Tryz.underlying92,hb,Result.andThen,y58,storeVar,Value.cells,storeCells,Addr.add];rw [run_store Tryz.prog W ta _ _ (by rfl)];simp [ht,hf]
theorem y5a (h : Value) (w : World) : (Go.method 453 192 (.agg #[h]) "Elem").run Tryz.prog w = .ok (301, .agg #[h]) w := by kernel_rfl
theorem y5b (h : Value) (w : World) : (Go.method 453 192 (.agg #[h]) "Implements").run Tryz.prog w = .ok (302, .agg #[h]) w := by kernel_rfl
theorem y5c (h : Value) (w : World) : (Go.method 453 192 (.agg #[h]) "AssignableTo").run Tryz.prog w = .ok (299, .agg #[h]) w := by kernel_rfl
theorem y5d (e:Int) (t:Addr) (old:Value) (w:World) (hg:w.cell? ⟨0,0,none⟩=some (.iface 192 (.agg #[.pointer (some ⟨12,57,none⟩)]))) (ht0:w.cell? t=some old) (hf0:w.frozen? t=false) :
    Calls Tryz.prog 65 #[.iface 92 (.int .i64 e),.iface 122 (.pointer (some t))] w fun ev w'=>ev=.returned (.bool true)/\w'=((((w.alloc (.cells #[.pointer (some t)] 122)).alloc (.cells #[.pointer (some ⟨12,122,none⟩),.pointer (some ⟨w.heap.size,0,none⟩),.int .u64 150] 145)).alloc (.cells #[.pointer (some ⟨12,122,none⟩),.pointer (some ⟨w.heap.size,0,none⟩),.int .u64 150] 145)).alloc (.cells #[.int .i64 e] 92)).setCell t (.int .i64 e):=by
  have h73:=@run_callFunc_extern Tryz.prog 82 _ (fun args=>ReflectliteValue.unpack (args.getD 0 (.tuple #[]))) Tryz.func82 (by kernel_rfl) (by kernel_rfl) (by kernel_rfl) (by kernel_rfl)
  have h74 := @run_callFunc_extern Tryz.prog 83 _ (ReflectliteValue.methodAny (ReflectliteValue.valueError "reflectlite.Value.Type" 0) (fun t _ _ _ => ReflectliteType.toType t)) Tryz.func83 (by kernel_rfl) (by kernel_rfl) (by kernel_rfl) (by kernel_rfl)
  have h75 := @run_callFunc_extern Tryz.prog 84 _ (ReflectliteValue.method (ReflectliteValue.valueError "reflectlite.Value.IsNil" 0) ReflectliteValue.isNil) Tryz.func84 (by kernel_rfl) (by kernel_rfl) (by kernel_rfl) (by kernel_rfl)
  have h220:=@run_callFunc_extern Tryz.prog 289 _ (ReflectliteType.abiMethod fun t=>do pure (.int .u8 (<- Rtype.kind t))) Tryz.func289 (by kernel_rfl) (by kernel_rfl) (by kernel_rfl) (by kernel_rfl);have h233:=@run_callFunc_extern Tryz.prog 301 _ (ReflectliteType.method ReflectliteType.elem) Tryz.func301 (by kernel_rfl) (by kernel_rfl) (by kernel_rfl) (by kernel_rfl)
  have h234 := @run_callFunc_extern Tryz.prog 302 _ (ReflectliteType.relation "Implements" ReflectliteType.implements_) Tryz.func302 (by kernel_rfl) (by kernel_rfl) (by kernel_rfl) (by kernel_rfl)
  have h114:=@run_callFunc_extern Tryz.prog 150 _ ReflectliteType.typeOf Tryz.func150 (by kernel_rfl) (by kernel_rfl) (by kernel_rfl) (by kernel_rfl)
  have h231 := @run_callFunc_extern Tryz.prog 299 _ (ReflectliteType.relation "AssignableTo" ReflectliteType.assignableTo) Tryz.func299 (by kernel_rfl) (by kernel_rfl) (by kernel_rfl) (by kernel_rfl)
  have h115 := @run_callFunc_extern Tryz.prog 151 _ (ReflectliteValue.method (ReflectliteValue.valueError "reflectlite.Value.Elem" 0) ReflectliteValue.elem) Tryz.func151 (by kernel_rfl) (by kernel_rfl) (by kernel_rfl) (by kernel_rfl)
  have h116:=@run_callFunc_extern Tryz.prog 152 _ ReflectliteValue.set Tryz.func152 (by kernel_rfl) (by kernel_rfl) (by kernel_rfl) (by kernel_rfl);have tO:=y4X;have mA:=y5c;have a35:=y4Y;have v35:=y50;have f6:=y4S;have f7:=y4T;have mK:=y4U;have mE:=y5a;have mI:=y5b;have k107:=y4V;have k35:=y4W;have e107:=y51;have i35:=y4Z;have n8:=y55 ⟨w.heap.size,0,none⟩ t ((w.alloc (.cells #[.pointer (some t)] 122)).alloc (.cells #[.pointer (some ⟨12,122,none⟩),.pointer (some ⟨w.heap.size,0,none⟩),.int .u64 150] 145)) (by simp);have hlt:0<w.heap.size:=by
    rcases Nat.eq_zero_or_pos w.heap.size with h0 | h
    · simp [World.cell?,h0] at hg
    · exact h
  have hg2:((w.alloc (.cells #[.pointer (some t)] 122)).alloc (.cells #[.pointer (some ⟨12,122,none⟩),.pointer (some ⟨w.heap.size,0,none⟩),.int .u64 150] 145)).cell? ⟨0,0,none⟩=some (.iface 192 (.agg #[.pointer (some ⟨12,57,none⟩)])):=by
    rw [World.cell?_alloc_lt _ _ ⟨0,0,none⟩ (by simp),World.cell?_alloc_lt _ _ ⟨0,0,none⟩ hlt];exact hg
  have htl:t.block<w.heap.size:=by
    rcases Nat.lt_or_ge t.block w.heap.size with h | h
    · exact h
    · simp [World.cell?,Array.getElem?_eq_none h] at ht0
  have el:=y57 ⟨w.heap.size,0,none⟩ t (((w.alloc (.cells #[.pointer (some t)] 122)).alloc (.cells #[.pointer (some ⟨12,122,none⟩),.pointer (some ⟨w.heap.size,0,none⟩),.int .u64 150] 145)).alloc (.cells #[.pointer (some ⟨12,122,none⟩),.pointer (some ⟨w.heap.size,0,none⟩),.int .u64 150] 145)) (by rw [World.cell?_alloc_lt _ _ ⟨w.heap.size,0,none⟩ (by simp;omega)];simp);have st:=y59 t ⟨w.heap.size+1+1+1,0,none⟩ e old ((((w.alloc (.cells #[.pointer (some t)] 122)).alloc (.cells #[.pointer (some ⟨12,122,none⟩),.pointer (some ⟨w.heap.size,0,none⟩),.int .u64 150] 145)).alloc (.cells #[.pointer (some ⟨12,122,none⟩),.pointer (some ⟨w.heap.size,0,none⟩),.int .u64 150] 145)).alloc (.cells #[.int .i64 e] 92))
    (by rw [World.cell?_alloc_at _ _ _ _ (by simp)];rfl)
    (by rw [World.cell?_alloc_lt _ _ t (by simp;omega),World.cell?_alloc_lt _ _ t (by simp;omega),World.cell?_alloc_lt _ _ t (by simp;omega),World.cell?_alloc_lt _ _ t htl];exact ht0)
    (by rw [World.frozen?_alloc_old _ _ t (by simp;omega),World.frozen?_alloc_old _ _ t (by simp;omega),World.frozen?_alloc_old _ _ t (by simp;omega),World.frozen?_alloc_old _ _ t (Nat.ne_of_lt htl)];exact hf0)
  go_enter Tryz.func65,Tryz.ntmps65;go_wp2;refine wp_loop_rounds 1 ?_;rw [rounds_succ];go_wp2;go_ret;exact ⟨rfl,rfl⟩
end Go.Proofs.YtjgghimjnbjlbaaGreatDoor
