import Derived.Test.YtpcijhecaedkpaaGreatDoorJ13
import Derived.LaidEql
import Derived.RowKitTokens
namespace Go.Proofs.YtpcijhecaedkpaaGreatDoor
open Go.RowKit Go.Extern
set_option maxRecDepth 100000
set_option maxHeartbeats 8000000
theorem as_nil (t:Value) (w:World):Calls Tryz.prog 34 #[.nilIface,t] w fun e w'=>e=.returned (.bool false)/\w'=w:=by
  go_enter Tryz.func34,Tryz.ntmps34;go_wp2;go_ret;exact ⟨rfl,rfl⟩
theorem rl_of107 (t:Addr) (w:World):(ReflectliteValue.unpack (.iface 102 (.pointer (some t)))).run Tryz.prog w=.ok (.agg #[.pointer (some ⟨12,102,none⟩),.pointer (some ⟨w.heap.size,0,none⟩),.int .u64 150]) (w.alloc (.cells #[.pointer (some t)] 102)):=by kernel_rfl
theorem rl_type107 (a : Addr) (w : World) : (ReflectliteValue.methodAny (ReflectliteValue.valueError "reflectlite.Value.Type" 0) (fun t _ _ _ => ReflectliteType.toType t) #[.agg #[.pointer (some ⟨12, 102, none⟩), .pointer (some a), .int .u64 150]]).run Tryz.prog w = .ok (.iface 232 (.agg #[.pointer (some ⟨12, 102, none⟩)])) w := by kernel_rfl
theorem rl_kindOf (h : Value) (w : World) : (Go.method 483 232 (.agg #[h]) "Kind").run Tryz.prog w = .ok (331, h) w := by kernel_rfl
theorem rl_kind107 (w:World):((ReflectliteType.abiMethod fun t=>Functor.map (fun a:Nat=>Value.int IntKind.u8 (a:Int)) (Rtype.kind t)) #[.pointer (some ⟨12,102,none⟩)]).run Tryz.prog w=.ok (.int .u8 22) w:=by kernel_rfl
theorem rl_kind35 (w:World):((ReflectliteType.abiMethod fun t=>Functor.map (fun a:Nat=>Value.int IntKind.u8 (a:Int)) (Rtype.kind t)) #[.pointer (some ⟨12,54,none⟩)]).run Tryz.prog w=.ok (.int .u8 2) w:=by kernel_rfl
theorem rl_typeOf35 (v:Value) (w:World):(ReflectliteType.typeOf #[.iface 54 v]).run Tryz.prog w=.ok (.iface 232 (.agg #[.pointer (some ⟨12,54,none⟩)])) w:=by kernel_rfl
theorem rl_assign35 (w : World) : (ReflectliteType.relation "AssignableTo" ReflectliteType.assignableTo #[.agg #[.pointer (some ⟨12, 54, none⟩)], .iface 232 (.agg #[.pointer (some ⟨12, 54, none⟩)])]).run Tryz.prog w = .ok (.bool true) w := by kernel_rfl
theorem rl_impl35 (w : World) : (ReflectliteType.relation "Implements" ReflectliteType.implements_ #[.agg #[.pointer (some ⟨12, 54, none⟩)], .iface 232 (.agg #[.pointer (some ⟨12, 77, none⟩)])]).run Tryz.prog w = .ok (.bool true) w := by kernel_rfl
theorem rl_of35 (e:Int) (w:World):(ReflectliteValue.unpack (.iface 54 (.int .i64 e))).run Tryz.prog w=.ok (.agg #[.pointer (some ⟨12,54,none⟩),.pointer (some ⟨w.heap.size,0,none⟩),.int .u64 130]) (w.alloc (.cells #[.int .i64 e] 54)):=by kernel_rfl
theorem rl_elem107 (w:World):(ReflectliteType.method ReflectliteType.elem #[.agg #[.pointer (some ⟨12,102,none⟩)]]).run Tryz.prog w=.ok (.iface 232 (.agg #[.pointer (some ⟨12,54,none⟩)])) w:=by kernel_rfl
theorem rl_mk35 (p:Addr) (w:World):(ReflectliteValue.mk 54 p ReflectliteValue.flagAddr).run Tryz.prog w=.ok (.agg #[.pointer (some ⟨12,54,none⟩),.pointer (some p),.int .u64 386]) w:=by kernel_rfl
theorem rl_p107 (a:Addr) (w:World):(ReflectliteValue.parts (.agg #[.pointer (some ⟨12,102,none⟩),.pointer (some a),.int .u64 150])).run Tryz.prog w=.ok (some (102,a,150)) w:=by kernel_rfl
theorem rl_p35a (a:Addr) (w:World):(ReflectliteValue.parts (.agg #[.pointer (some ⟨12,54,none⟩),.pointer (some a),.int .u64 386])).run Tryz.prog w=.ok (some (54,a,386)) w:=by kernel_rfl
theorem rl_p35 (a:Addr) (w:World):(ReflectliteValue.parts (.agg #[.pointer (some ⟨12,54,none⟩),.pointer (some a),.int .u64 130])).run Tryz.prog w=.ok (some (54,a,130)) w:=by kernel_rfl
theorem rl_isNil107 (a p : Addr) (W : World) (ha : W.cell? a = some (.pointer (some p))) : (ReflectliteValue.method (ReflectliteValue.valueError "reflectlite.Value.IsNil" 0) ReflectliteValue.isNil #[.agg #[.pointer (some ⟨12, 102, none⟩), .pointer (some a), .int .u64 150]]).run Tryz.prog W = .ok (.bool false) W := by
  change (ReflectliteValue.parts (.agg #[.pointer (some ⟨12,102,none⟩),.pointer (some a),.int .u64 150]) >>= _).run Tryz.prog W=_
  rw [Sem.run_bind,rl_p107]
  change (ReflectliteValue.isNil 102 a 150 (150 % 32)).run Tryz.prog W=_
  simp [ReflectliteValue.isNil,loadVar,isAgg,underlying,Tryz.underlying102,ha,Result.andThen]
theorem rl_elemOf107 (w:World):(Rtype.elem? 102).run Tryz.prog w=.ok (some 54) w:=by kernel_rfl
theorem rl_elemV107 (a p : Addr) (W : World) (ha : W.cell? a = some (.pointer (some p))) : (ReflectliteValue.method (ReflectliteValue.valueError "reflectlite.Value.Elem" 0) ReflectliteValue.elem #[.agg #[.pointer (some ⟨12, 102, none⟩), .pointer (some a), .int .u64 150]]).run Tryz.prog W = .ok (.agg #[.pointer (some ⟨12, 54, none⟩), .pointer (some p), .int .u64 386]) W := by
  change (ReflectliteValue.parts (.agg #[.pointer (some ⟨12,102,none⟩),.pointer (some a),.int .u64 150]) >>= _).run Tryz.prog W=_
  rw [Sem.run_bind,rl_p107]
  change (ReflectliteValue.elem 102 a 150 (150 % 32)).run Tryz.prog W=_
  simp [ReflectliteValue.elem,loadVar,isAgg,underlying,Tryz.underlying102,ha,Result.andThen,rl_elemOf107,rl_mk35]
theorem rl_direct35 (w:World):(Rtype.directlyAssignable 54 54).run Tryz.prog w=.ok true w:=by kernel_rfl
theorem rl_set35 (ta b:Addr) (e:Int) (old:Value) (W:World) (hb:W.cell? b=some (.int .i64 e)) (ht:W.cell? ta=some old) (hf:W.frozen? ta=false) :
    (ReflectliteValue.set #[.agg #[.pointer (some ⟨12,54,none⟩),.pointer (some ta),.int .u64 386],.agg #[.pointer (some ⟨12,54,none⟩),.pointer (some b),.int .u64 130]]).run Tryz.prog W=.ok (.tuple #[]) (W.setCell ta (.int .i64 e)):=by
  change (ReflectliteValue.parts (.agg #[.pointer (some ⟨12,54,none⟩),.pointer (some ta),.int .u64 386]) >>= _).run Tryz.prog W=_
  rw [Sem.run_bind,rl_p35a]
  change (ReflectliteValue.parts (.agg #[.pointer (some ⟨12,54,none⟩),.pointer (some b),.int .u64 130]) >>= _).run Tryz.prog W=_
  rw [Sem.run_bind,rl_p35];simp [ReflectliteValue.flagAddr,loadVar,isAgg,underlying,Tryz.underlying54,hb,Result.andThen,rl_direct35,storeVar,Value.cells,storeCells,Addr.add];rw [run_store Tryz.prog W ta _ _ (by rfl)];simp [ht,hf]
theorem rl_mElem (h : Value) (w : World) : (Go.method 483 232 (.agg #[h]) "Elem").run Tryz.prog w = .ok (344, .agg #[h]) w := by kernel_rfl
theorem rl_mImpl (h : Value) (w : World) : (Go.method 483 232 (.agg #[h]) "Implements").run Tryz.prog w = .ok (345, .agg #[h]) w := by kernel_rfl
theorem rl_mAssign (h : Value) (w : World) : (Go.method 483 232 (.agg #[h]) "AssignableTo").run Tryz.prog w = .ok (342, .agg #[h]) w := by kernel_rfl
theorem as_hit (e:Int) (t:Addr) (old:Value) (w:World) (hg:w.cell? ⟨0,0,none⟩=some (.iface 232 (.agg #[.pointer (some ⟨12,77,none⟩)]))) (ht0:w.cell? t=some old) (hf0:w.frozen? t=false) :
    Calls Tryz.prog 34 #[.iface 54 (.int .i64 e),.iface 102 (.pointer (some t))] w fun ev w'=>ev=.returned (.bool true)/\w'=((((w.alloc (.cells #[.pointer (some t)] 102)).alloc (.cells #[.pointer (some ⟨12,102,none⟩),.pointer (some ⟨w.heap.size,0,none⟩),.int .u64 150] 150)).alloc (.cells #[.pointer (some ⟨12,102,none⟩),.pointer (some ⟨w.heap.size,0,none⟩),.int .u64 150] 150)).alloc (.cells #[.int .i64 e] 54)).setCell t (.int .i64 e):=by
  have h73:=@run_callFunc_extern Tryz.prog 97 _ (fun args=>ReflectliteValue.unpack (args.getD 0 (.tuple #[]))) Tryz.func97 (by kernel_rfl) (by kernel_rfl) (by kernel_rfl) (by kernel_rfl)
  have h74 := @run_callFunc_extern Tryz.prog 98 _ (ReflectliteValue.methodAny (ReflectliteValue.valueError "reflectlite.Value.Type" 0) (fun t _ _ _ => ReflectliteType.toType t)) Tryz.func98 (by kernel_rfl) (by kernel_rfl) (by kernel_rfl) (by kernel_rfl)
  have h75 := @run_callFunc_extern Tryz.prog 99 _ (ReflectliteValue.method (ReflectliteValue.valueError "reflectlite.Value.IsNil" 0) ReflectliteValue.isNil) Tryz.func99 (by kernel_rfl) (by kernel_rfl) (by kernel_rfl) (by kernel_rfl)
  have h220:=@run_callFunc_extern Tryz.prog 331 _ (ReflectliteType.abiMethod fun t=>do pure (.int .u8 (<- Rtype.kind t))) Tryz.func331 (by kernel_rfl) (by kernel_rfl) (by kernel_rfl) (by kernel_rfl);have h233:=@run_callFunc_extern Tryz.prog 344 _ (ReflectliteType.method ReflectliteType.elem) Tryz.func344 (by kernel_rfl) (by kernel_rfl) (by kernel_rfl) (by kernel_rfl)
  have h234 := @run_callFunc_extern Tryz.prog 345 _ (ReflectliteType.relation "Implements" ReflectliteType.implements_) Tryz.func345 (by kernel_rfl) (by kernel_rfl) (by kernel_rfl) (by kernel_rfl)
  have h114:=@run_callFunc_extern Tryz.prog 172 _ ReflectliteType.typeOf Tryz.func172 (by kernel_rfl) (by kernel_rfl) (by kernel_rfl) (by kernel_rfl)
  have h231 := @run_callFunc_extern Tryz.prog 342 _ (ReflectliteType.relation "AssignableTo" ReflectliteType.assignableTo) Tryz.func342 (by kernel_rfl) (by kernel_rfl) (by kernel_rfl) (by kernel_rfl)
  have h115 := @run_callFunc_extern Tryz.prog 173 _ (ReflectliteValue.method (ReflectliteValue.valueError "reflectlite.Value.Elem" 0) ReflectliteValue.elem) Tryz.func173 (by kernel_rfl) (by kernel_rfl) (by kernel_rfl) (by kernel_rfl)
  have h116:=@run_callFunc_extern Tryz.prog 174 _ ReflectliteValue.set Tryz.func174 (by kernel_rfl) (by kernel_rfl) (by kernel_rfl) (by kernel_rfl);have tO:=rl_typeOf35;have mA:=rl_mAssign;have a35:=rl_assign35;have v35:=rl_of35;have f6:=rl_of107;have f7:=rl_type107;have mK:=rl_kindOf;have mE:=rl_mElem;have mI:=rl_mImpl;have k107:=rl_kind107;have k35:=rl_kind35;have e107:=rl_elem107;have i35:=rl_impl35;have n8:=rl_isNil107 ⟨w.heap.size,0,none⟩ t ((w.alloc (.cells #[.pointer (some t)] 102)).alloc (.cells #[.pointer (some ⟨12,102,none⟩),.pointer (some ⟨w.heap.size,0,none⟩),.int .u64 150] 150)) (by simp);have hlt:0<w.heap.size:=by
    rcases Nat.eq_zero_or_pos w.heap.size with h0 | h
    · simp [World.cell?,h0] at hg
    · exact h
  have hg2:((w.alloc (.cells #[.pointer (some t)] 102)).alloc (.cells #[.pointer (some ⟨12,102,none⟩),.pointer (some ⟨w.heap.size,0,none⟩),.int .u64 150] 150)).cell? ⟨0,0,none⟩=some (.iface 232 (.agg #[.pointer (some ⟨12,77,none⟩)])):=by
    rw [World.cell?_alloc_lt _ _ ⟨0,0,none⟩ (by simp),World.cell?_alloc_lt _ _ ⟨0,0,none⟩ hlt];exact hg
  have htl:t.block<w.heap.size:=by
    rcases Nat.lt_or_ge t.block w.heap.size with h | h
    · exact h
    · simp [World.cell?,Array.getElem?_eq_none h] at ht0
  have el:=rl_elemV107 ⟨w.heap.size,0,none⟩ t (((w.alloc (.cells #[.pointer (some t)] 102)).alloc (.cells #[.pointer (some ⟨12,102,none⟩),.pointer (some ⟨w.heap.size,0,none⟩),.int .u64 150] 150)).alloc (.cells #[.pointer (some ⟨12,102,none⟩),.pointer (some ⟨w.heap.size,0,none⟩),.int .u64 150] 150)) (by rw [World.cell?_alloc_lt _ _ ⟨w.heap.size,0,none⟩ (by simp;omega)];simp);have st:=rl_set35 t ⟨w.heap.size+1+1+1,0,none⟩ e old ((((w.alloc (.cells #[.pointer (some t)] 102)).alloc (.cells #[.pointer (some ⟨12,102,none⟩),.pointer (some ⟨w.heap.size,0,none⟩),.int .u64 150] 150)).alloc (.cells #[.pointer (some ⟨12,102,none⟩),.pointer (some ⟨w.heap.size,0,none⟩),.int .u64 150] 150)).alloc (.cells #[.int .i64 e] 54))
    (by rw [World.cell?_alloc_at _ _ _ _ (by simp)];rfl)
    (by rw [World.cell?_alloc_lt _ _ t (by simp;omega),World.cell?_alloc_lt _ _ t (by simp;omega),World.cell?_alloc_lt _ _ t (by simp;omega),World.cell?_alloc_lt _ _ t htl];exact ht0)
    (by rw [World.frozen?_alloc_old _ _ t (by simp;omega),World.frozen?_alloc_old _ _ t (by simp;omega),World.frozen?_alloc_old _ _ t (by simp;omega),World.frozen?_alloc_old _ _ t (Nat.ne_of_lt htl)];exact hf0)
  go_enter Tryz.func34,Tryz.ntmps34;go_wp2;refine wp_loop_rounds 1 ?_;rw [rounds_succ];go_wp2;go_ret;exact ⟨rfl,rfl⟩
end Go.Proofs.YtpcijhecaedkpaaGreatDoor
