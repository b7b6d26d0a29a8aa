import Derived.Test.YtjabhnhejbhgjaaGreatDoorMany2
import Derived.Stop.Asserts
import Derived.RowKitTokens
import Derived.LaidEql
import Derived.Lib.ReflectliteSlice
set_option maxRecDepth 100000
set_option maxHeartbeats 8000000
namespace Go.Proofs.YtjabhnhejbhgjaaGreatDoor
open Go.RowKit Go.Extern.Stop Go.Stop Go.Extern
theorem Tryz.asValueOfP(t:Addr)(w:World):(ReflectliteValue.unpack (.iface 217 (.pointer (some t)))).run Tryz.prog w
 = .ok (.agg #[.pointer (some ⟨9,217,none⟩),.pointer (some ⟨w.heap.size,0,none⟩),.int .u64 150]) (w.alloc (.cells #[.pointer (some t)] 217)):=by kernel_rfl
theorem Tryz.asValueOfB(e:Addr)(w:World):(ReflectliteValue.unpack (.iface 166 (.pointer (some e)))).run Tryz.prog w
 = .ok (.agg #[.pointer (some ⟨9,166,none⟩),.pointer (some ⟨w.heap.size,0,none⟩),.int .u64 150]) (w.alloc (.cells #[.pointer (some e)] 166)):=by kernel_rfl
theorem Tryz.asTypeP(a:Addr)(w:World):(ReflectliteValue.methodAny (ReflectliteValue.valueError "reflectlite.Value.Type" 0) (fun t _ _ _=>ReflectliteType.toType t) #[.agg #[.pointer (some ⟨9,217,none⟩),.pointer (some a),.int .u64 150]]).run Tryz.prog w
 = .ok (.iface 254 (.agg #[.pointer (some ⟨9,217,none⟩)])) w:=by kernel_rfl
theorem Tryz.asMKind(n:Nat)(h:Value)(w:World):(Go.method (n+2) 254 (.agg #[h]) "Kind").run Tryz.prog w=.ok (166,h) w:=by kernel_rfl
theorem Tryz.asKindP(w:World):((ReflectliteType.abiMethod fun t=>Functor.map (fun a:Nat=>Value.int IntKind.u8 (a:Int)) (Rtype.kind t)) #[.pointer (some ⟨9,217,none⟩)]).run Tryz.prog w=.ok (.int .u8 22) w:=by kernel_rfl
theorem Tryz.asKindB(w:World):((ReflectliteType.abiMethod fun t=>Functor.map (fun a:Nat=>Value.int IntKind.u8 (a:Int)) (Rtype.kind t)) #[.pointer (some ⟨9,166,none⟩)]).run Tryz.prog w=.ok (.int .u8 22) w:=by kernel_rfl
theorem Tryz.asMElem(n:Nat)(h:Value)(w:World):(Go.method (n+1) 254 (.agg #[h]) "Elem").run Tryz.prog w=.ok (177,.agg #[h]) w:=by kernel_rfl
theorem Tryz.asMImplements(n:Nat)(h:Value)(w:World):(Go.method (n+1) 254 (.agg #[h]) "Implements").run Tryz.prog w=.ok (178,.agg #[h]) w:=by kernel_rfl
theorem Tryz.asMAssignable(n:Nat)(h:Value)(w:World):(Go.method (n+1) 254 (.agg #[h]) "AssignableTo").run Tryz.prog w=.ok (175,.agg #[h]) w:=by kernel_rfl
theorem Tryz.asElemP(w:World):(ReflectliteType.method ReflectliteType.elem #[.agg #[.pointer (some ⟨9,217,none⟩)]]).run Tryz.prog w=.ok (.iface 254 (.agg #[.pointer (some ⟨9,166,none⟩)])) w:=by kernel_rfl
theorem Tryz.asImplements(w:World):(ReflectliteType.relation "Implements" ReflectliteType.implements_ #[.agg #[.pointer (some ⟨9,166,none⟩)],.iface 254 (.agg #[.pointer (some ⟨9,45,none⟩)])]).run Tryz.prog w=.ok (.bool true) w:=by kernel_rfl
theorem Tryz.asTypeOf(v:Value)(w:World):(ReflectliteType.typeOf #[.iface 166 v]).run Tryz.prog w=.ok (.iface 254 (.agg #[.pointer (some ⟨9,166,none⟩)])) w:=by kernel_rfl
theorem Tryz.asAssignable(w:World):(ReflectliteType.relation "AssignableTo" ReflectliteType.assignableTo #[.agg #[.pointer (some ⟨9,166,none⟩)],.iface 254 (.agg #[.pointer (some ⟨9,166,none⟩)])]).run Tryz.prog w=.ok (.bool true) w:=by kernel_rfl
theorem Tryz.asPartsP(a:Addr)(w:World):(ReflectliteValue.parts (.agg #[.pointer (some ⟨9,217,none⟩),.pointer (some a),.int .u64 150])).run Tryz.prog w=.ok (some (217,a,150)) w:=by kernel_rfl
theorem Tryz.asPartsB(a:Addr)(w:World):(ReflectliteValue.parts (.agg #[.pointer (some ⟨9,166,none⟩),.pointer (some a),.int .u64 150])).run Tryz.prog w=.ok (some (166,a,150)) w:=by kernel_rfl
theorem Tryz.asPartsA(a:Addr)(w:World):(ReflectliteValue.parts (.agg #[.pointer (some ⟨9,166,none⟩),.pointer (some a),.int .u64 406])).run Tryz.prog w=.ok (some (166,a,406)) w:=by kernel_rfl
theorem Tryz.asElemOf(w:World):(Rtype.elem? 217).run Tryz.prog w=.ok (some 166) w:=by kernel_rfl
theorem Tryz.asMk(p:Addr)(w:World):(ReflectliteValue.mk 166 p ReflectliteValue.flagAddr).run Tryz.prog w=.ok (.agg #[.pointer (some ⟨9,166,none⟩),.pointer (some p),.int .u64 406]) w:=by kernel_rfl
theorem Tryz.asDirect(w:World):(Rtype.directlyAssignable 166 166).run Tryz.prog w=.ok true w:=by kernel_rfl
theorem Tryz.asIsNil(a p:Addr)(W:World)(ha:W.cell? a=some (.pointer (some p))):
 (ReflectliteValue.method (ReflectliteValue.valueError "reflectlite.Value.IsNil" 0) ReflectliteValue.isNil #[.agg #[.pointer (some ⟨9,217,none⟩),.pointer (some a),.int .u64 150]]).run Tryz.prog W=.ok (.bool false) W:=by
 rw[Lib.rl_method];simp only[Sem.run_bind,Tryz.asPartsP,Result.andThen];simp[ReflectliteValue.isNil,loadVar,isAgg,underlying,Tryz.underlying217,ha,Result.andThen]
theorem Tryz.asElemV(a p:Addr)(W:World)(ha:W.cell? a=some (.pointer (some p))):
 (ReflectliteValue.method (ReflectliteValue.valueError "reflectlite.Value.Elem" 0) ReflectliteValue.elem #[.agg #[.pointer (some ⟨9,217,none⟩),.pointer (some a),.int .u64 150]]).run Tryz.prog W
  = .ok (.agg #[.pointer (some ⟨9,166,none⟩),.pointer (some p),.int .u64 406]) W:=by
 rw[Lib.rl_method];simp only[Sem.run_bind,Tryz.asPartsP,Result.andThen];simp[ReflectliteValue.elem,loadVar,isAgg,underlying,Tryz.underlying217,ha,Result.andThen,Tryz.asElemOf,Tryz.asMk]
theorem set_goes(v x:Value):∃ K:Option (TypeId×Addr×Nat)->Option (TypeId×Addr×Nat)->Sem Value,ReflectliteValue.set #[v,x]=(ReflectliteValue.parts v >>= fun p=>ReflectliteValue.parts x >>= fun q=>K p q)/\
 (∀ dst a src b f,∃ R:Value->Sem Value,K (some (dst,a,406)) (some (src,b,f))=(loadVar src b >>= fun val=>Rtype.directlyAssignable dst src >>= fun ok=>if ok=true then(storeVar dst a val >>= fun _=>pure (.tuple #[])) else R val)):=by
 refine⟨_,rfl,fun dst a src b f=>?_⟩;exact⟨_,rfl⟩
theorem Tryz.asSet(ta b e:Addr)(old:Value)(W:World)(hb:W.cell? b=some (.pointer (some e)))(ht:W.cell? ta=some old)(hf:W.frozen? ta=false):
 (ReflectliteValue.set #[.agg #[.pointer (some ⟨9,166,none⟩),.pointer (some ta),.int .u64 406],.agg #[.pointer (some ⟨9,166,none⟩),.pointer (some b),.int .u64 150]]).run Tryz.prog W
  = .ok (.tuple #[]) (W.setCell ta (.pointer (some e))):=by
 obtain⟨K,h1,h2⟩:=set_goes (.agg #[.pointer (some ⟨9,166,none⟩),.pointer (some ta),.int .u64 406]) (.agg #[.pointer (some ⟨9,166,none⟩),.pointer (some b),.int .u64 150]);obtain⟨R,h3⟩:=h2 166 ta 166 b 150;rw[h1];simp only[Sem.run_bind,Tryz.asPartsA,Tryz.asPartsB,Result.andThen,h3];simp[loadVar,isAgg,underlying,Tryz.underlying166,hb,Result.andThen,Tryz.asDirect,storeVar,Value.cells,storeCells,Addr.add];rw[run_store Tryz.prog W ta _ _ (by rfl)];simp[ht,hf]
def ErrType(w:World):Prop:=w.cell? ⟨8,0,none⟩=some (.iface 254 (.agg #[.pointer (some ⟨9,45,none⟩)]))
theorem as_bad(e t:Addr)(old:Value)(w:World)(hg:ErrType w)(ht0:w.cell? t=some old)(hf0:w.frozen? t=false)(htl:t.block<w.heap.size)(hgl:8<w.heap.size):
 Calls Tryz.prog 115 #[.iface 166 (.pointer (some e)),.iface 217 (.pointer (some t))] w fun ev w'=>ev=.returned (.bool true)/\w'=((((w.alloc (.cells #[.pointer (some t)] 217)).alloc (.cells #[.pointer (some ⟨9,217,none⟩),.pointer (some ⟨w.heap.size,0,none⟩),.int .u64 150] 233)).alloc (.cells #[.pointer (some ⟨9,217,none⟩),.pointer (some ⟨w.heap.size,0,none⟩),.int .u64 150] 233)).alloc (.cells #[.pointer (some e)] 166)).setCell t (.pointer (some e)):=by
 unfold ErrType at hg;have x1:=@run_callFunc_extern Tryz.prog 130 _ (fun args=>ReflectliteValue.unpack (args.getD 0 (.tuple #[]))) Tryz.func130 (by kernel_rfl) (by kernel_rfl) (by kernel_rfl) (by kernel_rfl);have x2:=@run_callFunc_extern Tryz.prog 131 _ (ReflectliteValue.methodAny (ReflectliteValue.valueError "reflectlite.Value.Type" 0) (fun t _ _ _=>ReflectliteType.toType t)) Tryz.func131 (by kernel_rfl) (by kernel_rfl) (by kernel_rfl) (by kernel_rfl);have x3:=@run_callFunc_extern Tryz.prog 132 _ (ReflectliteValue.method (ReflectliteValue.valueError "reflectlite.Value.IsNil" 0) ReflectliteValue.isNil) Tryz.func132 (by kernel_rfl) (by kernel_rfl) (by kernel_rfl) (by kernel_rfl);have x4:=@run_callFunc_extern Tryz.prog 166 _ (ReflectliteType.abiMethod fun t=>do pure (.int .u8 (<- Rtype.kind t))) Tryz.func166 (by kernel_rfl) (by kernel_rfl) (by kernel_rfl) (by kernel_rfl);have x5:=@run_callFunc_extern Tryz.prog 177 _ (ReflectliteType.method ReflectliteType.elem) Tryz.func177 (by kernel_rfl) (by kernel_rfl) (by kernel_rfl) (by kernel_rfl);have x6:=@run_callFunc_extern Tryz.prog 178 _ (ReflectliteType.relation "Implements" ReflectliteType.implements_) Tryz.func178 (by kernel_rfl) (by kernel_rfl) (by kernel_rfl) (by kernel_rfl);have x7:=@run_callFunc_extern Tryz.prog 142 _ ReflectliteType.typeOf Tryz.func142 (by kernel_rfl) (by kernel_rfl) (by kernel_rfl) (by kernel_rfl);have x8:=@run_callFunc_extern Tryz.prog 175 _ (ReflectliteType.relation "AssignableTo" ReflectliteType.assignableTo) Tryz.func175 (by kernel_rfl) (by kernel_rfl) (by kernel_rfl) (by kernel_rfl);have x9:=@run_callFunc_extern Tryz.prog 144 _ (ReflectliteValue.method (ReflectliteValue.valueError "reflectlite.Value.Elem" 0) ReflectliteValue.elem) Tryz.func144 (by kernel_rfl) (by kernel_rfl) (by kernel_rfl) (by kernel_rfl);have xA:=@run_callFunc_extern Tryz.prog 145 _ ReflectliteValue.set Tryz.func145 (by kernel_rfl) (by kernel_rfl) (by kernel_rfl) (by kernel_rfl);have y1:=Tryz.asTypeOf;have y2:=Tryz.asMAssignable;have y3:=Tryz.asAssignable;have y4:=Tryz.asValueOfB;have y5:=Tryz.asValueOfP;have y6:=Tryz.asTypeP;have y7:=Tryz.asMKind;have y8:=Tryz.asMElem;have y9:=Tryz.asMImplements;have z1:=Tryz.asKindP;have z2:=Tryz.asKindB;have z3:=Tryz.asElemP;have z4:=Tryz.asImplements;have n8:=Tryz.asIsNil ⟨w.heap.size,0,none⟩ t ((w.alloc (.cells #[.pointer (some t)] 217)).alloc (.cells #[.pointer (some ⟨9,217,none⟩),.pointer (some ⟨w.heap.size,0,none⟩),.int .u64 150] 233)) (by simp)
 have hg2:((w.alloc (.cells #[.pointer (some t)] 217)).alloc (.cells #[.pointer (some ⟨9,217,none⟩),.pointer (some ⟨w.heap.size,0,none⟩),.int .u64 150] 233)).cell? ⟨8,0,none⟩=some (.iface 254 (.agg #[.pointer (some ⟨9,45,none⟩)])):=by
  rw[World.cell?_alloc_lt _ _ ⟨8,0,none⟩ (by simp;omega),World.cell?_alloc_lt _ _ ⟨8,0,none⟩ hgl];exact hg
 have el:=Tryz.asElemV ⟨w.heap.size,0,none⟩ t (((w.alloc (.cells #[.pointer (some t)] 217)).alloc (.cells #[.pointer (some ⟨9,217,none⟩),.pointer (some ⟨w.heap.size,0,none⟩),.int .u64 150] 233)).alloc (.cells #[.pointer (some ⟨9,217,none⟩),.pointer (some ⟨w.heap.size,0,none⟩),.int .u64 150] 233)) (by rw[World.cell?_alloc_lt _ _ ⟨w.heap.size,0,none⟩ (by simp;omega)];simp)
 have st:=Tryz.asSet t ⟨w.heap.size+1+1+1,0,none⟩ e old ((((w.alloc (.cells #[.pointer (some t)] 217)).alloc (.cells #[.pointer (some ⟨9,217,none⟩),.pointer (some ⟨w.heap.size,0,none⟩),.int .u64 150] 233)).alloc (.cells #[.pointer (some ⟨9,217,none⟩),.pointer (some ⟨w.heap.size,0,none⟩),.int .u64 150] 233)).alloc (.cells #[.pointer (some e)] 166))
  (by rw[World.cell?_alloc_at _ _ _ _ (by simp)];rfl)
  (by rw[World.cell?_alloc_lt _ _ t (by simp;omega),World.cell?_alloc_lt _ _ t (by simp;omega),World.cell?_alloc_lt _ _ t (by simp;omega),World.cell?_alloc_lt _ _ t htl];exact ht0)
  (by rw[World.frozen?_alloc_old _ _ t (by simp;omega),World.frozen?_alloc_old _ _ t (by simp;omega),World.frozen?_alloc_old _ _ t (by simp;omega),World.frozen?_alloc_old _ _ t (Nat.ne_of_lt htl)];exact hf0)
 go_enter Tryz.func115,Tryz.ntmps115;go_wp2;refine wp_loop_rounds 1 ?_;rw[rounds_succ];go_wp2;go_ret;exact⟨rfl,rfl⟩
end Go.Proofs.YtjabhnhejbhgjaaGreatDoor
