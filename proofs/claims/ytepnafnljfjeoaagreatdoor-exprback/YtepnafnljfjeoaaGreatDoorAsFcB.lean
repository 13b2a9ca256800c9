/- Closed facts on the program s error types: what errors.Is and errors.As ask of them.
   Closed facts on the library s reflection at the program s error types, for errors.As; after the guide s worked example over one pointer type. -/
import Derived.Test.YtepnafnljfjeoaaGreatDoorBaseAll
import Derived.LaidEql
import Derived.Stop.Asserts
import Derived.RowKitTokens
namespace Go.Proofs.YtepnafnljfjeoaaGreatDoor.Err
open Go.RowKit Go.Extern.Stop Go.Stop Go.Extern Line
set_option linter.unusedVariables false

/-! ### equality of two errors of one integer type -/
theorem run_eqlIn_num {P : Program} (w : World) (d : Nat) {ti tn : TypeId} {ms : Array (String × TypeId)} {i : TypeInfo} {k : IntKind} (a b : Int)
    (hi : P.underlying ti = some (.interface ms)) (hn : P.underlying tn = some (.int k)) (hinfo : P.info? tn = some i) (hcomp : i.comparable = true) :
    (Op.equalIn (d + 2) ti (.iface tn (.int k a)) (.iface tn (.int k b))).run P w = .ok (a == b) w := by
  simp [Op.equalIn, run_underlying hi, run_underlying hn, typeInfo, hinfo, hcomp]
theorem run_eql_num {P : Program} (w : World) {ti tn : TypeId} {ms : Array (String × TypeId)} {i : TypeInfo} {k : IntKind} (a b : Int)
    (hi : P.underlying ti = some (.interface ms)) (hn : P.underlying tn = some (.int k)) (hinfo : P.info? tn = some i) (hcomp : i.comparable = true) :
    (binOp .eql ti (.iface tn (.int k a)) (.iface tn (.int k b))).run P w = .ok (.bool (a == b)) w := by
  simp only [binOp]
  simp [Op.equal, Op.maxDepth, run_eqlIn_num w 9998 a b hi hn hinfo hcomp]

/-! ### closed facts on the program s types: 45: a pointer to Fault, 46: Errno, 54: a pointer to 45, 57: a pointer to 46, 25: error, 91: the type s handle; 4 package-level variables -/
theorem comp46 : (Tryz.prog.info? 95).map (·.comparable) = some true := by kernel_rfl
theorem typeOf46 (v : Value) (w : World) : (ReflectliteType.typeOf #[.iface 95 v]).run Tryz.prog w = .ok (.iface 154 (.agg #[.pointer (some ⟨7, 95, none⟩)])) w := by kernel_rfl
theorem typeOf45 (v : Value) (w : World) : (ReflectliteType.typeOf #[.iface 96 v]).run Tryz.prog w = .ok (.iface 154 (.agg #[.pointer (some ⟨7, 96, none⟩)])) w := by kernel_rfl
def cmpEntry : Array Value → Sem Value := ReflectliteType.method fun t => do Rtype.noPackHeld "Comparable" t; pure (.bool (← typeInfo t).comparable)
theorem call86 (args : Array Value) (w : World) : (callFunc 144 args).run Tryz.prog w = ((cmpEntry args).run Tryz.prog w).andThen fun v w' => .ok (.value v) w' :=
  run_callFunc_extern Tryz.func144 (by kernel_rfl) (by kernel_rfl) (by kernel_rfl) (by kernel_rfl) args w
theorem cmp46 (w : World) : (cmpEntry #[.agg #[.pointer (some ⟨7, 95, none⟩)]]).run Tryz.prog w = .ok (.bool true) w := by kernel_rfl
theorem mComparable (v : Value) (w : World) : (Go.method 329 154 v "Comparable").run Tryz.prog w = .ok (144, v) w := by kernel_rfl
theorem noIs45 (v : Value) (xT : TypeId) (w : World) : (Instr.typeAssert (.iface 96 v) xT 156 true).run Tryz.prog w = .ok (.tuple #[.nilIface, .bool false]) w := run_typeAssert_lacksB Tryz.underlying156 (by kernel_rfl) (by kernel_rfl) v xT w
theorem noIs46 (v : Value) (xT : TypeId) (w : World) : (Instr.typeAssert (.iface 95 v) xT 156 true).run Tryz.prog w = .ok (.tuple #[.nilIface, .bool false]) w := run_typeAssert_lacksB Tryz.underlying156 (by kernel_rfl) (by kernel_rfl) v xT w
theorem hasUnwrap45 (v : Value) (xT : TypeId) (w : World) : (Instr.typeAssert (.iface 96 v) xT 159 true).run Tryz.prog w = .ok (.tuple #[.iface 96 v, .bool true]) w := run_typeAssert_hasB Tryz.underlying159 (by kernel_rfl) v xT w
theorem noUnwrap46 (v : Value) (xT : TypeId) (w : World) : (Instr.typeAssert (.iface 95 v) xT 159 true).run Tryz.prog w = .ok (.tuple #[.nilIface, .bool false]) w := run_typeAssert_lacksB Tryz.underlying159 (by kernel_rfl) (by kernel_rfl) v xT w
theorem noUnwraps46 (v : Value) (xT : TypeId) (w : World) : (Instr.typeAssert (.iface 95 v) xT 161 true).run Tryz.prog w = .ok (.tuple #[.nilIface, .bool false]) w := run_typeAssert_lacksB Tryz.underlying161 (by kernel_rfl) (by kernel_rfl) v xT w
theorem noAs46 (v : Value) (xT : TypeId) (w : World) : (Instr.typeAssert (.iface 95 v) xT 166 true).run Tryz.prog w = .ok (.tuple #[.nilIface, .bool false]) w := run_typeAssert_lacksB Tryz.underlying166 (by kernel_rfl) (by kernel_rfl) v xT w
theorem mUnwrap (v : Value) (w : World) : (Go.method 329 96 v "Unwrap").run Tryz.prog w = .ok (138, v) w := by kernel_rfl

end Go.Proofs.YtepnafnljfjeoaaGreatDoor.Err

namespace Go.Proofs.YtepnafnljfjeoaaGreatDoor.Err
open Go.RowKit Go.Extern.Stop Go.Stop Go.Extern Line
set_option linter.unusedVariables false

def valueEntry : Array Value → Sem Value := fun args => ReflectliteValue.unpack (args.getD 0 (.tuple #[]))
def typeEntry : Array Value → Sem Value := ReflectliteValue.methodAny (ReflectliteValue.valueError "reflectlite.Value.Type" 0) (fun t _ _ _ => ReflectliteType.toType t)
def isNilEntry : Array Value → Sem Value := ReflectliteValue.method (ReflectliteValue.valueError "reflectlite.Value.IsNil" 0) ReflectliteValue.isNil
def elemEntry : Array Value → Sem Value := ReflectliteValue.method (ReflectliteValue.valueError "reflectlite.Value.Elem" 0) ReflectliteValue.elem
def setEntry : Array Value → Sem Value := ReflectliteValue.set
def kindEntry : Array Value → Sem Value := ReflectliteType.abiMethod fun t => do pure (.int .u8 (← Rtype.kind t))
def elemTypeEntry : Array Value → Sem Value := ReflectliteType.method ReflectliteType.elem
def implementsEntry : Array Value → Sem Value := ReflectliteType.relation "Implements" ReflectliteType.implements_
def assignableEntry : Array Value → Sem Value := ReflectliteType.relation "AssignableTo" ReflectliteType.assignableTo
def typeOfEntry : Array Value → Sem Value := ReflectliteType.typeOf
theorem call31 (args : Array Value) (w : World) : (callFunc 65 args).run Tryz.prog w = ((valueEntry args).run Tryz.prog w).andThen fun v w' => .ok (.value v) w' :=
  run_callFunc_extern Tryz.func65 (by kernel_rfl) (by kernel_rfl) (by kernel_rfl) (by kernel_rfl) args w
theorem call32 (args : Array Value) (w : World) : (callFunc 66 args).run Tryz.prog w = ((typeEntry args).run Tryz.prog w).andThen fun v w' => .ok (.value v) w' :=
  run_callFunc_extern Tryz.func66 (by kernel_rfl) (by kernel_rfl) (by kernel_rfl) (by kernel_rfl) args w
theorem call33 (args : Array Value) (w : World) : (callFunc 67 args).run Tryz.prog w = ((isNilEntry args).run Tryz.prog w).andThen fun v w' => .ok (.value v) w' :=
  run_callFunc_extern Tryz.func67 (by kernel_rfl) (by kernel_rfl) (by kernel_rfl) (by kernel_rfl) args w
theorem call44 (args : Array Value) (w : World) : (callFunc 87 args).run Tryz.prog w = ((elemEntry args).run Tryz.prog w).andThen fun v w' => .ok (.value v) w' :=
  run_callFunc_extern Tryz.func87 (by kernel_rfl) (by kernel_rfl) (by kernel_rfl) (by kernel_rfl) args w
theorem call45 (args : Array Value) (w : World) : (callFunc 88 args).run Tryz.prog w = ((setEntry args).run Tryz.prog w).andThen fun v w' => .ok (.value v) w' :=
  run_callFunc_extern Tryz.func88 (by kernel_rfl) (by kernel_rfl) (by kernel_rfl) (by kernel_rfl) args w
theorem call74 (args : Array Value) (w : World) : (callFunc 132 args).run Tryz.prog w = ((kindEntry args).run Tryz.prog w).andThen fun v w' => .ok (.value v) w' :=
  run_callFunc_extern Tryz.func132 (by kernel_rfl) (by kernel_rfl) (by kernel_rfl) (by kernel_rfl) args w
theorem call87 (args : Array Value) (w : World) : (callFunc 145 args).run Tryz.prog w = ((elemTypeEntry args).run Tryz.prog w).andThen fun v w' => .ok (.value v) w' :=
  run_callFunc_extern Tryz.func145 (by kernel_rfl) (by kernel_rfl) (by kernel_rfl) (by kernel_rfl) args w
theorem call88 (args : Array Value) (w : World) : (callFunc 146 args).run Tryz.prog w = ((implementsEntry args).run Tryz.prog w).andThen fun v w' => .ok (.value v) w' :=
  run_callFunc_extern Tryz.func146 (by kernel_rfl) (by kernel_rfl) (by kernel_rfl) (by kernel_rfl) args w
theorem call85 (args : Array Value) (w : World) : (callFunc 143 args).run Tryz.prog w = ((assignableEntry args).run Tryz.prog w).andThen fun v w' => .ok (.value v) w' :=
  run_callFunc_extern Tryz.func143 (by kernel_rfl) (by kernel_rfl) (by kernel_rfl) (by kernel_rfl) args w
theorem call29 (args : Array Value) (w : World) : (callFunc 63 args).run Tryz.prog w = ((typeOfEntry args).run Tryz.prog w).andThen fun v w' => .ok (.value v) w' :=
  run_callFunc_extern Tryz.func63 (by kernel_rfl) (by kernel_rfl) (by kernel_rfl) (by kernel_rfl) args w

theorem typeOfE45 (v : Value) (w : World) : (typeOfEntry #[.iface 96 v]).run Tryz.prog w = .ok (.iface 154 (.agg #[.pointer (some ⟨7, 96, none⟩)])) w := by kernel_rfl
theorem typeOfE46 (v : Value) (w : World) : (typeOfEntry #[.iface 95 v]).run Tryz.prog w = .ok (.iface 154 (.agg #[.pointer (some ⟨7, 95, none⟩)])) w := by kernel_rfl
theorem mKind (h : Value) (w : World) : (Go.method 329 154 (.agg #[h]) "Kind").run Tryz.prog w = .ok (132, h) w := by kernel_rfl
theorem mElem (h : Value) (w : World) : (Go.method 329 154 (.agg #[h]) "Elem").run Tryz.prog w = .ok (145, .agg #[h]) w := by kernel_rfl
theorem mImplements (h : Value) (w : World) : (Go.method 329 154 (.agg #[h]) "Implements").run Tryz.prog w = .ok (146, .agg #[h]) w := by kernel_rfl
theorem mAssignableTo (h : Value) (w : World) : (Go.method 329 154 (.agg #[h]) "AssignableTo").run Tryz.prog w = .ok (143, .agg #[h]) w := by kernel_rfl
theorem notAssignable (w : World) : (assignableEntry #[.agg #[.pointer (some ⟨7, 95, none⟩)], .iface 154 (.agg #[.pointer (some ⟨7, 96, none⟩)])]).run Tryz.prog w = .ok (.bool false) w := by kernel_rfl
theorem two_args (v x : Value) (f : Value → Value → Sem Value) (g : Array Value → Sem Value) : ReflectliteValue.set.match_3 (motive := fun _ => Sem Value) #[v, x] f g = f v x := rfl
theorem one_arg (v : Value) (f : Value → Sem Value) (g : Array Value → Sem Value) : ReflectliteValue.method.match_2 (motive := fun _ => Sem Value) #[v] f g = f v := rfl

/-! ### the target's type 54, a pointer to 45 -/
theorem valueOf54 (t : Addr) (w : World) : (valueEntry #[.iface 102 (.pointer (some t))]).run Tryz.prog w
    = .ok (.agg #[.pointer (some ⟨7, 102, none⟩), .pointer (some ⟨w.heap.size, 0, none⟩), .int .u64 150]) (w.alloc (.cells #[.pointer (some t)] 102)) := by kernel_rfl
theorem type54 (a : Addr) (w : World) : (typeEntry #[.agg #[.pointer (some ⟨7, 102, none⟩), .pointer (some a), .int .u64 150]]).run Tryz.prog w
    = .ok (.iface 154 (.agg #[.pointer (some ⟨7, 102, none⟩)])) w := by kernel_rfl
theorem kind54 (w : World) : (kindEntry #[.pointer (some ⟨7, 102, none⟩)]).run Tryz.prog w = .ok (.int .u8 22) w := by kernel_rfl
theorem kind45 (w : World) : (kindEntry #[.pointer (some ⟨7, 96, none⟩)]).run Tryz.prog w = .ok (.int .u8 22) w := by kernel_rfl
theorem parts54 (a : Addr) (w : World) : (ReflectliteValue.parts (.agg #[.pointer (some ⟨7, 102, none⟩), .pointer (some a), .int .u64 150])).run Tryz.prog w = .ok (some (102, a, 150)) w := by kernel_rfl
theorem isNil54 (a p : Addr) (W : World) (ha : W.cell? a = some (.pointer (some p))) :
    (isNilEntry #[.agg #[.pointer (some ⟨7, 102, none⟩), .pointer (some a), .int .u64 150]]).run Tryz.prog W = .ok (.bool false) W := by
  unfold isNilEntry
  delta ReflectliteValue.method
  rw [one_arg]
  simp only [Sem.run_bind, parts54, Result.andThen]
  simp [ReflectliteValue.isNil, loadVar, isAgg, underlying, Tryz.underlying102, ha, Result.andThen]
theorem elem54 (w : World) : (elemTypeEntry #[.agg #[.pointer (some ⟨7, 102, none⟩)]]).run Tryz.prog w = .ok (.iface 154 (.agg #[.pointer (some ⟨7, 96, none⟩)])) w := by kernel_rfl
theorem implements45 (w : World) : (implementsEntry #[.agg #[.pointer (some ⟨7, 96, none⟩)], .iface 154 (.agg #[.pointer (some ⟨7, 43, none⟩)])]).run Tryz.prog w = .ok (.bool true) w := by kernel_rfl
theorem assignable45 (w : World) : (assignableEntry #[.agg #[.pointer (some ⟨7, 96, none⟩)], .iface 154 (.agg #[.pointer (some ⟨7, 96, none⟩)])]).run Tryz.prog w = .ok (.bool true) w := by kernel_rfl
theorem valueOf45 (e : Addr) (w : World) : (valueEntry #[.iface 96 (.pointer (some e))]).run Tryz.prog w
    = .ok (.agg #[.pointer (some ⟨7, 96, none⟩), .pointer (some ⟨w.heap.size, 0, none⟩), .int .u64 150]) (w.alloc (.cells #[.pointer (some e)] 96)) := by kernel_rfl
theorem elemOf54 (w : World) : (Rtype.elem? 102).run Tryz.prog w = .ok (some 96) w := by kernel_rfl
theorem mk45 (p : Addr) (w : World) : (ReflectliteValue.mk 96 p ReflectliteValue.flagAddr).run Tryz.prog w = .ok (.agg #[.pointer (some ⟨7, 96, none⟩), .pointer (some p), .int .u64 406]) w := by kernel_rfl
theorem elemV54 (a p : Addr) (W : World) (ha : W.cell? a = some (.pointer (some p))) :
    (elemEntry #[.agg #[.pointer (some ⟨7, 102, none⟩), .pointer (some a), .int .u64 150]]).run Tryz.prog W
      = .ok (.agg #[.pointer (some ⟨7, 96, none⟩), .pointer (some p), .int .u64 406]) W := by
  unfold elemEntry
  delta ReflectliteValue.method
  rw [one_arg]
  simp only [Sem.run_bind, parts54, Result.andThen]
  simp [ReflectliteValue.elem, loadVar, isAgg, underlying, Tryz.underlying102, ha, Result.andThen, elemOf54, mk45]
theorem parts45a (a : Addr) (w : World) : (ReflectliteValue.parts (.agg #[.pointer (some ⟨7, 96, none⟩), .pointer (some a), .int .u64 406])).run Tryz.prog w = .ok (some (96, a, 406)) w := by kernel_rfl
theorem parts45 (a : Addr) (w : World) : (ReflectliteValue.parts (.agg #[.pointer (some ⟨7, 96, none⟩), .pointer (some a), .int .u64 150])).run Tryz.prog w = .ok (some (96, a, 150)) w := by kernel_rfl
theorem direct45 (w : World) : (Rtype.directlyAssignable 96 96).run Tryz.prog w = .ok true w := by kernel_rfl
theorem size45 (w : World) : (sizeOf 96).run Tryz.prog w = .ok 1 w := by kernel_rfl
theorem set45 (ta b : Addr) (e : Addr) (old : Value) (W : World) (hb : W.cell? b = some (.pointer (some e))) (ht : W.cell? ta = some old) (hf : W.frozen? ta = false) :
    (setEntry #[.agg #[.pointer (some ⟨7, 96, none⟩), .pointer (some ta), .int .u64 406], .agg #[.pointer (some ⟨7, 96, none⟩), .pointer (some b), .int .u64 150]]).run Tryz.prog W
      = .ok (.tuple #[]) (W.setCell ta (.pointer (some e))) := by
  unfold setEntry
  delta ReflectliteValue.set
  rw [two_args]
  simp only [Sem.run_bind, parts45a, parts45, Result.andThen]
  simp [ReflectliteValue.flagAddr, loadVar, isAgg, underlying, Tryz.underlying96, hb, Result.andThen, direct45, storeVar, Value.cells, storeCells, Addr.add]
  rw [run_store Tryz.prog W ta _ _ (by rfl)]
  simp [ht, hf]

/-! ### the target's type 57, a pointer to 46 -/
theorem valueOf57 (t : Addr) (w : World) : (valueEntry #[.iface 105 (.pointer (some t))]).run Tryz.prog w
    = .ok (.agg #[.pointer (some ⟨7, 105, none⟩), .pointer (some ⟨w.heap.size, 0, none⟩), .int .u64 150]) (w.alloc (.cells #[.pointer (some t)] 105)) := by kernel_rfl
theorem type57 (a : Addr) (w : World) : (typeEntry #[.agg #[.pointer (some ⟨7, 105, none⟩), .pointer (some a), .int .u64 150]]).run Tryz.prog w
    = .ok (.iface 154 (.agg #[.pointer (some ⟨7, 105, none⟩)])) w := by kernel_rfl
theorem kind57 (w : World) : (kindEntry #[.pointer (some ⟨7, 105, none⟩)]).run Tryz.prog w = .ok (.int .u8 22) w := by kernel_rfl
theorem kind46 (w : World) : (kindEntry #[.pointer (some ⟨7, 95, none⟩)]).run Tryz.prog w = .ok (.int .u8 2) w := by kernel_rfl
theorem parts57 (a : Addr) (w : World) : (ReflectliteValue.parts (.agg #[.pointer (some ⟨7, 105, none⟩), .pointer (some a), .int .u64 150])).run Tryz.prog w = .ok (some (105, a, 150)) w := by kernel_rfl
theorem isNil57 (a p : Addr) (W : World) (ha : W.cell? a = some (.pointer (some p))) :
    (isNilEntry #[.agg #[.pointer (some ⟨7, 105, none⟩), .pointer (some a), .int .u64 150]]).run Tryz.prog W = .ok (.bool false) W := by
  unfold isNilEntry
  delta ReflectliteValue.method
  rw [one_arg]
  simp only [Sem.run_bind, parts57, Result.andThen]
  simp [ReflectliteValue.isNil, loadVar, isAgg, underlying, Tryz.underlying105, ha, Result.andThen]
theorem elem57 (w : World) : (elemTypeEntry #[.agg #[.pointer (some ⟨7, 105, none⟩)]]).run Tryz.prog w = .ok (.iface 154 (.agg #[.pointer (some ⟨7, 95, none⟩)])) w := by kernel_rfl
theorem implements46 (w : World) : (implementsEntry #[.agg #[.pointer (some ⟨7, 95, none⟩)], .iface 154 (.agg #[.pointer (some ⟨7, 43, none⟩)])]).run Tryz.prog w = .ok (.bool true) w := by kernel_rfl
theorem assignable46 (w : World) : (assignableEntry #[.agg #[.pointer (some ⟨7, 95, none⟩)], .iface 154 (.agg #[.pointer (some ⟨7, 95, none⟩)])]).run Tryz.prog w = .ok (.bool true) w := by kernel_rfl
theorem valueOf46 (n : Int) (w : World) : (valueEntry #[.iface 95 (.int .i64 n)]).run Tryz.prog w
    = .ok (.agg #[.pointer (some ⟨7, 95, none⟩), .pointer (some ⟨w.heap.size, 0, none⟩), .int .u64 130]) (w.alloc (.cells #[.int .i64 n] 95)) := by kernel_rfl
theorem elemOf57 (w : World) : (Rtype.elem? 105).run Tryz.prog w = .ok (some 95) w := by kernel_rfl
theorem mk46 (p : Addr) (w : World) : (ReflectliteValue.mk 95 p ReflectliteValue.flagAddr).run Tryz.prog w = .ok (.agg #[.pointer (some ⟨7, 95, none⟩), .pointer (some p), .int .u64 386]) w := by kernel_rfl
theorem elemV57 (a p : Addr) (W : World) (ha : W.cell? a = some (.pointer (some p))) :
    (elemEntry #[.agg #[.pointer (some ⟨7, 105, none⟩), .pointer (some a), .int .u64 150]]).run Tryz.prog W
      = .ok (.agg #[.pointer (some ⟨7, 95, none⟩), .pointer (some p), .int .u64 386]) W := by
  unfold elemEntry
  delta ReflectliteValue.method
  rw [one_arg]
  simp only [Sem.run_bind, parts57, Result.andThen]
  simp [ReflectliteValue.elem, loadVar, isAgg, underlying, Tryz.underlying105, ha, Result.andThen, elemOf57, mk46]
theorem parts46a (a : Addr) (w : World) : (ReflectliteValue.parts (.agg #[.pointer (some ⟨7, 95, none⟩), .pointer (some a), .int .u64 386])).run Tryz.prog w = .ok (some (95, a, 386)) w := by kernel_rfl
theorem parts46 (a : Addr) (w : World) : (ReflectliteValue.parts (.agg #[.pointer (some ⟨7, 95, none⟩), .pointer (some a), .int .u64 130])).run Tryz.prog w = .ok (some (95, a, 130)) w := by kernel_rfl
theorem direct46 (w : World) : (Rtype.directlyAssignable 95 95).run Tryz.prog w = .ok true w := by kernel_rfl
theorem size46 (w : World) : (sizeOf 95).run Tryz.prog w = .ok 1 w := by kernel_rfl
theorem set46 (ta b : Addr) (n : Int) (old : Value) (W : World) (hb : W.cell? b = some (.int .i64 n)) (ht : W.cell? ta = some old) (hf : W.frozen? ta = false) :
    (setEntry #[.agg #[.pointer (some ⟨7, 95, none⟩), .pointer (some ta), .int .u64 386], .agg #[.pointer (some ⟨7, 95, none⟩), .pointer (some b), .int .u64 130]]).run Tryz.prog W
      = .ok (.tuple #[]) (W.setCell ta (.int .i64 n)) := by
  unfold setEntry
  delta ReflectliteValue.set
  rw [two_args]
  simp only [Sem.run_bind, parts46a, parts46, Result.andThen]
  simp [ReflectliteValue.flagAddr, loadVar, isAgg, underlying, Tryz.underlying95, hb, Result.andThen, direct46, storeVar, Value.cells, storeCells, Addr.add]
  rw [run_store Tryz.prog W ta _ _ (by rfl)]
  simp [ht, hf]
end Go.Proofs.YtepnafnljfjeoaaGreatDoor.Err
