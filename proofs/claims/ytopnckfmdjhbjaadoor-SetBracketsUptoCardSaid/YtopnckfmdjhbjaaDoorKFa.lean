/- KFa: several texts in one (kmerge.py). -/
import Derived.Test.YtopnckfmdjhbjaaDoorFaIs
/- Contracts of errors.As over chains of fault.At and fault.In, at a target of type **placed or **spoken: it finds the outermost wrap of its kind. -/
namespace Go.Proofs.YtopnckfmdjhbjaaDoor
open Go.RowKit Go.Extern.Stop Go.Stop Go.Extern

/-- The number of the outermost wrap of the kind b. -/
def firstOf (b : Bool) : List (Bool × Int) → Option Int
  | [] => none
  | (c, n) :: l => if c = b then some n else firstOf b l

theorem Tryd.methodKind (h : Value) (w : World) : (Go.method 328 173 (.agg #[h]) "Kind").run Tryd.prog w = .ok (148, h) w := by kernel_rfl
theorem Tryd.methodElem (h : Value) (w : World) : (Go.method 328 173 (.agg #[h]) "Elem").run Tryd.prog w = .ok (163, .agg #[h]) w := by kernel_rfl
theorem Tryd.methodImplements (h : Value) (w : World) : (Go.method 328 173 (.agg #[h]) "Implements").run Tryd.prog w = .ok (164, .agg #[h]) w := by kernel_rfl
theorem Tryd.methodAssignableTo (h : Value) (w : World) : (Go.method 328 173 (.agg #[h]) "AssignableTo").run Tryd.prog w = .ok (161, .agg #[h]) w := by kernel_rfl
theorem Tryd.typeOfP (v : Value) (w : World) : (ReflectliteType.typeOf #[.iface 102 v]).run Tryd.prog w = .ok (.iface 173 (.agg #[.pointer (some ⟨23, 102, none⟩)])) w := by kernel_rfl
theorem Tryd.noAsP (v : Value) (xT : TypeId) (w : World) : (Instr.typeAssert (.iface 102 v) xT 177 true).run Tryd.prog w = .ok (.tuple #[.nilIface, .bool false]) w := run_typeAssert_lacksB Tryd.underlying177 (by kernel_rfl) (by kernel_rfl) v xT w
theorem Tryd.assignablePP (w : World) : (ReflectliteType.relation "AssignableTo" ReflectliteType.assignableTo #[.agg #[.pointer (some ⟨23, 102, none⟩)], .iface 173 (.agg #[.pointer (some ⟨23, 102, none⟩)])]).run Tryd.prog w = .ok (.bool (102 == 102)) w := by kernel_rfl
theorem Tryd.assignablePS (w : World) : (ReflectliteType.relation "AssignableTo" ReflectliteType.assignableTo #[.agg #[.pointer (some ⟨23, 102, none⟩)], .iface 173 (.agg #[.pointer (some ⟨23, 107, none⟩)])]).run Tryd.prog w = .ok (.bool (102 == 107)) w := by kernel_rfl
theorem Tryd.typeOfS (v : Value) (w : World) : (ReflectliteType.typeOf #[.iface 107 v]).run Tryd.prog w = .ok (.iface 173 (.agg #[.pointer (some ⟨23, 107, none⟩)])) w := by kernel_rfl
theorem Tryd.noAsS (v : Value) (xT : TypeId) (w : World) : (Instr.typeAssert (.iface 107 v) xT 177 true).run Tryd.prog w = .ok (.tuple #[.nilIface, .bool false]) w := run_typeAssert_lacksB Tryd.underlying177 (by kernel_rfl) (by kernel_rfl) v xT w
theorem Tryd.assignableSP (w : World) : (ReflectliteType.relation "AssignableTo" ReflectliteType.assignableTo #[.agg #[.pointer (some ⟨23, 107, none⟩)], .iface 173 (.agg #[.pointer (some ⟨23, 102, none⟩)])]).run Tryd.prog w = .ok (.bool (107 == 102)) w := by kernel_rfl
theorem Tryd.assignableSS (w : World) : (ReflectliteType.relation "AssignableTo" ReflectliteType.assignableTo #[.agg #[.pointer (some ⟨23, 107, none⟩)], .iface 173 (.agg #[.pointer (some ⟨23, 107, none⟩)])]).run Tryd.prog w = .ok (.bool (107 == 107)) w := by kernel_rfl
theorem Tryd.typeOfE (v : Value) (w : World) : (ReflectliteType.typeOf #[.iface 197 v]).run Tryd.prog w = .ok (.iface 173 (.agg #[.pointer (some ⟨23, 197, none⟩)])) w := by kernel_rfl
theorem Tryd.noAsE (v : Value) (xT : TypeId) (w : World) : (Instr.typeAssert (.iface 197 v) xT 177 true).run Tryd.prog w = .ok (.tuple #[.nilIface, .bool false]) w := run_typeAssert_lacksB Tryd.underlying177 (by kernel_rfl) (by kernel_rfl) v xT w
theorem Tryd.assignableEP (w : World) : (ReflectliteType.relation "AssignableTo" ReflectliteType.assignableTo #[.agg #[.pointer (some ⟨23, 197, none⟩)], .iface 173 (.agg #[.pointer (some ⟨23, 102, none⟩)])]).run Tryd.prog w = .ok (.bool (197 == 102)) w := by kernel_rfl
theorem Tryd.assignableES (w : World) : (ReflectliteType.relation "AssignableTo" ReflectliteType.assignableTo #[.agg #[.pointer (some ⟨23, 197, none⟩)], .iface 173 (.agg #[.pointer (some ⟨23, 107, none⟩)])]).run Tryd.prog w = .ok (.bool (197 == 107)) w := by kernel_rfl
theorem Tryd.valueOf2P (t : Addr) (w : World) : (ReflectliteValue.unpack (.iface 131 (.pointer (some t)))).run Tryd.prog w
    = .ok (.agg #[.pointer (some ⟨23, 131, none⟩), .pointer (some ⟨w.heap.size, 0, none⟩), .int .u64 150]) (w.alloc (.cells #[.pointer (some t)] 131)) := by kernel_rfl
theorem Tryd.type2P (a : Addr) (w : World) : (ReflectliteValue.methodAny (ReflectliteValue.valueError "reflectlite.Value.Type" 0) (fun t _ _ _ => ReflectliteType.toType t) #[.agg #[.pointer (some ⟨23, 131, none⟩), .pointer (some a), .int .u64 150]]).run Tryd.prog w
    = .ok (.iface 173 (.agg #[.pointer (some ⟨23, 131, none⟩)])) w := by kernel_rfl
theorem Tryd.kind2P (w : World) : ((ReflectliteType.abiMethod fun t => (fun a : Nat => Value.int IntKind.u8 (a : Int)) <$> Rtype.kind t) #[.pointer (some ⟨23, 131, none⟩)]).run Tryd.prog w = .ok (.int .u8 22) w := by kernel_rfl
theorem Tryd.kind1P (w : World) : ((ReflectliteType.abiMethod fun t => (fun a : Nat => Value.int IntKind.u8 (a : Int)) <$> Rtype.kind t) #[.pointer (some ⟨23, 102, none⟩)]).run Tryd.prog w = .ok (.int .u8 22) w := by kernel_rfl
theorem Tryd.parts2P (a : Addr) (w : World) : (ReflectliteValue.parts (.agg #[.pointer (some ⟨23, 131, none⟩), .pointer (some a), .int .u64 150])).run Tryd.prog w = .ok (some (131, a, 150)) w := by kernel_rfl
theorem Tryd.isNil2P (a p : Addr) (W : World) (ha : W.cell? a = some (.pointer (some p))) :
    (ReflectliteValue.method (ReflectliteValue.valueError "reflectlite.Value.IsNil" 0) ReflectliteValue.isNil #[.agg #[.pointer (some ⟨23, 131, none⟩), .pointer (some a), .int .u64 150]]).run Tryd.prog W = .ok (.bool false) W := by
  delta ReflectliteValue.method ReflectliteValue.method.match_2
  simp only [List.size_toArray, List.length_cons, List.length_nil, Nat.zero_add, dite_true, Array.getLit, List.getElem_toArray, List.getElem_cons_zero]
  simp only [Sem.run_bind, Tryd.parts2P, Result.andThen]
  simp [ReflectliteValue.isNil, loadVar, isAgg, underlying, Tryd.underlying131, ha, Result.andThen]
theorem Tryd.elem2P (w : World) : (ReflectliteType.method ReflectliteType.elem #[.agg #[.pointer (some ⟨23, 131, none⟩)]]).run Tryd.prog w = .ok (.iface 173 (.agg #[.pointer (some ⟨23, 102, none⟩)])) w := by kernel_rfl
theorem Tryd.implements1P (w : World) : (ReflectliteType.relation "Implements" ReflectliteType.implements_ #[.agg #[.pointer (some ⟨23, 102, none⟩)], .iface 173 (.agg #[.pointer (some ⟨23, 55, none⟩)])]).run Tryd.prog w = .ok (.bool true) w := by kernel_rfl
theorem Tryd.valueOf1P (e : Addr) (w : World) : (ReflectliteValue.unpack (.iface 102 (.pointer (some e)))).run Tryd.prog w
    = .ok (.agg #[.pointer (some ⟨23, 102, none⟩), .pointer (some ⟨w.heap.size, 0, none⟩), .int .u64 150]) (w.alloc (.cells #[.pointer (some e)] 102)) := by kernel_rfl
theorem Tryd.elemOf2P (w : World) : (Rtype.elem? 131).run Tryd.prog w = .ok (some 102) w := by kernel_rfl
theorem Tryd.mk1P (p : Addr) (w : World) : (ReflectliteValue.mk 102 p ReflectliteValue.flagAddr).run Tryd.prog w = .ok (.agg #[.pointer (some ⟨23, 102, none⟩), .pointer (some p), .int .u64 406]) w := by kernel_rfl
theorem Tryd.elemV2P (a p : Addr) (W : World) (ha : W.cell? a = some (.pointer (some p))) :
    (ReflectliteValue.method (ReflectliteValue.valueError "reflectlite.Value.Elem" 0) ReflectliteValue.elem #[.agg #[.pointer (some ⟨23, 131, none⟩), .pointer (some a), .int .u64 150]]).run Tryd.prog W
      = .ok (.agg #[.pointer (some ⟨23, 102, none⟩), .pointer (some p), .int .u64 406]) W := by
  delta ReflectliteValue.method ReflectliteValue.method.match_2
  simp only [List.size_toArray, List.length_cons, List.length_nil, Nat.zero_add, dite_true, Array.getLit, List.getElem_toArray, List.getElem_cons_zero]
  simp only [Sem.run_bind, Tryd.parts2P, Result.andThen]
  simp [ReflectliteValue.elem, loadVar, isAgg, underlying, Tryd.underlying131, ha, Result.andThen, Tryd.elemOf2P, Tryd.mk1P]
theorem Tryd.parts1aP (a : Addr) (w : World) : (ReflectliteValue.parts (.agg #[.pointer (some ⟨23, 102, none⟩), .pointer (some a), .int .u64 406])).run Tryd.prog w = .ok (some (102, a, 406)) w := by kernel_rfl
theorem Tryd.parts1P (a : Addr) (w : World) : (ReflectliteValue.parts (.agg #[.pointer (some ⟨23, 102, none⟩), .pointer (some a), .int .u64 150])).run Tryd.prog w = .ok (some (102, a, 150)) w := by kernel_rfl
theorem Tryd.direct1P (w : World) : (Rtype.directlyAssignable 102 102).run Tryd.prog w = .ok true w := by kernel_rfl
theorem Tryd.set1P (ta b e : Addr) (old : Value) (W : World) (hb : W.cell? b = some (.pointer (some e))) (ht : W.cell? ta = some old) (hf : W.frozen? ta = false) :
    (ReflectliteValue.set #[.agg #[.pointer (some ⟨23, 102, none⟩), .pointer (some ta), .int .u64 406], .agg #[.pointer (some ⟨23, 102, none⟩), .pointer (some b), .int .u64 150]]).run Tryd.prog W
      = .ok (.tuple #[]) (W.setCell ta (.pointer (some e))) := by
  delta ReflectliteValue.set ReflectliteValue.set.match_3
  simp only [List.size_toArray, List.length_cons, List.length_nil, Nat.zero_add, Nat.reduceAdd, dite_true, Array.getLit, List.getElem_toArray, List.getElem_cons_zero, List.getElem_cons_succ]
  simp only [Sem.run_bind, Tryd.parts1aP, Tryd.parts1P, Result.andThen]
  simp [ReflectliteValue.flagAddr, loadVar, isAgg, underlying, Tryd.underlying102, hb, Result.andThen, Tryd.direct1P, storeVar, Value.cells, storeCells, Addr.add]
  rw [run_store Tryd.prog W ta _ _ (by rfl)]
  simp [ht, hf]
theorem Tryd.valueOf2S (t : Addr) (w : World) : (ReflectliteValue.unpack (.iface 132 (.pointer (some t)))).run Tryd.prog w
    = .ok (.agg #[.pointer (some ⟨23, 132, none⟩), .pointer (some ⟨w.heap.size, 0, none⟩), .int .u64 150]) (w.alloc (.cells #[.pointer (some t)] 132)) := by kernel_rfl
theorem Tryd.type2S (a : Addr) (w : World) : (ReflectliteValue.methodAny (ReflectliteValue.valueError "reflectlite.Value.Type" 0) (fun t _ _ _ => ReflectliteType.toType t) #[.agg #[.pointer (some ⟨23, 132, none⟩), .pointer (some a), .int .u64 150]]).run Tryd.prog w
    = .ok (.iface 173 (.agg #[.pointer (some ⟨23, 132, none⟩)])) w := by kernel_rfl
theorem Tryd.kind2S (w : World) : ((ReflectliteType.abiMethod fun t => (fun a : Nat => Value.int IntKind.u8 (a : Int)) <$> Rtype.kind t) #[.pointer (some ⟨23, 132, none⟩)]).run Tryd.prog w = .ok (.int .u8 22) w := by kernel_rfl
theorem Tryd.kind1S (w : World) : ((ReflectliteType.abiMethod fun t => (fun a : Nat => Value.int IntKind.u8 (a : Int)) <$> Rtype.kind t) #[.pointer (some ⟨23, 107, none⟩)]).run Tryd.prog w = .ok (.int .u8 22) w := by kernel_rfl
theorem Tryd.parts2S (a : Addr) (w : World) : (ReflectliteValue.parts (.agg #[.pointer (some ⟨23, 132, none⟩), .pointer (some a), .int .u64 150])).run Tryd.prog w = .ok (some (132, a, 150)) w := by kernel_rfl
theorem Tryd.isNil2S (a p : Addr) (W : World) (ha : W.cell? a = some (.pointer (some p))) :
    (ReflectliteValue.method (ReflectliteValue.valueError "reflectlite.Value.IsNil" 0) ReflectliteValue.isNil #[.agg #[.pointer (some ⟨23, 132, none⟩), .pointer (some a), .int .u64 150]]).run Tryd.prog W = .ok (.bool false) W := by
  delta ReflectliteValue.method ReflectliteValue.method.match_2
  simp only [List.size_toArray, List.length_cons, List.length_nil, Nat.zero_add, dite_true, Array.getLit, List.getElem_toArray, List.getElem_cons_zero]
  simp only [Sem.run_bind, Tryd.parts2S, Result.andThen]
  simp [ReflectliteValue.isNil, loadVar, isAgg, underlying, Tryd.underlying132, ha, Result.andThen]
theorem Tryd.elem2S (w : World) : (ReflectliteType.method ReflectliteType.elem #[.agg #[.pointer (some ⟨23, 132, none⟩)]]).run Tryd.prog w = .ok (.iface 173 (.agg #[.pointer (some ⟨23, 107, none⟩)])) w := by kernel_rfl
theorem Tryd.implements1S (w : World) : (ReflectliteType.relation "Implements" ReflectliteType.implements_ #[.agg #[.pointer (some ⟨23, 107, none⟩)], .iface 173 (.agg #[.pointer (some ⟨23, 55, none⟩)])]).run Tryd.prog w = .ok (.bool true) w := by kernel_rfl
theorem Tryd.valueOf1S (e : Addr) (w : World) : (ReflectliteValue.unpack (.iface 107 (.pointer (some e)))).run Tryd.prog w
    = .ok (.agg #[.pointer (some ⟨23, 107, none⟩), .pointer (some ⟨w.heap.size, 0, none⟩), .int .u64 150]) (w.alloc (.cells #[.pointer (some e)] 107)) := by kernel_rfl
theorem Tryd.elemOf2S (w : World) : (Rtype.elem? 132).run Tryd.prog w = .ok (some 107) w := by kernel_rfl
theorem Tryd.mk1S (p : Addr) (w : World) : (ReflectliteValue.mk 107 p ReflectliteValue.flagAddr).run Tryd.prog w = .ok (.agg #[.pointer (some ⟨23, 107, none⟩), .pointer (some p), .int .u64 406]) w := by kernel_rfl
theorem Tryd.elemV2S (a p : Addr) (W : World) (ha : W.cell? a = some (.pointer (some p))) :
    (ReflectliteValue.method (ReflectliteValue.valueError "reflectlite.Value.Elem" 0) ReflectliteValue.elem #[.agg #[.pointer (some ⟨23, 132, none⟩), .pointer (some a), .int .u64 150]]).run Tryd.prog W
      = .ok (.agg #[.pointer (some ⟨23, 107, none⟩), .pointer (some p), .int .u64 406]) W := by
  delta ReflectliteValue.method ReflectliteValue.method.match_2
  simp only [List.size_toArray, List.length_cons, List.length_nil, Nat.zero_add, dite_true, Array.getLit, List.getElem_toArray, List.getElem_cons_zero]
  simp only [Sem.run_bind, Tryd.parts2S, Result.andThen]
  simp [ReflectliteValue.elem, loadVar, isAgg, underlying, Tryd.underlying132, ha, Result.andThen, Tryd.elemOf2S, Tryd.mk1S]
theorem Tryd.parts1aS (a : Addr) (w : World) : (ReflectliteValue.parts (.agg #[.pointer (some ⟨23, 107, none⟩), .pointer (some a), .int .u64 406])).run Tryd.prog w = .ok (some (107, a, 406)) w := by kernel_rfl
theorem Tryd.parts1S (a : Addr) (w : World) : (ReflectliteValue.parts (.agg #[.pointer (some ⟨23, 107, none⟩), .pointer (some a), .int .u64 150])).run Tryd.prog w = .ok (some (107, a, 150)) w := by kernel_rfl
theorem Tryd.direct1S (w : World) : (Rtype.directlyAssignable 107 107).run Tryd.prog w = .ok true w := by kernel_rfl
theorem Tryd.set1S (ta b e : Addr) (old : Value) (W : World) (hb : W.cell? b = some (.pointer (some e))) (ht : W.cell? ta = some old) (hf : W.frozen? ta = false) :
    (ReflectliteValue.set #[.agg #[.pointer (some ⟨23, 107, none⟩), .pointer (some ta), .int .u64 406], .agg #[.pointer (some ⟨23, 107, none⟩), .pointer (some b), .int .u64 150]]).run Tryd.prog W
      = .ok (.tuple #[]) (W.setCell ta (.pointer (some e))) := by
  delta ReflectliteValue.set ReflectliteValue.set.match_3
  simp only [List.size_toArray, List.length_cons, List.length_nil, Nat.zero_add, Nat.reduceAdd, dite_true, Array.getLit, List.getElem_toArray, List.getElem_cons_zero, List.getElem_cons_succ]
  simp only [Sem.run_bind, Tryd.parts1aS, Tryd.parts1S, Result.andThen]
  simp [ReflectliteValue.flagAddr, loadVar, isAgg, underlying, Tryd.underlying107, hb, Result.andThen, Tryd.direct1S, storeVar, Value.cells, storeCells, Addr.add]
  rw [run_store Tryd.prog W ta _ _ (by rfl)]
  simp [ht, hf]
end Go.Proofs.YtopnckfmdjhbjaaDoor
/- errors.as and errors.As, walked over chains of fault.At and fault.In, at a target of type **placed or **spoken. -/
namespace Go.Proofs.YtopnckfmdjhbjaaDoor
open Go.RowKit Go.Extern.Stop Go.Stop Go.Extern

/-- The loop's relation: a rest of the chain in which the search goes on. -/
def AsRel (b : Bool) (w W : World) (r : Value) (f : Option Int) (k : Nat) (v : Value) (wr : World) : Prop := wr = W ∧ ∃ l, l.length = k ∧ Chn w l v r ∧ firstOf b l = f

/-- What a hit leaves. -/
def AsHit (ty : TypeId) (n : Int) (t : Addr) (wc w : World) (e : Ending) (w' : World) : Prop :=
  e = .returned (.bool true) ∧ ∃ k x w1, wc.heap[k]? = some (.cells #[x, .int .i64 n] ty) ∧ Below w.heap.size w w1 ∧ w' = w1.setCell t (.pointer (some ⟨k, 0, none⟩))

def AsMiss (w : World) (e : Ending) (w' : World) : Prop := e = .returned (.bool false) ∧ Below w.heap.size w w'

theorem lt_of_cell {w : World} {p : Addr} {v : Value} (h : w.cell? p = some v) : p.block < w.heap.size := by
  rcases Nat.lt_or_ge p.block w.heap.size with h1 | h1
  · exact h1
  · simp [World.cell?, Array.getElem?_eq_none h1] at h
theorem lt_of_block {w : World} {k : Nat} {o : Obj} (h : w.heap[k]? = some o) : k < w.heap.size := by
  rcases Nat.lt_or_ge k w.heap.size with h1 | h1
  · exact h1
  · rw [Array.getElem?_eq_none h1] at h; cases h
set_option maxRecDepth 100000 in
set_option maxHeartbeats 4000000 in
theorem as_walkP (l : List (Bool × Int)) (v : Value) (a t vb : Addr) (old : Value) (wc w : World) (hbc : Below wc.heap.size wc w) (hc : Chn wc l v (bot a))
    (hvb : w.cell? vb = some (.pointer (some t))) (ht : w.cell? t = some old) (hf : w.frozen? t = false) :
    Calls Tryd.prog 105 #[v, .iface 131 (.pointer (some t)), .agg #[.pointer (some ⟨23, 131, none⟩), .pointer (some vb), .int .u64 150], .iface 173 (.agg #[.pointer (some ⟨23, 102, none⟩)])] w
      fun e w' => (∀ n, firstOf false l = some n → AsHit 106 n t wc w e w') ∧ (firstOf false l = none → AsMiss w e w') := by
  have hx23 := @run_callFunc_extern Tryd.prog 121 _ ReflectliteType.typeOf Tryd.func121 (by kernel_rfl) (by kernel_rfl) (by kernel_rfl) (by kernel_rfl)
  have hxA := @run_callFunc_extern Tryd.prog 161 _ (ReflectliteType.relation "AssignableTo" ReflectliteType.assignableTo) Tryd.func161 (by kernel_rfl) (by kernel_rfl) (by kernel_rfl) (by kernel_rfl)
  have hxE := @run_callFunc_extern Tryd.prog 123 _ (ReflectliteValue.method (ReflectliteValue.valueError "reflectlite.Value.Elem" 0) ReflectliteValue.elem) Tryd.func123 (by kernel_rfl) (by kernel_rfl) (by kernel_rfl) (by kernel_rfl)
  have hxV := @run_callFunc_extern Tryd.prog 102 _ (fun args => ReflectliteValue.unpack (args.getD 0 (.tuple #[]))) Tryd.func102 (by kernel_rfl) (by kernel_rfl) (by kernel_rfl) (by kernel_rfl)
  have hxS := @run_callFunc_extern Tryd.prog 124 _ ReflectliteValue.set Tryd.func124 (by kernel_rfl) (by kernel_rfl) (by kernel_rfl) (by kernel_rfl)
  have mA := Tryd.methodAssignableTo
  have tP := Tryd.typeOfP
  have tS := Tryd.typeOfS
  have tE := Tryd.typeOfE
  have aP := Tryd.assignablePP
  have aS := Tryd.assignableSP
  have aE := Tryd.assignableEP
  have nP := Tryd.noAsP
  have nS := Tryd.noAsS
  have nE := Tryd.noAsE
  have uP := Tryd.hasUnwrapP
  have uS := Tryd.hasUnwrapS
  have uE := Tryd.noUnwrapE
  have vE := Tryd.noUnwrapsE
  have mP := Tryd.methodUnwrapP
  have mS := Tryd.methodUnwrapS
  have v1 := Tryd.valueOf1P
  have hvl := lt_of_cell hvb
  have htl := lt_of_cell ht
  have hvb0 : (w.alloc (.cells #[.pointer (some ⟨23, 131, none⟩), .pointer (some vb), .int .u64 150] 148)).cell? vb = some (.pointer (some t)) := by rw [World.cell?_alloc_lt _ _ _ hvl]; exact hvb
  have ht0 : (w.alloc (.cells #[.pointer (some ⟨23, 131, none⟩), .pointer (some vb), .int .u64 150] 148)).cell? t = some old := by rw [World.cell?_alloc_lt _ _ _ htl]; exact ht
  have hf0 : (w.alloc (.cells #[.pointer (some ⟨23, 131, none⟩), .pointer (some vb), .int .u64 150] 148)).frozen? t = false := by rw [World.frozen?_alloc_old _ _ _ (Nat.ne_of_lt htl)]; exact hf
  have el := Tryd.elemV2P vb t (w.alloc (.cells #[.pointer (some ⟨23, 131, none⟩), .pointer (some vb), .int .u64 150] 148)) hvb0
  have st := fun e => Tryd.set1P t ⟨w.heap.size + 1, 0, none⟩ e old ((w.alloc (.cells #[.pointer (some ⟨23, 131, none⟩), .pointer (some vb), .int .u64 150] 148)).alloc (.cells #[.pointer (some e)] 102))
    (by rw [World.cell?_alloc_at _ _ _ _ (by simp)]; rfl)
    (by rw [World.cell?_alloc_lt _ _ t (by simp; omega)]; exact ht0)
    (by rw [World.frozen?_alloc_old _ _ t (by simp; omega)]; exact hf0)
  have HC := Lib.hid hc
  have HBC := Lib.hid hbc
  clear hvb0 ht0 hf0 hvb ht hf hc hvl htl hbc
  unfold bot at *
  go_enter Tryd.func105, Tryd.ntmps105
  go_wp2
  go_loopg [0] l.length (fun k v wr => AsRel false wc (w.alloc (.cells #[.pointer (some ⟨23, 131, none⟩), .pointer (some vb), .int .u64 150] 148)) (.iface 197 (.pointer (some a))) (firstOf false l) k v wr)
  case atStart => exact ⟨rfl, l, rfl, HC.out, rfl⟩
  case round =>
    obtain ⟨rfl, l', hl, hc', hfo⟩ := hrel
    cases l' with
    | nil =>
      cases hc'
      have HF := Lib.hid hfo
      clear hfo hl HC
      go_wp2
      go_ret
      exact ⟨fun n hn => absurd (HF.out.trans hn) (by simp [firstOf]), fun _ => ⟨rfl, (Below.refl _ _).alloc (Nat.le_refl _) _⟩⟩
    | cons p l'' =>
      obtain ⟨pb, n⟩ := p
      obtain ⟨k, x, rfl, hk, hx⟩ := hc'
      obtain ⟨xt, xv, rfl⟩ := hx.held ⟨_, _, rfl⟩
      have hcell : (w.alloc (.cells #[.pointer (some ⟨23, 131, none⟩), .pointer (some vb), .int .u64 150] 148)).cell? ⟨k, 0, none⟩ = some (.iface xt xv) := by
        rw [World.cell?_alloc_lt _ _ _ (lt_of_block (below_blocks HBC.out _ _ hk))]; simp [World.cell?, below_blocks HBC.out _ _ hk]
      have HX := Lib.hid hx
      have HL := Lib.hid hl
      have HK := Lib.hid hk
      have HF := Lib.hid hfo
      clear hx hl hk hfo HC
      cases pb
      · simp only [cond_false] at *
        go_wp2
        go_ret
        exact ⟨fun m hm => ⟨rfl, k, _, _, (by have h1 := HF.out; rw [hm] at h1; simp [firstOf] at h1; subst h1; exact HK.out), ((Below.refl _ _).alloc (Nat.le_refl _) _).alloc (by simp) _, rfl⟩, fun hn => absurd (HF.out.trans hn) (by simp [firstOf])⟩
      · simp only [cond_true] at *
        go_wp2_with fail
        refine (unwrapS k _ _ hcell).mono ?_
        rintro e w' ⟨rfl, rfl⟩
        go_wp2
        go_roundg l''.length
        case measure => have := HL.out; simp only [List.length_cons] at this; omega
        case rel => exact ⟨rfl, l'', rfl, HX.out, by have h1 := HF.out; simpa [firstOf] using h1⟩
set_option maxRecDepth 100000 in
set_option maxHeartbeats 4000000 in
theorem as_walkS (l : List (Bool × Int)) (v : Value) (a t vb : Addr) (old : Value) (wc w : World) (hbc : Below wc.heap.size wc w) (hc : Chn wc l v (bot a))
    (hvb : w.cell? vb = some (.pointer (some t))) (ht : w.cell? t = some old) (hf : w.frozen? t = false) :
    Calls Tryd.prog 105 #[v, .iface 132 (.pointer (some t)), .agg #[.pointer (some ⟨23, 132, none⟩), .pointer (some vb), .int .u64 150], .iface 173 (.agg #[.pointer (some ⟨23, 107, none⟩)])] w
      fun e w' => (∀ n, firstOf true l = some n → AsHit 111 n t wc w e w') ∧ (firstOf true l = none → AsMiss w e w') := by
  have hx23 := @run_callFunc_extern Tryd.prog 121 _ ReflectliteType.typeOf Tryd.func121 (by kernel_rfl) (by kernel_rfl) (by kernel_rfl) (by kernel_rfl)
  have hxA := @run_callFunc_extern Tryd.prog 161 _ (ReflectliteType.relation "AssignableTo" ReflectliteType.assignableTo) Tryd.func161 (by kernel_rfl) (by kernel_rfl) (by kernel_rfl) (by kernel_rfl)
  have hxE := @run_callFunc_extern Tryd.prog 123 _ (ReflectliteValue.method (ReflectliteValue.valueError "reflectlite.Value.Elem" 0) ReflectliteValue.elem) Tryd.func123 (by kernel_rfl) (by kernel_rfl) (by kernel_rfl) (by kernel_rfl)
  have hxV := @run_callFunc_extern Tryd.prog 102 _ (fun args => ReflectliteValue.unpack (args.getD 0 (.tuple #[]))) Tryd.func102 (by kernel_rfl) (by kernel_rfl) (by kernel_rfl) (by kernel_rfl)
  have hxS := @run_callFunc_extern Tryd.prog 124 _ ReflectliteValue.set Tryd.func124 (by kernel_rfl) (by kernel_rfl) (by kernel_rfl) (by kernel_rfl)
  have mA := Tryd.methodAssignableTo
  have tP := Tryd.typeOfP
  have tS := Tryd.typeOfS
  have tE := Tryd.typeOfE
  have aP := Tryd.assignablePS
  have aS := Tryd.assignableSS
  have aE := Tryd.assignableES
  have nP := Tryd.noAsP
  have nS := Tryd.noAsS
  have nE := Tryd.noAsE
  have uP := Tryd.hasUnwrapP
  have uS := Tryd.hasUnwrapS
  have uE := Tryd.noUnwrapE
  have vE := Tryd.noUnwrapsE
  have mP := Tryd.methodUnwrapP
  have mS := Tryd.methodUnwrapS
  have v1 := Tryd.valueOf1S
  have hvl := lt_of_cell hvb
  have htl := lt_of_cell ht
  have hvb0 : (w.alloc (.cells #[.pointer (some ⟨23, 132, none⟩), .pointer (some vb), .int .u64 150] 148)).cell? vb = some (.pointer (some t)) := by rw [World.cell?_alloc_lt _ _ _ hvl]; exact hvb
  have ht0 : (w.alloc (.cells #[.pointer (some ⟨23, 132, none⟩), .pointer (some vb), .int .u64 150] 148)).cell? t = some old := by rw [World.cell?_alloc_lt _ _ _ htl]; exact ht
  have hf0 : (w.alloc (.cells #[.pointer (some ⟨23, 132, none⟩), .pointer (some vb), .int .u64 150] 148)).frozen? t = false := by rw [World.frozen?_alloc_old _ _ _ (Nat.ne_of_lt htl)]; exact hf
  have el := Tryd.elemV2S vb t (w.alloc (.cells #[.pointer (some ⟨23, 132, none⟩), .pointer (some vb), .int .u64 150] 148)) hvb0
  have st := fun e => Tryd.set1S t ⟨w.heap.size + 1, 0, none⟩ e old ((w.alloc (.cells #[.pointer (some ⟨23, 132, none⟩), .pointer (some vb), .int .u64 150] 148)).alloc (.cells #[.pointer (some e)] 107))
    (by rw [World.cell?_alloc_at _ _ _ _ (by simp)]; rfl)
    (by rw [World.cell?_alloc_lt _ _ t (by simp; omega)]; exact ht0)
    (by rw [World.frozen?_alloc_old _ _ t (by simp; omega)]; exact hf0)
  have HC := Lib.hid hc
  have HBC := Lib.hid hbc
  clear hvb0 ht0 hf0 hvb ht hf hc hvl htl hbc
  unfold bot at *
  go_enter Tryd.func105, Tryd.ntmps105
  go_wp2
  go_loopg [0] l.length (fun k v wr => AsRel true wc (w.alloc (.cells #[.pointer (some ⟨23, 132, none⟩), .pointer (some vb), .int .u64 150] 148)) (.iface 197 (.pointer (some a))) (firstOf true l) k v wr)
  case atStart => exact ⟨rfl, l, rfl, HC.out, rfl⟩
  case round =>
    obtain ⟨rfl, l', hl, hc', hfo⟩ := hrel
    cases l' with
    | nil =>
      cases hc'
      have HF := Lib.hid hfo
      clear hfo hl HC
      go_wp2
      go_ret
      exact ⟨fun n hn => absurd (HF.out.trans hn) (by simp [firstOf]), fun _ => ⟨rfl, (Below.refl _ _).alloc (Nat.le_refl _) _⟩⟩
    | cons p l'' =>
      obtain ⟨pb, n⟩ := p
      obtain ⟨k, x, rfl, hk, hx⟩ := hc'
      obtain ⟨xt, xv, rfl⟩ := hx.held ⟨_, _, rfl⟩
      have hcell : (w.alloc (.cells #[.pointer (some ⟨23, 132, none⟩), .pointer (some vb), .int .u64 150] 148)).cell? ⟨k, 0, none⟩ = some (.iface xt xv) := by
        rw [World.cell?_alloc_lt _ _ _ (lt_of_block (below_blocks HBC.out _ _ hk))]; simp [World.cell?, below_blocks HBC.out _ _ hk]
      have HX := Lib.hid hx
      have HL := Lib.hid hl
      have HK := Lib.hid hk
      have HF := Lib.hid hfo
      clear hx hl hk hfo HC
      cases pb
      · simp only [cond_false] at *
        go_wp2_with fail
        refine (unwrapP k _ _ hcell).mono ?_
        rintro e w' ⟨rfl, rfl⟩
        go_wp2
        go_roundg l''.length
        case measure => have := HL.out; simp only [List.length_cons] at this; omega
        case rel => exact ⟨rfl, l'', rfl, HX.out, by have h1 := HF.out; simpa [firstOf] using h1⟩
      · simp only [cond_true] at *
        go_wp2
        go_ret
        exact ⟨fun m hm => ⟨rfl, k, _, _, (by have h1 := HF.out; rw [hm] at h1; simp [firstOf] at h1; subst h1; exact HK.out), ((Below.refl _ _).alloc (Nat.le_refl _) _).alloc (by simp) _, rfl⟩, fun hn => absurd (HF.out.trans hn) (by simp [firstOf])⟩
end Go.Proofs.YtopnckfmdjhbjaaDoor
/- Contracts of errors.Is, errors.As, errors.New, fault.At, fault.In, fault.Of. -/
namespace Go.Proofs.YtopnckfmdjhbjaaDoor
open Go.RowKit Go.Extern.Stop Go.Stop Go.Extern

/-- The sentinels: the variable of code k holds a pointer to s k, no two the same. -/
structure Snt (w : World) (s : Nat → Addr) : Prop where
  var : ∀ k, 1 ≤ k → k ≤ 21 → w.cell? ⟨k - 1, 0, none⟩ = some (.iface 197 (.pointer (some (s k))))
  low : 21 < w.heap.size
  blk : ∀ k, 1 ≤ k → k ≤ 21 → ∃ cs t, w.heap[(s k).block]? = some (.cells cs t (0, 0))
  apart : ∀ j k, 1 ≤ j → j ≤ 21 → 1 ≤ k → k ≤ 21 → s j = s k → j = k
  ety : w.cell? ⟨21, 0, none⟩ = some (.iface 173 (.agg #[.pointer (some ⟨23, 55, none⟩)]))

theorem Snt.below {w w' : World} {s : Nat → Addr} (h : Snt w s) (hb : Below w.heap.size w w') : Snt w' s where
  var k h1 h2 := by rw [hb.cell (by have := h.low; simp; omega)]; exact h.var k h1 h2
  low := Nat.lt_of_lt_of_le h.low hb.size
  blk k h1 h2 := by obtain ⟨cs, t, e⟩ := h.blk k h1 h2; exact ⟨cs, t, below_blocks hb _ _ e⟩
  apart := h.apart
  ety := by rw [hb.cell (by have := h.low; simp; omega)]; exact h.ety

theorem Below.step {w w1 w2 : World} (h : Below w.heap.size w w1) (h' : Below w1.heap.size w1 w2) : Below w.heap.size w w2 := h.trans (h'.mono h.size)

theorem as_hitP (l : List (Bool × Int)) (v : Value) (a t vb : Addr) (old : Value) (wc w : World) (hbc : Below wc.heap.size wc w) (hc : Chn wc l v (bot a))
    (hvb : w.cell? vb = some (.pointer (some t))) (ht : w.cell? t = some old) (hf : w.frozen? t = false) (n : Int) (hn : firstOf false l = some n) :
    Calls Tryd.prog 105 #[v, .iface 131 (.pointer (some t)), .agg #[.pointer (some ⟨23, 131, none⟩), .pointer (some vb), .int .u64 150], .iface 173 (.agg #[.pointer (some ⟨23, 102, none⟩)])] w
      fun e w' => e = .returned (.bool true) ∧ ∃ k x w1, wc.heap[k]? = some (.cells #[x, .int .i64 n] 106) ∧ Below w.heap.size w w1 ∧ w' = w1.setCell t (.pointer (some ⟨k, 0, none⟩)) :=
  (as_walkP l v a t vb old wc w hbc hc hvb ht hf).mono fun _ _ h => h.1 n hn
theorem as_missP (l : List (Bool × Int)) (v : Value) (a t vb : Addr) (old : Value) (wc w : World) (hbc : Below wc.heap.size wc w) (hc : Chn wc l v (bot a))
    (hvb : w.cell? vb = some (.pointer (some t))) (ht : w.cell? t = some old) (hf : w.frozen? t = false) (hn : firstOf false l = none) :
    Calls Tryd.prog 105 #[v, .iface 131 (.pointer (some t)), .agg #[.pointer (some ⟨23, 131, none⟩), .pointer (some vb), .int .u64 150], .iface 173 (.agg #[.pointer (some ⟨23, 102, none⟩)])] w
      fun e w' => e = .returned (.bool false) ∧ Below w.heap.size w w' :=
  (as_walkP l v a t vb old wc w hbc hc hvb ht hf).mono fun _ _ h => h.2 hn
theorem as_hitS (l : List (Bool × Int)) (v : Value) (a t vb : Addr) (old : Value) (wc w : World) (hbc : Below wc.heap.size wc w) (hc : Chn wc l v (bot a))
    (hvb : w.cell? vb = some (.pointer (some t))) (ht : w.cell? t = some old) (hf : w.frozen? t = false) (n : Int) (hn : firstOf true l = some n) :
    Calls Tryd.prog 105 #[v, .iface 132 (.pointer (some t)), .agg #[.pointer (some ⟨23, 132, none⟩), .pointer (some vb), .int .u64 150], .iface 173 (.agg #[.pointer (some ⟨23, 107, none⟩)])] w
      fun e w' => e = .returned (.bool true) ∧ ∃ k x w1, wc.heap[k]? = some (.cells #[x, .int .i64 n] 111) ∧ Below w.heap.size w w1 ∧ w' = w1.setCell t (.pointer (some ⟨k, 0, none⟩)) :=
  (as_walkS l v a t vb old wc w hbc hc hvb ht hf).mono fun _ _ h => h.1 n hn
theorem as_missS (l : List (Bool × Int)) (v : Value) (a t vb : Addr) (old : Value) (wc w : World) (hbc : Below wc.heap.size wc w) (hc : Chn wc l v (bot a))
    (hvb : w.cell? vb = some (.pointer (some t))) (ht : w.cell? t = some old) (hf : w.frozen? t = false) (hn : firstOf true l = none) :
    Calls Tryd.prog 105 #[v, .iface 132 (.pointer (some t)), .agg #[.pointer (some ⟨23, 132, none⟩), .pointer (some vb), .int .u64 150], .iface 173 (.agg #[.pointer (some ⟨23, 107, none⟩)])] w
      fun e w' => e = .returned (.bool false) ∧ Below w.heap.size w w' :=
  (as_walkS l v a t vb old wc w hbc hc hvb ht hf).mono fun _ _ h => h.2 hn

set_option maxRecDepth 100000 in
set_option maxHeartbeats 1000000 in
theorem eis_any (l : List (Bool × Int)) (v : Value) (a b : Addr) (w : World) (hc : Chn w l v (bot a)) (q : Bool)
    (heq : (binOp .eql 55 (.iface 197 (.pointer (some a))) (.iface 197 (.pointer (some b)))).run Tryd.prog w = .ok (.bool q) w) :
    Calls Tryd.prog 101 #[v, bot b] w fun e w' => e = .returned (.bool q) ∧ w = w' := by
  have hx23 := @run_callFunc_extern Tryd.prog 121 _ ReflectliteType.typeOf Tryd.func121 (by kernel_rfl) (by kernel_rfl) (by kernel_rfl) (by kernel_rfl)
  have hxC := @run_callFunc_extern Tryd.prog 162 _ (Extern.ReflectliteType.method fun t => do Extern.Rtype.noPackHeld "Comparable" t; pure (.bool (← typeInfo t).comparable)) Tryd.func162 (by kernel_rfl) (by kernel_rfl) (by kernel_rfl) (by kernel_rfl)
  have tT := Tryd.isTypeOf
  have cT := Tryd.isComparable
  have mR := Tryd.isMethodComparable
  have HW := Lib.hid (is_walk l v a b q w hc heq)
  obtain ⟨vt, vv, rfl⟩ := hc.held ⟨_, _, rfl⟩
  clear hc heq
  unfold bot at *
  go_enter Tryd.func101, Tryd.ntmps101
  go_wp2_with (go_at_call 122; refine HW.out.mono ?_; rintro e w' ⟨rfl, rfl⟩)
  go_ret
  exact ⟨rfl, rfl⟩

set_option maxRecDepth 100000 in
set_option maxHeartbeats 4000000 in
theorem eas_hitP (l : List (Bool × Int)) (v : Value) (a t : Addr) (old : Value) (s : Nat → Addr) (wc w : World) (hbc : Below wc.heap.size wc w) (hs : Snt w s) (hc : Chn wc l v (bot a))
    (ht : w.cell? t = some old) (hf : w.frozen? t = false) (n : Int) (hn : firstOf false l = some n) :
    Calls Tryd.prog 86 #[v, .iface 131 (.pointer (some t))] w
      fun e w' => e = .returned (.bool true) ∧ ∃ k x w1, wc.heap[k]? = some (.cells #[x, .int .i64 n] 106) ∧ Below w.heap.size w w1 ∧ w' = w1.setCell t (.pointer (some ⟨k, 0, none⟩)) := by
  have hxV := @run_callFunc_extern Tryd.prog 102 _ (fun args => ReflectliteValue.unpack (args.getD 0 (.tuple #[]))) Tryd.func102 (by kernel_rfl) (by kernel_rfl) (by kernel_rfl) (by kernel_rfl)
  have hxT := @run_callFunc_extern Tryd.prog 103 _ (ReflectliteValue.methodAny (ReflectliteValue.valueError "reflectlite.Value.Type" 0) (fun t _ _ _ => ReflectliteType.toType t)) Tryd.func103 (by kernel_rfl) (by kernel_rfl) (by kernel_rfl) (by kernel_rfl)
  have hxN := @run_callFunc_extern Tryd.prog 104 _ (ReflectliteValue.method (ReflectliteValue.valueError "reflectlite.Value.IsNil" 0) ReflectliteValue.isNil) Tryd.func104 (by kernel_rfl) (by kernel_rfl) (by kernel_rfl) (by kernel_rfl)
  have hxK := @run_callFunc_extern Tryd.prog 148 _ (ReflectliteType.abiMethod fun t => do pure (.int .u8 (← Rtype.kind t))) Tryd.func148 (by kernel_rfl) (by kernel_rfl) (by kernel_rfl) (by kernel_rfl)
  have hxE := @run_callFunc_extern Tryd.prog 163 _ (ReflectliteType.method ReflectliteType.elem) Tryd.func163 (by kernel_rfl) (by kernel_rfl) (by kernel_rfl) (by kernel_rfl)
  have hxI := @run_callFunc_extern Tryd.prog 164 _ (ReflectliteType.relation "Implements" ReflectliteType.implements_) Tryd.func164 (by kernel_rfl) (by kernel_rfl) (by kernel_rfl) (by kernel_rfl)
  have f2 := Tryd.valueOf2P
  have ty2 := Tryd.type2P
  have mK := Tryd.methodKind
  have mE := Tryd.methodElem
  have mI := Tryd.methodImplements
  have k2 := Tryd.kind2P
  have k1 := Tryd.kind1P
  have e2 := Tryd.elem2P
  have i1 := Tryd.implements1P
  obtain ⟨vt, vv, rfl⟩ := hc.held ⟨_, _, rfl⟩
  have htl := lt_of_cell ht
  have hg : ((w.alloc (.cells #[.pointer (some t)] 131)).alloc (.cells #[.pointer (some ⟨23, 131, none⟩), .pointer (some ⟨w.heap.size, 0, none⟩), .int .u64 150] 148)).cell? ⟨21, 0, none⟩ = some (.iface 173 (.agg #[.pointer (some ⟨23, 55, none⟩)])) :=
    (hs.below (((Below.refl _ _).alloc (Nat.le_refl _) _).alloc (by simp) _)).ety
  have n8 := Tryd.isNil2P ⟨w.heap.size, 0, none⟩ t ((w.alloc (.cells #[.pointer (some t)] 131)).alloc (.cells #[.pointer (some ⟨23, 131, none⟩), .pointer (some ⟨w.heap.size, 0, none⟩), .int .u64 150] 148)) (by simp)
  have HW := Lib.hid (as_hitP l (.iface vt vv) a t ⟨w.heap.size, 0, none⟩ old wc ((w.alloc (.cells #[.pointer (some t)] 131)).alloc (.cells #[.pointer (some ⟨23, 131, none⟩), .pointer (some ⟨w.heap.size, 0, none⟩), .int .u64 150] 148)) ((hbc.alloc hbc.size _).alloc (by have := hbc.size; simp; omega) _) hc (by simp)
    (by rw [World.cell?_alloc_lt _ _ t (by simp; omega), World.cell?_alloc_lt _ _ t htl]; exact ht)
    (by rw [World.frozen?_alloc_old _ _ t (by simp; omega), World.frozen?_alloc_old _ _ t (by omega)]; exact hf) n hn)
  have HB : Hid (Below w.heap.size w ((w.alloc (.cells #[.pointer (some t)] 131)).alloc (.cells #[.pointer (some ⟨23, 131, none⟩), .pointer (some ⟨w.heap.size, 0, none⟩), .int .u64 150] 148))) := ((Below.refl _ _).alloc (Nat.le_refl _) _).alloc (by simp) _
  clear hc ht hf hs htl hn hbc
  go_enter Tryd.func86, Tryd.ntmps86
  go_wp2_with (go_at_call 105; refine HW.out.mono ?_; rintro e w' ⟨rfl, k, x, w1, hk, hb, rfl⟩)
  go_ret
  exact ⟨rfl, k, x, w1, hk, Below.step HB.out hb, rfl⟩
set_option maxRecDepth 100000 in
set_option maxHeartbeats 4000000 in
theorem eas_missP (l : List (Bool × Int)) (v : Value) (a t : Addr) (old : Value) (s : Nat → Addr) (wc w : World) (hbc : Below wc.heap.size wc w) (hs : Snt w s) (hc : Chn wc l v (bot a))
    (ht : w.cell? t = some old) (hf : w.frozen? t = false) (hn : firstOf false l = none) :
    Calls Tryd.prog 86 #[v, .iface 131 (.pointer (some t))] w
      fun e w' => e = .returned (.bool false) ∧ Below w.heap.size w w' := by
  have hxV := @run_callFunc_extern Tryd.prog 102 _ (fun args => ReflectliteValue.unpack (args.getD 0 (.tuple #[]))) Tryd.func102 (by kernel_rfl) (by kernel_rfl) (by kernel_rfl) (by kernel_rfl)
  have hxT := @run_callFunc_extern Tryd.prog 103 _ (ReflectliteValue.methodAny (ReflectliteValue.valueError "reflectlite.Value.Type" 0) (fun t _ _ _ => ReflectliteType.toType t)) Tryd.func103 (by kernel_rfl) (by kernel_rfl) (by kernel_rfl) (by kernel_rfl)
  have hxN := @run_callFunc_extern Tryd.prog 104 _ (ReflectliteValue.method (ReflectliteValue.valueError "reflectlite.Value.IsNil" 0) ReflectliteValue.isNil) Tryd.func104 (by kernel_rfl) (by kernel_rfl) (by kernel_rfl) (by kernel_rfl)
  have hxK := @run_callFunc_extern Tryd.prog 148 _ (ReflectliteType.abiMethod fun t => do pure (.int .u8 (← Rtype.kind t))) Tryd.func148 (by kernel_rfl) (by kernel_rfl) (by kernel_rfl) (by kernel_rfl)
  have hxE := @run_callFunc_extern Tryd.prog 163 _ (ReflectliteType.method ReflectliteType.elem) Tryd.func163 (by kernel_rfl) (by kernel_rfl) (by kernel_rfl) (by kernel_rfl)
  have hxI := @run_callFunc_extern Tryd.prog 164 _ (ReflectliteType.relation "Implements" ReflectliteType.implements_) Tryd.func164 (by kernel_rfl) (by kernel_rfl) (by kernel_rfl) (by kernel_rfl)
  have f2 := Tryd.valueOf2P
  have ty2 := Tryd.type2P
  have mK := Tryd.methodKind
  have mE := Tryd.methodElem
  have mI := Tryd.methodImplements
  have k2 := Tryd.kind2P
  have k1 := Tryd.kind1P
  have e2 := Tryd.elem2P
  have i1 := Tryd.implements1P
  obtain ⟨vt, vv, rfl⟩ := hc.held ⟨_, _, rfl⟩
  have htl := lt_of_cell ht
  have hg : ((w.alloc (.cells #[.pointer (some t)] 131)).alloc (.cells #[.pointer (some ⟨23, 131, none⟩), .pointer (some ⟨w.heap.size, 0, none⟩), .int .u64 150] 148)).cell? ⟨21, 0, none⟩ = some (.iface 173 (.agg #[.pointer (some ⟨23, 55, none⟩)])) :=
    (hs.below (((Below.refl _ _).alloc (Nat.le_refl _) _).alloc (by simp) _)).ety
  have n8 := Tryd.isNil2P ⟨w.heap.size, 0, none⟩ t ((w.alloc (.cells #[.pointer (some t)] 131)).alloc (.cells #[.pointer (some ⟨23, 131, none⟩), .pointer (some ⟨w.heap.size, 0, none⟩), .int .u64 150] 148)) (by simp)
  have HW := Lib.hid (as_missP l (.iface vt vv) a t ⟨w.heap.size, 0, none⟩ old wc ((w.alloc (.cells #[.pointer (some t)] 131)).alloc (.cells #[.pointer (some ⟨23, 131, none⟩), .pointer (some ⟨w.heap.size, 0, none⟩), .int .u64 150] 148)) ((hbc.alloc hbc.size _).alloc (by have := hbc.size; simp; omega) _) hc (by simp)
    (by rw [World.cell?_alloc_lt _ _ t (by simp; omega), World.cell?_alloc_lt _ _ t htl]; exact ht)
    (by rw [World.frozen?_alloc_old _ _ t (by simp; omega), World.frozen?_alloc_old _ _ t (by omega)]; exact hf) hn)
  have HB : Hid (Below w.heap.size w ((w.alloc (.cells #[.pointer (some t)] 131)).alloc (.cells #[.pointer (some ⟨23, 131, none⟩), .pointer (some ⟨w.heap.size, 0, none⟩), .int .u64 150] 148))) := ((Below.refl _ _).alloc (Nat.le_refl _) _).alloc (by simp) _
  clear hc ht hf hs htl hn hbc
  go_enter Tryd.func86, Tryd.ntmps86
  go_wp2_with (go_at_call 105; refine HW.out.mono ?_; rintro e w' ⟨rfl, hb⟩)
  go_ret
  exact ⟨rfl, Below.step HB.out hb⟩
set_option maxRecDepth 100000 in
set_option maxHeartbeats 4000000 in
theorem eas_hitS (l : List (Bool × Int)) (v : Value) (a t : Addr) (old : Value) (s : Nat → Addr) (wc w : World) (hbc : Below wc.heap.size wc w) (hs : Snt w s) (hc : Chn wc l v (bot a))
    (ht : w.cell? t = some old) (hf : w.frozen? t = false) (n : Int) (hn : firstOf true l = some n) :
    Calls Tryd.prog 86 #[v, .iface 132 (.pointer (some t))] w
      fun e w' => e = .returned (.bool true) ∧ ∃ k x w1, wc.heap[k]? = some (.cells #[x, .int .i64 n] 111) ∧ Below w.heap.size w w1 ∧ w' = w1.setCell t (.pointer (some ⟨k, 0, none⟩)) := by
  have hxV := @run_callFunc_extern Tryd.prog 102 _ (fun args => ReflectliteValue.unpack (args.getD 0 (.tuple #[]))) Tryd.func102 (by kernel_rfl) (by kernel_rfl) (by kernel_rfl) (by kernel_rfl)
  have hxT := @run_callFunc_extern Tryd.prog 103 _ (ReflectliteValue.methodAny (ReflectliteValue.valueError "reflectlite.Value.Type" 0) (fun t _ _ _ => ReflectliteType.toType t)) Tryd.func103 (by kernel_rfl) (by kernel_rfl) (by kernel_rfl) (by kernel_rfl)
  have hxN := @run_callFunc_extern Tryd.prog 104 _ (ReflectliteValue.method (ReflectliteValue.valueError "reflectlite.Value.IsNil" 0) ReflectliteValue.isNil) Tryd.func104 (by kernel_rfl) (by kernel_rfl) (by kernel_rfl) (by kernel_rfl)
  have hxK := @run_callFunc_extern Tryd.prog 148 _ (ReflectliteType.abiMethod fun t => do pure (.int .u8 (← Rtype.kind t))) Tryd.func148 (by kernel_rfl) (by kernel_rfl) (by kernel_rfl) (by kernel_rfl)
  have hxE := @run_callFunc_extern Tryd.prog 163 _ (ReflectliteType.method ReflectliteType.elem) Tryd.func163 (by kernel_rfl) (by kernel_rfl) (by kernel_rfl) (by kernel_rfl)
  have hxI := @run_callFunc_extern Tryd.prog 164 _ (ReflectliteType.relation "Implements" ReflectliteType.implements_) Tryd.func164 (by kernel_rfl) (by kernel_rfl) (by kernel_rfl) (by kernel_rfl)
  have f2 := Tryd.valueOf2S
  have ty2 := Tryd.type2S
  have mK := Tryd.methodKind
  have mE := Tryd.methodElem
  have mI := Tryd.methodImplements
  have k2 := Tryd.kind2S
  have k1 := Tryd.kind1S
  have e2 := Tryd.elem2S
  have i1 := Tryd.implements1S
  obtain ⟨vt, vv, rfl⟩ := hc.held ⟨_, _, rfl⟩
  have htl := lt_of_cell ht
  have hg : ((w.alloc (.cells #[.pointer (some t)] 132)).alloc (.cells #[.pointer (some ⟨23, 132, none⟩), .pointer (some ⟨w.heap.size, 0, none⟩), .int .u64 150] 148)).cell? ⟨21, 0, none⟩ = some (.iface 173 (.agg #[.pointer (some ⟨23, 55, none⟩)])) :=
    (hs.below (((Below.refl _ _).alloc (Nat.le_refl _) _).alloc (by simp) _)).ety
  have n8 := Tryd.isNil2S ⟨w.heap.size, 0, none⟩ t ((w.alloc (.cells #[.pointer (some t)] 132)).alloc (.cells #[.pointer (some ⟨23, 132, none⟩), .pointer (some ⟨w.heap.size, 0, none⟩), .int .u64 150] 148)) (by simp)
  have HW := Lib.hid (as_hitS l (.iface vt vv) a t ⟨w.heap.size, 0, none⟩ old wc ((w.alloc (.cells #[.pointer (some t)] 132)).alloc (.cells #[.pointer (some ⟨23, 132, none⟩), .pointer (some ⟨w.heap.size, 0, none⟩), .int .u64 150] 148)) ((hbc.alloc hbc.size _).alloc (by have := hbc.size; simp; omega) _) hc (by simp)
    (by rw [World.cell?_alloc_lt _ _ t (by simp; omega), World.cell?_alloc_lt _ _ t htl]; exact ht)
    (by rw [World.frozen?_alloc_old _ _ t (by simp; omega), World.frozen?_alloc_old _ _ t (by omega)]; exact hf) n hn)
  have HB : Hid (Below w.heap.size w ((w.alloc (.cells #[.pointer (some t)] 132)).alloc (.cells #[.pointer (some ⟨23, 132, none⟩), .pointer (some ⟨w.heap.size, 0, none⟩), .int .u64 150] 148))) := ((Below.refl _ _).alloc (Nat.le_refl _) _).alloc (by simp) _
  clear hc ht hf hs htl hn hbc
  go_enter Tryd.func86, Tryd.ntmps86
  go_wp2_with (go_at_call 105; refine HW.out.mono ?_; rintro e w' ⟨rfl, k, x, w1, hk, hb, rfl⟩)
  go_ret
  exact ⟨rfl, k, x, w1, hk, Below.step HB.out hb, rfl⟩
set_option maxRecDepth 100000 in
set_option maxHeartbeats 4000000 in
theorem eas_missS (l : List (Bool × Int)) (v : Value) (a t : Addr) (old : Value) (s : Nat → Addr) (wc w : World) (hbc : Below wc.heap.size wc w) (hs : Snt w s) (hc : Chn wc l v (bot a))
    (ht : w.cell? t = some old) (hf : w.frozen? t = false) (hn : firstOf true l = none) :
    Calls Tryd.prog 86 #[v, .iface 132 (.pointer (some t))] w
      fun e w' => e = .returned (.bool false) ∧ Below w.heap.size w w' := by
  have hxV := @run_callFunc_extern Tryd.prog 102 _ (fun args => ReflectliteValue.unpack (args.getD 0 (.tuple #[]))) Tryd.func102 (by kernel_rfl) (by kernel_rfl) (by kernel_rfl) (by kernel_rfl)
  have hxT := @run_callFunc_extern Tryd.prog 103 _ (ReflectliteValue.methodAny (ReflectliteValue.valueError "reflectlite.Value.Type" 0) (fun t _ _ _ => ReflectliteType.toType t)) Tryd.func103 (by kernel_rfl) (by kernel_rfl) (by kernel_rfl) (by kernel_rfl)
  have hxN := @run_callFunc_extern Tryd.prog 104 _ (ReflectliteValue.method (ReflectliteValue.valueError "reflectlite.Value.IsNil" 0) ReflectliteValue.isNil) Tryd.func104 (by kernel_rfl) (by kernel_rfl) (by kernel_rfl) (by kernel_rfl)
  have hxK := @run_callFunc_extern Tryd.prog 148 _ (ReflectliteType.abiMethod fun t => do pure (.int .u8 (← Rtype.kind t))) Tryd.func148 (by kernel_rfl) (by kernel_rfl) (by kernel_rfl) (by kernel_rfl)
  have hxE := @run_callFunc_extern Tryd.prog 163 _ (ReflectliteType.method ReflectliteType.elem) Tryd.func163 (by kernel_rfl) (by kernel_rfl) (by kernel_rfl) (by kernel_rfl)
  have hxI := @run_callFunc_extern Tryd.prog 164 _ (ReflectliteType.relation "Implements" ReflectliteType.implements_) Tryd.func164 (by kernel_rfl) (by kernel_rfl) (by kernel_rfl) (by kernel_rfl)
  have f2 := Tryd.valueOf2S
  have ty2 := Tryd.type2S
  have mK := Tryd.methodKind
  have mE := Tryd.methodElem
  have mI := Tryd.methodImplements
  have k2 := Tryd.kind2S
  have k1 := Tryd.kind1S
  have e2 := Tryd.elem2S
  have i1 := Tryd.implements1S
  obtain ⟨vt, vv, rfl⟩ := hc.held ⟨_, _, rfl⟩
  have htl := lt_of_cell ht
  have hg : ((w.alloc (.cells #[.pointer (some t)] 132)).alloc (.cells #[.pointer (some ⟨23, 132, none⟩), .pointer (some ⟨w.heap.size, 0, none⟩), .int .u64 150] 148)).cell? ⟨21, 0, none⟩ = some (.iface 173 (.agg #[.pointer (some ⟨23, 55, none⟩)])) :=
    (hs.below (((Below.refl _ _).alloc (Nat.le_refl _) _).alloc (by simp) _)).ety
  have n8 := Tryd.isNil2S ⟨w.heap.size, 0, none⟩ t ((w.alloc (.cells #[.pointer (some t)] 132)).alloc (.cells #[.pointer (some ⟨23, 132, none⟩), .pointer (some ⟨w.heap.size, 0, none⟩), .int .u64 150] 148)) (by simp)
  have HW := Lib.hid (as_missS l (.iface vt vv) a t ⟨w.heap.size, 0, none⟩ old wc ((w.alloc (.cells #[.pointer (some t)] 132)).alloc (.cells #[.pointer (some ⟨23, 132, none⟩), .pointer (some ⟨w.heap.size, 0, none⟩), .int .u64 150] 148)) ((hbc.alloc hbc.size _).alloc (by have := hbc.size; simp; omega) _) hc (by simp)
    (by rw [World.cell?_alloc_lt _ _ t (by simp; omega), World.cell?_alloc_lt _ _ t htl]; exact ht)
    (by rw [World.frozen?_alloc_old _ _ t (by simp; omega), World.frozen?_alloc_old _ _ t (by omega)]; exact hf) hn)
  have HB : Hid (Below w.heap.size w ((w.alloc (.cells #[.pointer (some t)] 132)).alloc (.cells #[.pointer (some ⟨23, 132, none⟩), .pointer (some ⟨w.heap.size, 0, none⟩), .int .u64 150] 148))) := ((Below.refl _ _).alloc (Nat.le_refl _) _).alloc (by simp) _
  clear hc ht hf hs htl hn hbc
  go_enter Tryd.func86, Tryd.ntmps86
  go_wp2_with (go_at_call 105; refine HW.out.mono ?_; rintro e w' ⟨rfl, hb⟩)
  go_ret
  exact ⟨rfl, Below.step HB.out hb⟩
end Go.Proofs.YtopnckfmdjhbjaaDoor
