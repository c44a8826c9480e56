import Derived.Test.YtacfglopionkfaaGreatDoorProg
import Derived.WalkKit
import Derived.LaidEql
import Derived.Stop.Asserts
import Derived.RowKitTokens
import Derived.Deep.LoopGhost
import Derived.Outline
import Derived.Lib.Hide
namespace Go.Proofs.YtacfglopionkfaaGreatDoor
set_option maxRecDepth 100000
open Go.RowKit Go.Extern.Stop Go.Stop Go.Extern
def kJ (w:World):List (Bool × Int)→Value→Value→Prop
 | [],v,r=>v=r
 | (b,n)::l,v,r=> ∃(k:Nat) (x:Value),v= .iface (bif b then 89 else 84) (.pointer (some ⟨k,0,none⟩))∧w.heap[k]? =some (.cells #[x,.int .i64 n] (bif b then 93 else 88))∧kJ w l x r
def bot (a:Addr):Value:= .iface 276 (.pointer (some a))
theorem kJ.held {w:World} {l:List (Bool × Int)} {v r:Value} (h:kJ w l v r) (hr: ∃t x,r= .iface t x): ∃t x,v= .iface t x:=by
 cases l with
 | nil=>cases h;exact hr
 | cons p l=>obtain ⟨b,n⟩:=p;obtain ⟨k,x,hv,_,_⟩:=h;exact ⟨_,_,hv⟩
theorem kJ.kept {w w':World} (hb: ∀(k:Nat) (o:Obj),w.heap[k]? =some o→w'.heap[k]? =some o): ∀{l:List (Bool × Int)} {v r:Value},kJ w l v r→kJ w' l v r
 | [],_,_,h=>h
 | (_,_)::_,_,_,⟨k,x,hv,hk,hl⟩=>⟨k,x,hv,hb k _ hk,kJ.kept hb hl⟩
theorem bY {w w':World} (hb:Below w.heap.size w w'): ∀(k:Nat) (o:Obj),w.heap[k]? =some o→w'.heap[k]? =some o:=by
 intro k o hk
 have hlt:k<w.heap.size:=by
  rcases Nat.lt_or_ge k w.heap.size with h | h
  ·exact h
  ·rw [Array.getElem?_eq_none h] at hk;cases hk
 rw [hb.block k hlt];exact hk
theorem kJ.below {w w':World} (hb:Below w.heap.size w w') {l:List (Bool × Int)} {v r:Value} (h:kJ w l v r):kJ w' l v r:=h.kept (bY hb)
theorem Tryz.isTypeOf (v:Value) (w:World):(Extern.ReflectliteType.typeOf #[.iface 276 v]).run Tryz.prog w= .ok (.iface 201 (.agg #[.pointer (some ⟨28,276,none⟩)])) w:=by kernel_rfl
theorem Tryz.isComparable (w:World):((Extern.ReflectliteType.method fun t=>do Extern.Rtype.noPackHeld "Comparable" t;(fun a=>Value.bool a.comparable)<$>typeInfo t) #[.agg #[.pointer (some ⟨28,276,none⟩)]]).run Tryz.prog w= .ok (.bool true) w:=by kernel_rfl
theorem Tryz.isMethodComparable (v:Value) (w:World):(Go.method 406 201 v "Comparable").run Tryz.prog w= .ok (250,v) w:=by kernel_rfl
theorem Tryz.isComp:(Tryz.prog.info? 276).map (·.comparable)=some true:=by kernel_rfl
theorem Tryz.isSize:(Tryz.prog.info? 294).map (·.size)=some 1:=by kernel_rfl
theorem Tryz.noIsE (v:Value) (xT:TypeId) (w:World):(Instr.typeAssert (.iface 276 v) xT 230 true).run Tryz.prog w= .ok (.tuple #[.nilIface,.bool false]) w:=run_typeAssert_lacksB Tryz.underlying230 (by kernel_rfl) (by kernel_rfl) v xT w
theorem Tryz.noUnwrapE (v:Value) (xT:TypeId) (w:World):(Instr.typeAssert (.iface 276 v) xT 208 true).run Tryz.prog w= .ok (.tuple #[.nilIface,.bool false]) w:=run_typeAssert_lacksB Tryz.underlying208 (by kernel_rfl) (by kernel_rfl) v xT w
theorem Tryz.noUnwrapsE (v:Value) (xT:TypeId) (w:World):(Instr.typeAssert (.iface 276 v) xT 210 true).run Tryz.prog w= .ok (.tuple #[.nilIface,.bool false]) w:=run_typeAssert_lacksB Tryz.underlying210 (by kernel_rfl) (by kernel_rfl) v xT w
theorem Tryz.noIsP (v:Value) (xT:TypeId) (w:World):(Instr.typeAssert (.iface 84 v) xT 230 true).run Tryz.prog w= .ok (.tuple #[.nilIface,.bool false]) w:=run_typeAssert_lacksB Tryz.underlying230 (by kernel_rfl) (by kernel_rfl) v xT w
theorem Tryz.noIsS (v:Value) (xT:TypeId) (w:World):(Instr.typeAssert (.iface 89 v) xT 230 true).run Tryz.prog w= .ok (.tuple #[.nilIface,.bool false]) w:=run_typeAssert_lacksB Tryz.underlying230 (by kernel_rfl) (by kernel_rfl) v xT w
theorem Tryz.hasUnwrapP (v:Value) (xT:TypeId) (w:World):(Instr.typeAssert (.iface 84 v) xT 208 true).run Tryz.prog w= .ok (.tuple #[.iface 84 v,.bool true]) w:=run_typeAssert_hasB Tryz.underlying208 (by kernel_rfl) v xT w
theorem Tryz.hasUnwrapS (v:Value) (xT:TypeId) (w:World):(Instr.typeAssert (.iface 89 v) xT 208 true).run Tryz.prog w= .ok (.tuple #[.iface 89 v,.bool true]) w:=run_typeAssert_hasB Tryz.underlying208 (by kernel_rfl) v xT w
theorem Tryz.methodUnwrapP (v:Value) (w:World):(Go.method 406 84 v "Unwrap").run Tryz.prog w= .ok (241,v) w:=by kernel_rfl
theorem Tryz.methodUnwrapS (v:Value) (w:World):(Go.method 406 89 v "Unwrap").run Tryz.prog w= .ok (243,v) w:=by kernel_rfl
theorem Fv (k:Nat) (x:Value) (w:World) (h:w.cell? ⟨k,0,none⟩=some x):Calls Tryz.prog 241 #[.pointer (some ⟨k,0,none⟩)] w fun e w'=>e= .returned x∧w=w':=by
 go_enter Tryz.func241,Tryz.ntmps241
 go_wp2
 go_ret
 exact ⟨rfl,rfl⟩
theorem Fq (k:Nat) (x:Value) (w:World) (h:w.cell? ⟨k,0,none⟩=some x):Calls Tryz.prog 243 #[.pointer (some ⟨k,0,none⟩)] w fun e w'=>e= .returned x∧w=w':=by
 go_enter Tryz.func243,Tryz.ntmps243
 go_wp2
 go_ret
 exact ⟨rfl,rfl⟩
def Zz (w:World) (r:Value) (k:Nat) (v:Value) (wr:World):Prop:=wr=w∧ ∃l,l.length=k∧kJ w l v r
set_option maxHeartbeats 1000000 in
theorem PD (l:List (Bool × Int)) (v:Value) (a b:Addr) (q:Bool) (w:World) (hc:kJ w l v (bot a))
  (heq:(binOp .eql 25 (.iface 276 (.pointer (some a))) (.iface 276 (.pointer (some b)))).run Tryz.prog w= .ok (.bool q) w):
  Calls Tryz.prog 150 #[v,bot b,.bool true] w fun e w'=>e= .returned (.bool q)∧w=w':=by
 have nE:=Tryz.noIsE
 have uE:=Tryz.noUnwrapE
 have vE:=Tryz.noUnwrapsE
 have nP:=Tryz.noIsP
 have nS:=Tryz.noIsS
 have hP:=Tryz.hasUnwrapP
 have hS:=Tryz.hasUnwrapS
 have mP:=Tryz.methodUnwrapP
 have mS:=Tryz.methodUnwrapS
 have tP:=fun (x:Value)=>run_eql_iface_types (P:=Tryz.prog) 84 276 x (.pointer (some b)) Tryz.underlying25 (by decide) w
 have tS:=fun (x:Value)=>run_eql_iface_types (P:=Tryz.prog) 89 276 x (.pointer (some b)) Tryz.underlying25 (by decide) w
 unfold bot at*
 go_enter Tryz.func150,Tryz.ntmps150
 go_wp2
 go_loopg [0] l.length (fun k v wr=>Zz w (.iface 276 (.pointer (some a))) k v wr)
 case atStart=>exact ⟨rfl,l,rfl,hc⟩
 case round=>
  obtain ⟨rfl,l',hl,hc'⟩:=hrel
  cases l' with
  | nil=>
   cases hc'
   cases q
   ·go_wp2
    go_ret
    exact ⟨rfl,rfl⟩
   ·go_wp2
    go_ret
    exact ⟨rfl,rfl⟩
  | cons p l''=>
   obtain ⟨pb,n⟩:=p
   obtain ⟨k,x,rfl,hk,hx⟩:=hc'
   obtain ⟨xt,xv,rfl⟩:=hx.held ⟨_,_,rfl⟩
   have hcell:wr.cell? ⟨k,0,none⟩=some (.iface xt xv):=by simp [World.cell?,hk]
   have HX:=Lib.hid hx
   have HL:=Lib.hid hl
   have HK:=Lib.hid hk
   clear hx hl hk hc heq
   cases pb
   ·simp only [cond_false] at*
    go_wp2_with fail
    refine (Fv k _ _ hcell).mono ?_
    rintro e w' ⟨rfl,rfl⟩
    go_wp2
    go_roundg l''.length
    case measure=>have:=HL.out;simp only [List.length_cons] at this;omega
    case rel=>exact ⟨rfl,l'',rfl,HX.out⟩
   ·simp only [cond_true] at*
    go_wp2_with fail
    refine (Fq k _ _ hcell).mono ?_
    rintro e w' ⟨rfl,rfl⟩
    go_wp2
    go_roundg l''.length
    case measure=>have:=HL.out;simp only [List.length_cons] at this;omega
    case rel=>exact ⟨rfl,l'',rfl,HX.out⟩
end Go.Proofs.YtacfglopionkfaaGreatDoor
namespace Go.Proofs.YtacfglopionkfaaGreatDoor
set_option maxRecDepth 100000
open Go.RowKit Go.Extern.Stop Go.Stop Go.Extern
def aO (b:Bool):List (Bool × Int)→Option Int
 | []=>none
 | (c,n)::l=>if c=b then some n else aO b l
theorem Tryz.methodKind (h:Value) (w:World):(Go.method 406 201 (.agg #[h]) "Kind").run Tryz.prog w= .ok (237,h) w:=by kernel_rfl
theorem Tryz.methodElem (h:Value) (w:World):(Go.method 406 201 (.agg #[h]) "Elem").run Tryz.prog w= .ok (251,.agg #[h]) w:=by kernel_rfl
theorem Tryz.methodImplements (h:Value) (w:World):(Go.method 406 201 (.agg #[h]) "Implements").run Tryz.prog w= .ok (252,.agg #[h]) w:=by kernel_rfl
theorem Tryz.methodAssignableTo (h:Value) (w:World):(Go.method 406 201 (.agg #[h]) "AssignableTo").run Tryz.prog w= .ok (249,.agg #[h]) w:=by kernel_rfl
theorem Tryz.typeOfP (v:Value) (w:World):(ReflectliteType.typeOf #[.iface 84 v]).run Tryz.prog w= .ok (.iface 201 (.agg #[.pointer (some ⟨28,84,none⟩)])) w:=by kernel_rfl
theorem Tryz.noAsP (v:Value) (xT:TypeId) (w:World):(Instr.typeAssert (.iface 84 v) xT 205 true).run Tryz.prog w= .ok (.tuple #[.nilIface,.bool false]) w:=run_typeAssert_lacksB Tryz.underlying205 (by kernel_rfl) (by kernel_rfl) v xT w
theorem Tryz.assignablePP (w:World):(ReflectliteType.relation "AssignableTo" ReflectliteType.assignableTo #[.agg #[.pointer (some ⟨28,84,none⟩)],.iface 201 (.agg #[.pointer (some ⟨28,84,none⟩)])]).run Tryz.prog w= .ok (.bool (84==84)) w:=by kernel_rfl
theorem Tryz.assignablePS (w:World):(ReflectliteType.relation "AssignableTo" ReflectliteType.assignableTo #[.agg #[.pointer (some ⟨28,84,none⟩)],.iface 201 (.agg #[.pointer (some ⟨28,89,none⟩)])]).run Tryz.prog w= .ok (.bool (84==89)) w:=by kernel_rfl
theorem Tryz.typeOfS (v:Value) (w:World):(ReflectliteType.typeOf #[.iface 89 v]).run Tryz.prog w= .ok (.iface 201 (.agg #[.pointer (some ⟨28,89,none⟩)])) w:=by kernel_rfl
theorem Tryz.noAsS (v:Value) (xT:TypeId) (w:World):(Instr.typeAssert (.iface 89 v) xT 205 true).run Tryz.prog w= .ok (.tuple #[.nilIface,.bool false]) w:=run_typeAssert_lacksB Tryz.underlying205 (by kernel_rfl) (by kernel_rfl) v xT w
theorem Tryz.assignableSP (w:World):(ReflectliteType.relation "AssignableTo" ReflectliteType.assignableTo #[.agg #[.pointer (some ⟨28,89,none⟩)],.iface 201 (.agg #[.pointer (some ⟨28,84,none⟩)])]).run Tryz.prog w= .ok (.bool (89==84)) w:=by kernel_rfl
theorem Tryz.assignableSS (w:World):(ReflectliteType.relation "AssignableTo" ReflectliteType.assignableTo #[.agg #[.pointer (some ⟨28,89,none⟩)],.iface 201 (.agg #[.pointer (some ⟨28,89,none⟩)])]).run Tryz.prog w= .ok (.bool (89==89)) w:=by kernel_rfl
theorem Tryz.typeOfE (v:Value) (w:World):(ReflectliteType.typeOf #[.iface 276 v]).run Tryz.prog w= .ok (.iface 201 (.agg #[.pointer (some ⟨28,276,none⟩)])) w:=by kernel_rfl
theorem Tryz.noAsE (v:Value) (xT:TypeId) (w:World):(Instr.typeAssert (.iface 276 v) xT 205 true).run Tryz.prog w= .ok (.tuple #[.nilIface,.bool false]) w:=run_typeAssert_lacksB Tryz.underlying205 (by kernel_rfl) (by kernel_rfl) v xT w
theorem Tryz.assignableEP (w:World):(ReflectliteType.relation "AssignableTo" ReflectliteType.assignableTo #[.agg #[.pointer (some ⟨28,276,none⟩)],.iface 201 (.agg #[.pointer (some ⟨28,84,none⟩)])]).run Tryz.prog w= .ok (.bool (276==84)) w:=by kernel_rfl
theorem Tryz.assignableES (w:World):(ReflectliteType.relation "AssignableTo" ReflectliteType.assignableTo #[.agg #[.pointer (some ⟨28,276,none⟩)],.iface 201 (.agg #[.pointer (some ⟨28,89,none⟩)])]).run Tryz.prog w= .ok (.bool (276==89)) w:=by kernel_rfl
theorem Tryz.valueOf2P (t:Addr) (w:World):(ReflectliteValue.unpack (.iface 143 (.pointer (some t)))).run Tryz.prog w
  = .ok (.agg #[.pointer (some ⟨28,143,none⟩),.pointer (some ⟨w.heap.size,0,none⟩),.int .u64 150]) (w.alloc (.cells #[.pointer (some t)] 143)):=by kernel_rfl
theorem Tryz.type2P (a:Addr) (w:World):(ReflectliteValue.methodAny (ReflectliteValue.valueError "reflectlite.Value.Type" 0) (fun t _ _ _=>ReflectliteType.toType t) #[.agg #[.pointer (some ⟨28,143,none⟩),.pointer (some a),.int .u64 150]]).run Tryz.prog w
  = .ok (.iface 201 (.agg #[.pointer (some ⟨28,143,none⟩)])) w:=by kernel_rfl
theorem Tryz.kind2P (w:World):((ReflectliteType.abiMethod fun t=>(fun a:Nat=>Value.int IntKind.u8 (a:Int))<$>Rtype.kind t) #[.pointer (some ⟨28,143,none⟩)]).run Tryz.prog w= .ok (.int .u8 22) w:=by kernel_rfl
theorem Tryz.kind1P (w:World):((ReflectliteType.abiMethod fun t=>(fun a:Nat=>Value.int IntKind.u8 (a:Int))<$>Rtype.kind t) #[.pointer (some ⟨28,84,none⟩)]).run Tryz.prog w= .ok (.int .u8 22) w:=by kernel_rfl
theorem Tryz.parts2P (a:Addr) (w:World):(ReflectliteValue.parts (.agg #[.pointer (some ⟨28,143,none⟩),.pointer (some a),.int .u64 150])).run Tryz.prog w= .ok (some (143,a,150)) w:=by kernel_rfl
theorem Tryz.isNil2P (a p:Addr) (W:World) (ha:W.cell? a=some (.pointer (some p))):
  (ReflectliteValue.method (ReflectliteValue.valueError "reflectlite.Value.IsNil" 0) ReflectliteValue.isNil #[.agg #[.pointer (some ⟨28,143,none⟩),.pointer (some a),.int .u64 150]]).run Tryz.prog W= .ok (.bool false) W:=by
 delta ReflectliteValue.method ReflectliteValue.method.match_2
 simp only [List.size_toArray,List.length_cons,List.length_nil,Nat.zero_add,dite_true,Array.getLit,List.getElem_toArray,List.getElem_cons_zero]
 simp only [Sem.run_bind,Tryz.parts2P,Result.andThen]
 simp [ReflectliteValue.isNil,loadVar,isAgg,underlying,Tryz.underlying143,ha,Result.andThen]
theorem Tryz.elem2P (w:World):(ReflectliteType.method ReflectliteType.elem #[.agg #[.pointer (some ⟨28,143,none⟩)]]).run Tryz.prog w= .ok (.iface 201 (.agg #[.pointer (some ⟨28,84,none⟩)])) w:=by kernel_rfl
theorem Tryz.implements1P (w:World):(ReflectliteType.relation "Implements" ReflectliteType.implements_ #[.agg #[.pointer (some ⟨28,84,none⟩)],.iface 201 (.agg #[.pointer (some ⟨28,25,none⟩)])]).run Tryz.prog w= .ok (.bool true) w:=by kernel_rfl
theorem Tryz.valueOf1P (e:Addr) (w:World):(ReflectliteValue.unpack (.iface 84 (.pointer (some e)))).run Tryz.prog w
  = .ok (.agg #[.pointer (some ⟨28,84,none⟩),.pointer (some ⟨w.heap.size,0,none⟩),.int .u64 150]) (w.alloc (.cells #[.pointer (some e)] 84)):=by kernel_rfl
theorem Tryz.elemOf2P (w:World):(Rtype.elem? 143).run Tryz.prog w= .ok (some 84) w:=by kernel_rfl
theorem Tryz.mk1P (p:Addr) (w:World):(ReflectliteValue.mk 84 p ReflectliteValue.flagAddr).run Tryz.prog w= .ok (.agg #[.pointer (some ⟨28,84,none⟩),.pointer (some p),.int .u64 406]) w:=by kernel_rfl
theorem Tryz.elemV2P (a p:Addr) (W:World) (ha:W.cell? a=some (.pointer (some p))):
  (ReflectliteValue.method (ReflectliteValue.valueError "reflectlite.Value.Elem" 0) ReflectliteValue.elem #[.agg #[.pointer (some ⟨28,143,none⟩),.pointer (some a),.int .u64 150]]).run Tryz.prog W
   = .ok (.agg #[.pointer (some ⟨28,84,none⟩),.pointer (some p),.int .u64 406]) W:=by
 delta ReflectliteValue.method ReflectliteValue.method.match_2
 simp only [List.size_toArray,List.length_cons,List.length_nil,Nat.zero_add,dite_true,Array.getLit,List.getElem_toArray,List.getElem_cons_zero]
 simp only [Sem.run_bind,Tryz.parts2P,Result.andThen]
 simp [ReflectliteValue.elem,loadVar,isAgg,underlying,Tryz.underlying143,ha,Result.andThen,Tryz.elemOf2P,Tryz.mk1P]
theorem Tryz.parts1aP (a:Addr) (w:World):(ReflectliteValue.parts (.agg #[.pointer (some ⟨28,84,none⟩),.pointer (some a),.int .u64 406])).run Tryz.prog w= .ok (some (84,a,406)) w:=by kernel_rfl
theorem Tryz.parts1P (a:Addr) (w:World):(ReflectliteValue.parts (.agg #[.pointer (some ⟨28,84,none⟩),.pointer (some a),.int .u64 150])).run Tryz.prog w= .ok (some (84,a,150)) w:=by kernel_rfl
theorem Tryz.direct1P (w:World):(Rtype.directlyAssignable 84 84).run Tryz.prog w= .ok true w:=by kernel_rfl
theorem Tryz.set1P (ta b e:Addr) (old:Value) (W:World) (hb:W.cell? b=some (.pointer (some e))) (ht:W.cell? ta=some old) (hf:W.frozen? ta=false):
  (ReflectliteValue.set #[.agg #[.pointer (some ⟨28,84,none⟩),.pointer (some ta),.int .u64 406],.agg #[.pointer (some ⟨28,84,none⟩),.pointer (some b),.int .u64 150]]).run Tryz.prog W
   = .ok (.tuple #[]) (W.setCell ta (.pointer (some e))):=by
 delta ReflectliteValue.set ReflectliteValue.set.match_3
 simp only [List.size_toArray,List.length_cons,List.length_nil,Nat.zero_add,Nat.reduceAdd,dite_true,Array.getLit,List.getElem_toArray,List.getElem_cons_zero,List.getElem_cons_succ]
 simp only [Sem.run_bind,Tryz.parts1aP,Tryz.parts1P,Result.andThen]
 simp [ReflectliteValue.flagAddr,loadVar,isAgg,underlying,Tryz.underlying84,hb,Result.andThen,Tryz.direct1P,storeVar,Value.cells,storeCells,Addr.add]
 rw [run_store Tryz.prog W ta _ _ (by rfl)]
 simp [ht,hf]
theorem Tryz.valueOf2S (t:Addr) (w:World):(ReflectliteValue.unpack (.iface 144 (.pointer (some t)))).run Tryz.prog w
  = .ok (.agg #[.pointer (some ⟨28,144,none⟩),.pointer (some ⟨w.heap.size,0,none⟩),.int .u64 150]) (w.alloc (.cells #[.pointer (some t)] 144)):=by kernel_rfl
theorem Tryz.type2S (a:Addr) (w:World):(ReflectliteValue.methodAny (ReflectliteValue.valueError "reflectlite.Value.Type" 0) (fun t _ _ _=>ReflectliteType.toType t) #[.agg #[.pointer (some ⟨28,144,none⟩),.pointer (some a),.int .u64 150]]).run Tryz.prog w
  = .ok (.iface 201 (.agg #[.pointer (some ⟨28,144,none⟩)])) w:=by kernel_rfl
theorem Tryz.kind2S (w:World):((ReflectliteType.abiMethod fun t=>(fun a:Nat=>Value.int IntKind.u8 (a:Int))<$>Rtype.kind t) #[.pointer (some ⟨28,144,none⟩)]).run Tryz.prog w= .ok (.int .u8 22) w:=by kernel_rfl
theorem Tryz.kind1S (w:World):((ReflectliteType.abiMethod fun t=>(fun a:Nat=>Value.int IntKind.u8 (a:Int))<$>Rtype.kind t) #[.pointer (some ⟨28,89,none⟩)]).run Tryz.prog w= .ok (.int .u8 22) w:=by kernel_rfl
theorem Tryz.parts2S (a:Addr) (w:World):(ReflectliteValue.parts (.agg #[.pointer (some ⟨28,144,none⟩),.pointer (some a),.int .u64 150])).run Tryz.prog w= .ok (some (144,a,150)) w:=by kernel_rfl
theorem Tryz.isNil2S (a p:Addr) (W:World) (ha:W.cell? a=some (.pointer (some p))):
  (ReflectliteValue.method (ReflectliteValue.valueError "reflectlite.Value.IsNil" 0) ReflectliteValue.isNil #[.agg #[.pointer (some ⟨28,144,none⟩),.pointer (some a),.int .u64 150]]).run Tryz.prog W= .ok (.bool false) W:=by
 delta ReflectliteValue.method ReflectliteValue.method.match_2
 simp only [List.size_toArray,List.length_cons,List.length_nil,Nat.zero_add,dite_true,Array.getLit,List.getElem_toArray,List.getElem_cons_zero]
 simp only [Sem.run_bind,Tryz.parts2S,Result.andThen]
 simp [ReflectliteValue.isNil,loadVar,isAgg,underlying,Tryz.underlying144,ha,Result.andThen]
theorem Tryz.elem2S (w:World):(ReflectliteType.method ReflectliteType.elem #[.agg #[.pointer (some ⟨28,144,none⟩)]]).run Tryz.prog w= .ok (.iface 201 (.agg #[.pointer (some ⟨28,89,none⟩)])) w:=by kernel_rfl
theorem Tryz.implements1S (w:World):(ReflectliteType.relation "Implements" ReflectliteType.implements_ #[.agg #[.pointer (some ⟨28,89,none⟩)],.iface 201 (.agg #[.pointer (some ⟨28,25,none⟩)])]).run Tryz.prog w= .ok (.bool true) w:=by kernel_rfl
theorem Tryz.valueOf1S (e:Addr) (w:World):(ReflectliteValue.unpack (.iface 89 (.pointer (some e)))).run Tryz.prog w
  = .ok (.agg #[.pointer (some ⟨28,89,none⟩),.pointer (some ⟨w.heap.size,0,none⟩),.int .u64 150]) (w.alloc (.cells #[.pointer (some e)] 89)):=by kernel_rfl
theorem Tryz.elemOf2S (w:World):(Rtype.elem? 144).run Tryz.prog w= .ok (some 89) w:=by kernel_rfl
theorem Tryz.mk1S (p:Addr) (w:World):(ReflectliteValue.mk 89 p ReflectliteValue.flagAddr).run Tryz.prog w= .ok (.agg #[.pointer (some ⟨28,89,none⟩),.pointer (some p),.int .u64 406]) w:=by kernel_rfl
theorem Tryz.elemV2S (a p:Addr) (W:World) (ha:W.cell? a=some (.pointer (some p))):
  (ReflectliteValue.method (ReflectliteValue.valueError "reflectlite.Value.Elem" 0) ReflectliteValue.elem #[.agg #[.pointer (some ⟨28,144,none⟩),.pointer (some a),.int .u64 150]]).run Tryz.prog W
   = .ok (.agg #[.pointer (some ⟨28,89,none⟩),.pointer (some p),.int .u64 406]) W:=by
 delta ReflectliteValue.method ReflectliteValue.method.match_2
 simp only [List.size_toArray,List.length_cons,List.length_nil,Nat.zero_add,dite_true,Array.getLit,List.getElem_toArray,List.getElem_cons_zero]
 simp only [Sem.run_bind,Tryz.parts2S,Result.andThen]
 simp [ReflectliteValue.elem,loadVar,isAgg,underlying,Tryz.underlying144,ha,Result.andThen,Tryz.elemOf2S,Tryz.mk1S]
theorem Tryz.parts1aS (a:Addr) (w:World):(ReflectliteValue.parts (.agg #[.pointer (some ⟨28,89,none⟩),.pointer (some a),.int .u64 406])).run Tryz.prog w= .ok (some (89,a,406)) w:=by kernel_rfl
theorem Tryz.parts1S (a:Addr) (w:World):(ReflectliteValue.parts (.agg #[.pointer (some ⟨28,89,none⟩),.pointer (some a),.int .u64 150])).run Tryz.prog w= .ok (some (89,a,150)) w:=by kernel_rfl
theorem Tryz.direct1S (w:World):(Rtype.directlyAssignable 89 89).run Tryz.prog w= .ok true w:=by kernel_rfl
theorem Tryz.set1S (ta b e:Addr) (old:Value) (W:World) (hb:W.cell? b=some (.pointer (some e))) (ht:W.cell? ta=some old) (hf:W.frozen? ta=false):
  (ReflectliteValue.set #[.agg #[.pointer (some ⟨28,89,none⟩),.pointer (some ta),.int .u64 406],.agg #[.pointer (some ⟨28,89,none⟩),.pointer (some b),.int .u64 150]]).run Tryz.prog W
   = .ok (.tuple #[]) (W.setCell ta (.pointer (some e))):=by
 delta ReflectliteValue.set ReflectliteValue.set.match_3
 simp only [List.size_toArray,List.length_cons,List.length_nil,Nat.zero_add,Nat.reduceAdd,dite_true,Array.getLit,List.getElem_toArray,List.getElem_cons_zero,List.getElem_cons_succ]
 simp only [Sem.run_bind,Tryz.parts1aS,Tryz.parts1S,Result.andThen]
 simp [ReflectliteValue.flagAddr,loadVar,isAgg,underlying,Tryz.underlying89,hb,Result.andThen,Tryz.direct1S,storeVar,Value.cells,storeCells,Addr.add]
 rw [run_store Tryz.prog W ta _ _ (by rfl)]
 simp [ht,hf]
end Go.Proofs.YtacfglopionkfaaGreatDoor
namespace Go.Proofs.YtacfglopionkfaaGreatDoor
set_option maxRecDepth 100000
open Go.RowKit Go.Extern.Stop Go.Stop Go.Extern
def Ru (b:Bool) (w W:World) (r:Value) (f:Option Int) (k:Nat) (v:Value) (wr:World):Prop:=wr=W∧ ∃l,l.length=k∧kJ w l v r∧aO b l=f
def Rw (ty:TypeId) (n:Int) (t:Addr) (wc w:World) (e:Ending) (w':World):Prop:=
 e= .returned (.bool true)∧ ∃k x w1,wc.heap[k]? =some (.cells #[x,.int .i64 n] ty)∧Below w.heap.size w w1∧w'=w1.setCell t (.pointer (some ⟨k,0,none⟩))
def Ky (w:World) (e:Ending) (w':World):Prop:=e= .returned (.bool false)∧Below w.heap.size w w'
theorem lt_of_cell {w:World} {p:Addr} {v:Value} (h:w.cell? p=some v):p.block<w.heap.size:=by
 rcases Nat.lt_or_ge p.block w.heap.size with h1 | h1
 ·exact h1
 ·simp [World.cell?,Array.getElem?_eq_none h1] at h
theorem lt_of_block {w:World} {k:Nat} {o:Obj} (h:w.heap[k]? =some o):k<w.heap.size:=by
 rcases Nat.lt_or_ge k w.heap.size with h1 | h1
 ·exact h1
 ·rw [Array.getElem?_eq_none h1] at h;cases h
set_option maxHeartbeats 4000000 in
theorem Cj (l:List (Bool × Int)) (v:Value) (a t vb:Addr) (old:Value) (wc w:World) (hbc:Below wc.heap.size wc w) (hc:kJ wc l v (bot a))
  (hvb:w.cell? vb=some (.pointer (some t))) (ht:w.cell? t=some old) (hf:w.frozen? t=false):
  Calls Tryz.prog 116 #[v,.iface 143 (.pointer (some t)),.agg #[.pointer (some ⟨28,143,none⟩),.pointer (some vb),.int .u64 150],.iface 201 (.agg #[.pointer (some ⟨28,84,none⟩)])] w
   fun e w'=>(∀n,aO false l=some n→Rw 88 n t wc w e w')∧(aO false l=none→Ky w e w'):=by
 have YT:= @run_callFunc_extern Tryz.prog 149 _ ReflectliteType.typeOf Tryz.func149 (by kernel_rfl) (by kernel_rfl) (by kernel_rfl) (by kernel_rfl)
 have hxA:= @run_callFunc_extern Tryz.prog 249 _ (ReflectliteType.relation "AssignableTo" ReflectliteType.assignableTo) Tryz.func249 (by kernel_rfl) (by kernel_rfl) (by kernel_rfl) (by kernel_rfl)
 have Yz:= @run_callFunc_extern Tryz.prog 151 _ (ReflectliteValue.method (ReflectliteValue.valueError "reflectlite.Value.Elem" 0) ReflectliteValue.elem) Tryz.func151 (by kernel_rfl) (by kernel_rfl) (by kernel_rfl) (by kernel_rfl)
 have Qo:= @run_callFunc_extern Tryz.prog 113 _ (fun args=>ReflectliteValue.unpack (args.getD 0 (.tuple #[]))) Tryz.func113 (by kernel_rfl) (by kernel_rfl) (by kernel_rfl) (by kernel_rfl)
 have hxS:= @run_callFunc_extern Tryz.prog 152 _ ReflectliteValue.set Tryz.func152 (by kernel_rfl) (by kernel_rfl) (by kernel_rfl) (by kernel_rfl)
 have mA:=Tryz.methodAssignableTo
 have tP:=Tryz.typeOfP
 have tS:=Tryz.typeOfS
 have tE:=Tryz.typeOfE
 have aP:=Tryz.assignablePP
 have aS:=Tryz.assignableSP
 have aE:=Tryz.assignableEP
 have nP:=Tryz.noAsP
 have nS:=Tryz.noAsS
 have nE:=Tryz.noAsE
 have uP:=Tryz.hasUnwrapP
 have uS:=Tryz.hasUnwrapS
 have uE:=Tryz.noUnwrapE
 have vE:=Tryz.noUnwrapsE
 have mP:=Tryz.methodUnwrapP
 have mS:=Tryz.methodUnwrapS
 have v1:=Tryz.valueOf1P
 have hvl:=lt_of_cell hvb
 have htl:=lt_of_cell ht
 have Fe:(w.alloc (.cells #[.pointer (some ⟨28,143,none⟩),.pointer (some vb),.int .u64 150] 169)).cell? vb=some (.pointer (some t)):=by rw [World.cell?_alloc_lt _ _ _ hvl];exact hvb
 have ht0:(w.alloc (.cells #[.pointer (some ⟨28,143,none⟩),.pointer (some vb),.int .u64 150] 169)).cell? t=some old:=by rw [World.cell?_alloc_lt _ _ _ htl];exact ht
 have hf0:(w.alloc (.cells #[.pointer (some ⟨28,143,none⟩),.pointer (some vb),.int .u64 150] 169)).frozen? t=false:=by rw [World.frozen?_alloc_old _ _ _ (Nat.ne_of_lt htl)];exact hf
 have el:=Tryz.elemV2P vb t (w.alloc (.cells #[.pointer (some ⟨28,143,none⟩),.pointer (some vb),.int .u64 150] 169)) Fe
 have st:=fun e=>Tryz.set1P t ⟨w.heap.size+1,0,none⟩ e old ((w.alloc (.cells #[.pointer (some ⟨28,143,none⟩),.pointer (some vb),.int .u64 150] 169)).alloc (.cells #[.pointer (some e)] 84))
  (by rw [World.cell?_alloc_at _ _ _ _ (by simp)];rfl)
  (by rw [World.cell?_alloc_lt _ _ t (by simp;omega)];exact ht0)
  (by rw [World.frozen?_alloc_old _ _ t (by simp;omega)];exact hf0)
 have HC:=Lib.hid hc
 have YQ:=Lib.hid hbc
 clear Fe ht0 hf0 hvb ht hf hc hvl htl hbc
 unfold bot at*
 go_enter Tryz.func116,Tryz.ntmps116
 go_wp2
 go_loopg [0] l.length (fun k v wr=>Ru false wc (w.alloc (.cells #[.pointer (some ⟨28,143,none⟩),.pointer (some vb),.int .u64 150] 169)) (.iface 276 (.pointer (some a))) (aO false l) k v wr)
 case atStart=>exact ⟨rfl,l,rfl,HC.out,rfl⟩
 case round=>
  obtain ⟨rfl,l',hl,hc',hfo⟩:=hrel
  cases l' with
  | nil=>
   cases hc'
   have HF:=Lib.hid hfo
   clear hfo hl HC
   go_wp2
   go_ret
   exact ⟨fun n hn=>absurd (HF.out.trans hn) (by simp [aO]),fun _=>⟨rfl,(Below.refl _ _).alloc (Nat.le_refl _) _⟩⟩
  | cons p l''=>
   obtain ⟨pb,n⟩:=p
   obtain ⟨k,x,rfl,hk,hx⟩:=hc'
   obtain ⟨xt,xv,rfl⟩:=hx.held ⟨_,_,rfl⟩
   have hcell:(w.alloc (.cells #[.pointer (some ⟨28,143,none⟩),.pointer (some vb),.int .u64 150] 169)).cell? ⟨k,0,none⟩=some (.iface xt xv):=by
    rw [World.cell?_alloc_lt _ _ _ (lt_of_block (bY YQ.out _ _ hk))];simp [World.cell?,bY YQ.out _ _ hk]
   have HX:=Lib.hid hx
   have HL:=Lib.hid hl
   have HK:=Lib.hid hk
   have HF:=Lib.hid hfo
   clear hx hl hk hfo HC
   cases pb
   ·simp only [cond_false] at*
    go_wp2
    go_ret
    exact ⟨fun m hm=>⟨rfl,k,_,_,(by have h1:=HF.out;rw [hm] at h1;simp [aO] at h1;subst h1;exact HK.out),((Below.refl _ _).alloc (Nat.le_refl _) _).alloc (by simp) _,rfl⟩,fun hn=>absurd (HF.out.trans hn) (by simp [aO])⟩
   ·simp only [cond_true] at*
    go_wp2_with fail
    refine (Fq k _ _ hcell).mono ?_
    rintro e w' ⟨rfl,rfl⟩
    go_wp2
    go_roundg l''.length
    case measure=>have:=HL.out;simp only [List.length_cons] at this;omega
    case rel=>exact ⟨rfl,l'',rfl,HX.out,by have h1:=HF.out;simpa [aO] using h1⟩
set_option maxHeartbeats 4000000 in
theorem Ci (l:List (Bool × Int)) (v:Value) (a t vb:Addr) (old:Value) (wc w:World) (hbc:Below wc.heap.size wc w) (hc:kJ wc l v (bot a))
  (hvb:w.cell? vb=some (.pointer (some t))) (ht:w.cell? t=some old) (hf:w.frozen? t=false):
  Calls Tryz.prog 116 #[v,.iface 144 (.pointer (some t)),.agg #[.pointer (some ⟨28,144,none⟩),.pointer (some vb),.int .u64 150],.iface 201 (.agg #[.pointer (some ⟨28,89,none⟩)])] w
   fun e w'=>(∀n,aO true l=some n→Rw 93 n t wc w e w')∧(aO true l=none→Ky w e w'):=by
 have YT:= @run_callFunc_extern Tryz.prog 149 _ ReflectliteType.typeOf Tryz.func149 (by kernel_rfl) (by kernel_rfl) (by kernel_rfl) (by kernel_rfl)
 have hxA:= @run_callFunc_extern Tryz.prog 249 _ (ReflectliteType.relation "AssignableTo" ReflectliteType.assignableTo) Tryz.func249 (by kernel_rfl) (by kernel_rfl) (by kernel_rfl) (by kernel_rfl)
 have Yz:= @run_callFunc_extern Tryz.prog 151 _ (ReflectliteValue.method (ReflectliteValue.valueError "reflectlite.Value.Elem" 0) ReflectliteValue.elem) Tryz.func151 (by kernel_rfl) (by kernel_rfl) (by kernel_rfl) (by kernel_rfl)
 have Qo:= @run_callFunc_extern Tryz.prog 113 _ (fun args=>ReflectliteValue.unpack (args.getD 0 (.tuple #[]))) Tryz.func113 (by kernel_rfl) (by kernel_rfl) (by kernel_rfl) (by kernel_rfl)
 have hxS:= @run_callFunc_extern Tryz.prog 152 _ ReflectliteValue.set Tryz.func152 (by kernel_rfl) (by kernel_rfl) (by kernel_rfl) (by kernel_rfl)
 have mA:=Tryz.methodAssignableTo
 have tP:=Tryz.typeOfP
 have tS:=Tryz.typeOfS
 have tE:=Tryz.typeOfE
 have aP:=Tryz.assignablePS
 have aS:=Tryz.assignableSS
 have aE:=Tryz.assignableES
 have nP:=Tryz.noAsP
 have nS:=Tryz.noAsS
 have nE:=Tryz.noAsE
 have uP:=Tryz.hasUnwrapP
 have uS:=Tryz.hasUnwrapS
 have uE:=Tryz.noUnwrapE
 have vE:=Tryz.noUnwrapsE
 have mP:=Tryz.methodUnwrapP
 have mS:=Tryz.methodUnwrapS
 have v1:=Tryz.valueOf1S
 have hvl:=lt_of_cell hvb
 have htl:=lt_of_cell ht
 have Fe:(w.alloc (.cells #[.pointer (some ⟨28,144,none⟩),.pointer (some vb),.int .u64 150] 169)).cell? vb=some (.pointer (some t)):=by rw [World.cell?_alloc_lt _ _ _ hvl];exact hvb
 have ht0:(w.alloc (.cells #[.pointer (some ⟨28,144,none⟩),.pointer (some vb),.int .u64 150] 169)).cell? t=some old:=by rw [World.cell?_alloc_lt _ _ _ htl];exact ht
 have hf0:(w.alloc (.cells #[.pointer (some ⟨28,144,none⟩),.pointer (some vb),.int .u64 150] 169)).frozen? t=false:=by rw [World.frozen?_alloc_old _ _ _ (Nat.ne_of_lt htl)];exact hf
 have el:=Tryz.elemV2S vb t (w.alloc (.cells #[.pointer (some ⟨28,144,none⟩),.pointer (some vb),.int .u64 150] 169)) Fe
 have st:=fun e=>Tryz.set1S t ⟨w.heap.size+1,0,none⟩ e old ((w.alloc (.cells #[.pointer (some ⟨28,144,none⟩),.pointer (some vb),.int .u64 150] 169)).alloc (.cells #[.pointer (some e)] 89))
  (by rw [World.cell?_alloc_at _ _ _ _ (by simp)];rfl)
  (by rw [World.cell?_alloc_lt _ _ t (by simp;omega)];exact ht0)
  (by rw [World.frozen?_alloc_old _ _ t (by simp;omega)];exact hf0)
 have HC:=Lib.hid hc
 have YQ:=Lib.hid hbc
 clear Fe ht0 hf0 hvb ht hf hc hvl htl hbc
 unfold bot at*
 go_enter Tryz.func116,Tryz.ntmps116
 go_wp2
 go_loopg [0] l.length (fun k v wr=>Ru true wc (w.alloc (.cells #[.pointer (some ⟨28,144,none⟩),.pointer (some vb),.int .u64 150] 169)) (.iface 276 (.pointer (some a))) (aO true l) k v wr)
 case atStart=>exact ⟨rfl,l,rfl,HC.out,rfl⟩
 case round=>
  obtain ⟨rfl,l',hl,hc',hfo⟩:=hrel
  cases l' with
  | nil=>
   cases hc'
   have HF:=Lib.hid hfo
   clear hfo hl HC
   go_wp2
   go_ret
   exact ⟨fun n hn=>absurd (HF.out.trans hn) (by simp [aO]),fun _=>⟨rfl,(Below.refl _ _).alloc (Nat.le_refl _) _⟩⟩
  | cons p l''=>
   obtain ⟨pb,n⟩:=p
   obtain ⟨k,x,rfl,hk,hx⟩:=hc'
   obtain ⟨xt,xv,rfl⟩:=hx.held ⟨_,_,rfl⟩
   have hcell:(w.alloc (.cells #[.pointer (some ⟨28,144,none⟩),.pointer (some vb),.int .u64 150] 169)).cell? ⟨k,0,none⟩=some (.iface xt xv):=by
    rw [World.cell?_alloc_lt _ _ _ (lt_of_block (bY YQ.out _ _ hk))];simp [World.cell?,bY YQ.out _ _ hk]
   have HX:=Lib.hid hx
   have HL:=Lib.hid hl
   have HK:=Lib.hid hk
   have HF:=Lib.hid hfo
   clear hx hl hk hfo HC
   cases pb
   ·simp only [cond_false] at*
    go_wp2_with fail
    refine (Fv k _ _ hcell).mono ?_
    rintro e w' ⟨rfl,rfl⟩
    go_wp2
    go_roundg l''.length
    case measure=>have:=HL.out;simp only [List.length_cons] at this;omega
    case rel=>exact ⟨rfl,l'',rfl,HX.out,by have h1:=HF.out;simpa [aO] using h1⟩
   ·simp only [cond_true] at*
    go_wp2
    go_ret
    exact ⟨fun m hm=>⟨rfl,k,_,_,(by have h1:=HF.out;rw [hm] at h1;simp [aO] at h1;subst h1;exact HK.out),((Below.refl _ _).alloc (Nat.le_refl _) _).alloc (by simp) _,rfl⟩,fun hn=>absurd (HF.out.trans hn) (by simp [aO])⟩
end Go.Proofs.YtacfglopionkfaaGreatDoor
namespace Go.Proofs.YtacfglopionkfaaGreatDoor
set_option maxRecDepth 100000
open Go.RowKit Go.Extern.Stop Go.Stop Go.Extern
structure o7 (w:World) (s:Nat→Addr):Prop where
 var: ∀k,1≤k→k≤21→w.cell? ⟨k - 1,0,none⟩=some (.iface 276 (.pointer (some (s k))))
 low:21<w.heap.size
 blk: ∀k,1≤k→k≤21→ ∃cs t,w.heap[(s k).block]? =some (.cells cs t (0,0))
 apart: ∀j k,1≤j→j≤21→1≤k→k≤21→s j=s k→j=k
 ety:w.cell? ⟨21,0,none⟩=some (.iface 201 (.agg #[.pointer (some ⟨28,25,none⟩)]))
theorem o7.below {w w':World} {s:Nat→Addr} (h:o7 w s) (hb:Below w.heap.size w w'):o7 w' s where
 var k h1 h2:=by rw [hb.cell (by have:=h.low;simp;omega)];exact h.var k h1 h2
 low:=Nat.lt_of_lt_of_le h.low hb.size
 blk k h1 h2:=by obtain ⟨cs,t,e⟩:=h.blk k h1 h2;exact ⟨cs,t,bY hb _ _ e⟩
 apart:=h.apart
 ety:=by rw [hb.cell (by have:=h.low;simp;omega)];exact h.ety
theorem Below.step {w w1 w2:World} (h:Below w.heap.size w w1) (h':Below w1.heap.size w1 w2):Below w.heap.size w w2:=h.trans (h'.mono h.size)
theorem Qe (l:List (Bool × Int)) (v:Value) (a t vb:Addr) (old:Value) (wc w:World) (hbc:Below wc.heap.size wc w) (hc:kJ wc l v (bot a))
  (hvb:w.cell? vb=some (.pointer (some t))) (ht:w.cell? t=some old) (hf:w.frozen? t=false) (n:Int) (hn:aO false l=some n):
  Calls Tryz.prog 116 #[v,.iface 143 (.pointer (some t)),.agg #[.pointer (some ⟨28,143,none⟩),.pointer (some vb),.int .u64 150],.iface 201 (.agg #[.pointer (some ⟨28,84,none⟩)])] w
   fun e w'=>e= .returned (.bool true)∧ ∃k x w1,wc.heap[k]? =some (.cells #[x,.int .i64 n] 88)∧Below w.heap.size w w1∧w'=w1.setCell t (.pointer (some ⟨k,0,none⟩)):=
 (Cj l v a t vb old wc w hbc hc hvb ht hf).mono fun _ _ h=>h.1 n hn
theorem ML (l:List (Bool × Int)) (v:Value) (a t vb:Addr) (old:Value) (wc w:World) (hbc:Below wc.heap.size wc w) (hc:kJ wc l v (bot a))
  (hvb:w.cell? vb=some (.pointer (some t))) (ht:w.cell? t=some old) (hf:w.frozen? t=false) (hn:aO false l=none):
  Calls Tryz.prog 116 #[v,.iface 143 (.pointer (some t)),.agg #[.pointer (some ⟨28,143,none⟩),.pointer (some vb),.int .u64 150],.iface 201 (.agg #[.pointer (some ⟨28,84,none⟩)])] w
   fun e w'=>e= .returned (.bool false)∧Below w.heap.size w w':=
 (Cj l v a t vb old wc w hbc hc hvb ht hf).mono fun _ _ h=>h.2 hn
theorem Qd (l:List (Bool × Int)) (v:Value) (a t vb:Addr) (old:Value) (wc w:World) (hbc:Below wc.heap.size wc w) (hc:kJ wc l v (bot a))
  (hvb:w.cell? vb=some (.pointer (some t))) (ht:w.cell? t=some old) (hf:w.frozen? t=false) (n:Int) (hn:aO true l=some n):
  Calls Tryz.prog 116 #[v,.iface 144 (.pointer (some t)),.agg #[.pointer (some ⟨28,144,none⟩),.pointer (some vb),.int .u64 150],.iface 201 (.agg #[.pointer (some ⟨28,89,none⟩)])] w
   fun e w'=>e= .returned (.bool true)∧ ∃k x w1,wc.heap[k]? =some (.cells #[x,.int .i64 n] 93)∧Below w.heap.size w w1∧w'=w1.setCell t (.pointer (some ⟨k,0,none⟩)):=
 (Ci l v a t vb old wc w hbc hc hvb ht hf).mono fun _ _ h=>h.1 n hn
theorem MK (l:List (Bool × Int)) (v:Value) (a t vb:Addr) (old:Value) (wc w:World) (hbc:Below wc.heap.size wc w) (hc:kJ wc l v (bot a))
  (hvb:w.cell? vb=some (.pointer (some t))) (ht:w.cell? t=some old) (hf:w.frozen? t=false) (hn:aO true l=none):
  Calls Tryz.prog 116 #[v,.iface 144 (.pointer (some t)),.agg #[.pointer (some ⟨28,144,none⟩),.pointer (some vb),.int .u64 150],.iface 201 (.agg #[.pointer (some ⟨28,89,none⟩)])] w
   fun e w'=>e= .returned (.bool false)∧Below w.heap.size w w':=
 (Ci l v a t vb old wc w hbc hc hvb ht hf).mono fun _ _ h=>h.2 hn
set_option maxHeartbeats 1000000 in
theorem PO (l:List (Bool × Int)) (v:Value) (a b:Addr) (w:World) (hc:kJ w l v (bot a)) (q:Bool)
  (heq:(binOp .eql 25 (.iface 276 (.pointer (some a))) (.iface 276 (.pointer (some b)))).run Tryz.prog w= .ok (.bool q) w):
  Calls Tryz.prog 112 #[v,bot b] w fun e w'=>e= .returned (.bool q)∧w=w':=by
 have YT:= @run_callFunc_extern Tryz.prog 149 _ ReflectliteType.typeOf Tryz.func149 (by kernel_rfl) (by kernel_rfl) (by kernel_rfl) (by kernel_rfl)
 have hxC:= @run_callFunc_extern Tryz.prog 250 _ (Extern.ReflectliteType.method fun t=>do Extern.Rtype.noPackHeld "Comparable" t;pure (.bool (←typeInfo t).comparable)) Tryz.func250 (by kernel_rfl) (by kernel_rfl) (by kernel_rfl) (by kernel_rfl)
 have tT:=Tryz.isTypeOf
 have cT:=Tryz.isComparable
 have mR:=Tryz.isMethodComparable
 have HW:=Lib.hid (PD l v a b q w hc heq)
 obtain ⟨vt,vv,rfl⟩:=hc.held ⟨_,_,rfl⟩
 clear hc heq
 unfold bot at*
 go_enter Tryz.func112,Tryz.ntmps112
 go_wp2_with (go_at_call 150;refine HW.out.mono ?_;rintro e w' ⟨rfl,rfl⟩)
 go_ret
 exact ⟨rfl,rfl⟩
set_option maxHeartbeats 4000000 in
theorem Mc (l:List (Bool × Int)) (v:Value) (a t:Addr) (old:Value) (s:Nat→Addr) (wc w:World) (hbc:Below wc.heap.size wc w) (hs:o7 w s) (hc:kJ wc l v (bot a))
  (ht:w.cell? t=some old) (hf:w.frozen? t=false) (n:Int) (hn:aO false l=some n):
  Calls Tryz.prog 83 #[v,.iface 143 (.pointer (some t))] w
   fun e w'=>e= .returned (.bool true)∧ ∃k x w1,wc.heap[k]? =some (.cells #[x,.int .i64 n] 88)∧Below w.heap.size w w1∧w'=w1.setCell t (.pointer (some ⟨k,0,none⟩)):=by
 have Qo:= @run_callFunc_extern Tryz.prog 113 _ (fun args=>ReflectliteValue.unpack (args.getD 0 (.tuple #[]))) Tryz.func113 (by kernel_rfl) (by kernel_rfl) (by kernel_rfl) (by kernel_rfl)
 have hxT:= @run_callFunc_extern Tryz.prog 114 _ (ReflectliteValue.methodAny (ReflectliteValue.valueError "reflectlite.Value.Type" 0) (fun t _ _ _=>ReflectliteType.toType t)) Tryz.func114 (by kernel_rfl) (by kernel_rfl) (by kernel_rfl) (by kernel_rfl)
 have hxN:= @run_callFunc_extern Tryz.prog 115 _ (ReflectliteValue.method (ReflectliteValue.valueError "reflectlite.Value.IsNil" 0) ReflectliteValue.isNil) Tryz.func115 (by kernel_rfl) (by kernel_rfl) (by kernel_rfl) (by kernel_rfl)
 have hxK:= @run_callFunc_extern Tryz.prog 237 _ (ReflectliteType.abiMethod fun t=>do pure (.int .u8 (←Rtype.kind t))) Tryz.func237 (by kernel_rfl) (by kernel_rfl) (by kernel_rfl) (by kernel_rfl)
 have Yz:= @run_callFunc_extern Tryz.prog 251 _ (ReflectliteType.method ReflectliteType.elem) Tryz.func251 (by kernel_rfl) (by kernel_rfl) (by kernel_rfl) (by kernel_rfl)
 have hxI:= @run_callFunc_extern Tryz.prog 252 _ (ReflectliteType.relation "Implements" ReflectliteType.implements_) Tryz.func252 (by kernel_rfl) (by kernel_rfl) (by kernel_rfl) (by kernel_rfl)
 have f2:=Tryz.valueOf2P
 have ty2:=Tryz.type2P
 have mK:=Tryz.methodKind
 have mE:=Tryz.methodElem
 have mI:=Tryz.methodImplements
 have k2:=Tryz.kind2P
 have k1:=Tryz.kind1P
 have e2:=Tryz.elem2P
 have i1:=Tryz.implements1P
 obtain ⟨vt,vv,rfl⟩:=hc.held ⟨_,_,rfl⟩
 have htl:=lt_of_cell ht
 have hg:((w.alloc (.cells #[.pointer (some t)] 143)).alloc (.cells #[.pointer (some ⟨28,143,none⟩),.pointer (some ⟨w.heap.size,0,none⟩),.int .u64 150] 169)).cell? ⟨21,0,none⟩=some (.iface 201 (.agg #[.pointer (some ⟨28,25,none⟩)])):=
  (hs.below (((Below.refl _ _).alloc (Nat.le_refl _) _).alloc (by simp) _)).ety
 have n8:=Tryz.isNil2P ⟨w.heap.size,0,none⟩ t ((w.alloc (.cells #[.pointer (some t)] 143)).alloc (.cells #[.pointer (some ⟨28,143,none⟩),.pointer (some ⟨w.heap.size,0,none⟩),.int .u64 150] 169)) (by simp)
 have HW:=Lib.hid (Qe l (.iface vt vv) a t ⟨w.heap.size,0,none⟩ old wc ((w.alloc (.cells #[.pointer (some t)] 143)).alloc (.cells #[.pointer (some ⟨28,143,none⟩),.pointer (some ⟨w.heap.size,0,none⟩),.int .u64 150] 169)) ((hbc.alloc hbc.size _).alloc (by have:=hbc.size;simp;omega) _) hc (by simp)
  (by rw [World.cell?_alloc_lt _ _ t (by simp;omega),World.cell?_alloc_lt _ _ t htl];exact ht)
  (by rw [World.frozen?_alloc_old _ _ t (by simp;omega),World.frozen?_alloc_old _ _ t (by omega)];exact hf) n hn)
 have HB:Hid (Below w.heap.size w ((w.alloc (.cells #[.pointer (some t)] 143)).alloc (.cells #[.pointer (some ⟨28,143,none⟩),.pointer (some ⟨w.heap.size,0,none⟩),.int .u64 150] 169))):=((Below.refl _ _).alloc (Nat.le_refl _) _).alloc (by simp) _
 clear hc ht hf hs htl hn hbc
 go_enter Tryz.func83,Tryz.ntmps83
 go_wp2_with (go_at_call 116;refine HW.out.mono ?_;rintro e w' ⟨rfl,k,x,w1,hk,hb,rfl⟩)
 go_ret
 exact ⟨rfl,k,x,w1,hk,Below.step HB.out hb,rfl⟩
set_option maxHeartbeats 4000000 in
theorem Il (l:List (Bool × Int)) (v:Value) (a t:Addr) (old:Value) (s:Nat→Addr) (wc w:World) (hbc:Below wc.heap.size wc w) (hs:o7 w s) (hc:kJ wc l v (bot a))
  (ht:w.cell? t=some old) (hf:w.frozen? t=false) (hn:aO false l=none):
  Calls Tryz.prog 83 #[v,.iface 143 (.pointer (some t))] w
   fun e w'=>e= .returned (.bool false)∧Below w.heap.size w w':=by
 have Qo:= @run_callFunc_extern Tryz.prog 113 _ (fun args=>ReflectliteValue.unpack (args.getD 0 (.tuple #[]))) Tryz.func113 (by kernel_rfl) (by kernel_rfl) (by kernel_rfl) (by kernel_rfl)
 have hxT:= @run_callFunc_extern Tryz.prog 114 _ (ReflectliteValue.methodAny (ReflectliteValue.valueError "reflectlite.Value.Type" 0) (fun t _ _ _=>ReflectliteType.toType t)) Tryz.func114 (by kernel_rfl) (by kernel_rfl) (by kernel_rfl) (by kernel_rfl)
 have hxN:= @run_callFunc_extern Tryz.prog 115 _ (ReflectliteValue.method (ReflectliteValue.valueError "reflectlite.Value.IsNil" 0) ReflectliteValue.isNil) Tryz.func115 (by kernel_rfl) (by kernel_rfl) (by kernel_rfl) (by kernel_rfl)
 have hxK:= @run_callFunc_extern Tryz.prog 237 _ (ReflectliteType.abiMethod fun t=>do pure (.int .u8 (←Rtype.kind t))) Tryz.func237 (by kernel_rfl) (by kernel_rfl) (by kernel_rfl) (by kernel_rfl)
 have Yz:= @run_callFunc_extern Tryz.prog 251 _ (ReflectliteType.method ReflectliteType.elem) Tryz.func251 (by kernel_rfl) (by kernel_rfl) (by kernel_rfl) (by kernel_rfl)
 have hxI:= @run_callFunc_extern Tryz.prog 252 _ (ReflectliteType.relation "Implements" ReflectliteType.implements_) Tryz.func252 (by kernel_rfl) (by kernel_rfl) (by kernel_rfl) (by kernel_rfl)
 have f2:=Tryz.valueOf2P
 have ty2:=Tryz.type2P
 have mK:=Tryz.methodKind
 have mE:=Tryz.methodElem
 have mI:=Tryz.methodImplements
 have k2:=Tryz.kind2P
 have k1:=Tryz.kind1P
 have e2:=Tryz.elem2P
 have i1:=Tryz.implements1P
 obtain ⟨vt,vv,rfl⟩:=hc.held ⟨_,_,rfl⟩
 have htl:=lt_of_cell ht
 have hg:((w.alloc (.cells #[.pointer (some t)] 143)).alloc (.cells #[.pointer (some ⟨28,143,none⟩),.pointer (some ⟨w.heap.size,0,none⟩),.int .u64 150] 169)).cell? ⟨21,0,none⟩=some (.iface 201 (.agg #[.pointer (some ⟨28,25,none⟩)])):=
  (hs.below (((Below.refl _ _).alloc (Nat.le_refl _) _).alloc (by simp) _)).ety
 have n8:=Tryz.isNil2P ⟨w.heap.size,0,none⟩ t ((w.alloc (.cells #[.pointer (some t)] 143)).alloc (.cells #[.pointer (some ⟨28,143,none⟩),.pointer (some ⟨w.heap.size,0,none⟩),.int .u64 150] 169)) (by simp)
 have HW:=Lib.hid (ML l (.iface vt vv) a t ⟨w.heap.size,0,none⟩ old wc ((w.alloc (.cells #[.pointer (some t)] 143)).alloc (.cells #[.pointer (some ⟨28,143,none⟩),.pointer (some ⟨w.heap.size,0,none⟩),.int .u64 150] 169)) ((hbc.alloc hbc.size _).alloc (by have:=hbc.size;simp;omega) _) hc (by simp)
  (by rw [World.cell?_alloc_lt _ _ t (by simp;omega),World.cell?_alloc_lt _ _ t htl];exact ht)
  (by rw [World.frozen?_alloc_old _ _ t (by simp;omega),World.frozen?_alloc_old _ _ t (by omega)];exact hf) hn)
 have HB:Hid (Below w.heap.size w ((w.alloc (.cells #[.pointer (some t)] 143)).alloc (.cells #[.pointer (some ⟨28,143,none⟩),.pointer (some ⟨w.heap.size,0,none⟩),.int .u64 150] 169))):=((Below.refl _ _).alloc (Nat.le_refl _) _).alloc (by simp) _
 clear hc ht hf hs htl hn hbc
 go_enter Tryz.func83,Tryz.ntmps83
 go_wp2_with (go_at_call 116;refine HW.out.mono ?_;rintro e w' ⟨rfl,hb⟩)
 go_ret
 exact ⟨rfl,Below.step HB.out hb⟩
set_option maxHeartbeats 4000000 in
theorem L9 (l:List (Bool × Int)) (v:Value) (a t:Addr) (old:Value) (s:Nat→Addr) (wc w:World) (hbc:Below wc.heap.size wc w) (hs:o7 w s) (hc:kJ wc l v (bot a))
  (ht:w.cell? t=some old) (hf:w.frozen? t=false) (n:Int) (hn:aO true l=some n):
  Calls Tryz.prog 83 #[v,.iface 144 (.pointer (some t))] w
   fun e w'=>e= .returned (.bool true)∧ ∃k x w1,wc.heap[k]? =some (.cells #[x,.int .i64 n] 93)∧Below w.heap.size w w1∧w'=w1.setCell t (.pointer (some ⟨k,0,none⟩)):=by
 have Qo:= @run_callFunc_extern Tryz.prog 113 _ (fun args=>ReflectliteValue.unpack (args.getD 0 (.tuple #[]))) Tryz.func113 (by kernel_rfl) (by kernel_rfl) (by kernel_rfl) (by kernel_rfl)
 have hxT:= @run_callFunc_extern Tryz.prog 114 _ (ReflectliteValue.methodAny (ReflectliteValue.valueError "reflectlite.Value.Type" 0) (fun t _ _ _=>ReflectliteType.toType t)) Tryz.func114 (by kernel_rfl) (by kernel_rfl) (by kernel_rfl) (by kernel_rfl)
 have hxN:= @run_callFunc_extern Tryz.prog 115 _ (ReflectliteValue.method (ReflectliteValue.valueError "reflectlite.Value.IsNil" 0) ReflectliteValue.isNil) Tryz.func115 (by kernel_rfl) (by kernel_rfl) (by kernel_rfl) (by kernel_rfl)
 have hxK:= @run_callFunc_extern Tryz.prog 237 _ (ReflectliteType.abiMethod fun t=>do pure (.int .u8 (←Rtype.kind t))) Tryz.func237 (by kernel_rfl) (by kernel_rfl) (by kernel_rfl) (by kernel_rfl)
 have Yz:= @run_callFunc_extern Tryz.prog 251 _ (ReflectliteType.method ReflectliteType.elem) Tryz.func251 (by kernel_rfl) (by kernel_rfl) (by kernel_rfl) (by kernel_rfl)
 have hxI:= @run_callFunc_extern Tryz.prog 252 _ (ReflectliteType.relation "Implements" ReflectliteType.implements_) Tryz.func252 (by kernel_rfl) (by kernel_rfl) (by kernel_rfl) (by kernel_rfl)
 have f2:=Tryz.valueOf2S
 have ty2:=Tryz.type2S
 have mK:=Tryz.methodKind
 have mE:=Tryz.methodElem
 have mI:=Tryz.methodImplements
 have k2:=Tryz.kind2S
 have k1:=Tryz.kind1S
 have e2:=Tryz.elem2S
 have i1:=Tryz.implements1S
 obtain ⟨vt,vv,rfl⟩:=hc.held ⟨_,_,rfl⟩
 have htl:=lt_of_cell ht
 have hg:((w.alloc (.cells #[.pointer (some t)] 144)).alloc (.cells #[.pointer (some ⟨28,144,none⟩),.pointer (some ⟨w.heap.size,0,none⟩),.int .u64 150] 169)).cell? ⟨21,0,none⟩=some (.iface 201 (.agg #[.pointer (some ⟨28,25,none⟩)])):=
  (hs.below (((Below.refl _ _).alloc (Nat.le_refl _) _).alloc (by simp) _)).ety
 have n8:=Tryz.isNil2S ⟨w.heap.size,0,none⟩ t ((w.alloc (.cells #[.pointer (some t)] 144)).alloc (.cells #[.pointer (some ⟨28,144,none⟩),.pointer (some ⟨w.heap.size,0,none⟩),.int .u64 150] 169)) (by simp)
 have HW:=Lib.hid (Qd l (.iface vt vv) a t ⟨w.heap.size,0,none⟩ old wc ((w.alloc (.cells #[.pointer (some t)] 144)).alloc (.cells #[.pointer (some ⟨28,144,none⟩),.pointer (some ⟨w.heap.size,0,none⟩),.int .u64 150] 169)) ((hbc.alloc hbc.size _).alloc (by have:=hbc.size;simp;omega) _) hc (by simp)
  (by rw [World.cell?_alloc_lt _ _ t (by simp;omega),World.cell?_alloc_lt _ _ t htl];exact ht)
  (by rw [World.frozen?_alloc_old _ _ t (by simp;omega),World.frozen?_alloc_old _ _ t (by omega)];exact hf) n hn)
 have HB:Hid (Below w.heap.size w ((w.alloc (.cells #[.pointer (some t)] 144)).alloc (.cells #[.pointer (some ⟨28,144,none⟩),.pointer (some ⟨w.heap.size,0,none⟩),.int .u64 150] 169))):=((Below.refl _ _).alloc (Nat.le_refl _) _).alloc (by simp) _
 clear hc ht hf hs htl hn hbc
 go_enter Tryz.func83,Tryz.ntmps83
 go_wp2_with (go_at_call 116;refine HW.out.mono ?_;rintro e w' ⟨rfl,k,x,w1,hk,hb,rfl⟩)
 go_ret
 exact ⟨rfl,k,x,w1,hk,Below.step HB.out hb,rfl⟩
set_option maxHeartbeats 4000000 in
theorem Ik (l:List (Bool × Int)) (v:Value) (a t:Addr) (old:Value) (s:Nat→Addr) (wc w:World) (hbc:Below wc.heap.size wc w) (hs:o7 w s) (hc:kJ wc l v (bot a))
  (ht:w.cell? t=some old) (hf:w.frozen? t=false) (hn:aO true l=none):
  Calls Tryz.prog 83 #[v,.iface 144 (.pointer (some t))] w
   fun e w'=>e= .returned (.bool false)∧Below w.heap.size w w':=by
 have Qo:= @run_callFunc_extern Tryz.prog 113 _ (fun args=>ReflectliteValue.unpack (args.getD 0 (.tuple #[]))) Tryz.func113 (by kernel_rfl) (by kernel_rfl) (by kernel_rfl) (by kernel_rfl)
 have hxT:= @run_callFunc_extern Tryz.prog 114 _ (ReflectliteValue.methodAny (ReflectliteValue.valueError "reflectlite.Value.Type" 0) (fun t _ _ _=>ReflectliteType.toType t)) Tryz.func114 (by kernel_rfl) (by kernel_rfl) (by kernel_rfl) (by kernel_rfl)
 have hxN:= @run_callFunc_extern Tryz.prog 115 _ (ReflectliteValue.method (ReflectliteValue.valueError "reflectlite.Value.IsNil" 0) ReflectliteValue.isNil) Tryz.func115 (by kernel_rfl) (by kernel_rfl) (by kernel_rfl) (by kernel_rfl)
 have hxK:= @run_callFunc_extern Tryz.prog 237 _ (ReflectliteType.abiMethod fun t=>do pure (.int .u8 (←Rtype.kind t))) Tryz.func237 (by kernel_rfl) (by kernel_rfl) (by kernel_rfl) (by kernel_rfl)
 have Yz:= @run_callFunc_extern Tryz.prog 251 _ (ReflectliteType.method ReflectliteType.elem) Tryz.func251 (by kernel_rfl) (by kernel_rfl) (by kernel_rfl) (by kernel_rfl)
 have hxI:= @run_callFunc_extern Tryz.prog 252 _ (ReflectliteType.relation "Implements" ReflectliteType.implements_) Tryz.func252 (by kernel_rfl) (by kernel_rfl) (by kernel_rfl) (by kernel_rfl)
 have f2:=Tryz.valueOf2S
 have ty2:=Tryz.type2S
 have mK:=Tryz.methodKind
 have mE:=Tryz.methodElem
 have mI:=Tryz.methodImplements
 have k2:=Tryz.kind2S
 have k1:=Tryz.kind1S
 have e2:=Tryz.elem2S
 have i1:=Tryz.implements1S
 obtain ⟨vt,vv,rfl⟩:=hc.held ⟨_,_,rfl⟩
 have htl:=lt_of_cell ht
 have hg:((w.alloc (.cells #[.pointer (some t)] 144)).alloc (.cells #[.pointer (some ⟨28,144,none⟩),.pointer (some ⟨w.heap.size,0,none⟩),.int .u64 150] 169)).cell? ⟨21,0,none⟩=some (.iface 201 (.agg #[.pointer (some ⟨28,25,none⟩)])):=
  (hs.below (((Below.refl _ _).alloc (Nat.le_refl _) _).alloc (by simp) _)).ety
 have n8:=Tryz.isNil2S ⟨w.heap.size,0,none⟩ t ((w.alloc (.cells #[.pointer (some t)] 144)).alloc (.cells #[.pointer (some ⟨28,144,none⟩),.pointer (some ⟨w.heap.size,0,none⟩),.int .u64 150] 169)) (by simp)
 have HW:=Lib.hid (MK l (.iface vt vv) a t ⟨w.heap.size,0,none⟩ old wc ((w.alloc (.cells #[.pointer (some t)] 144)).alloc (.cells #[.pointer (some ⟨28,144,none⟩),.pointer (some ⟨w.heap.size,0,none⟩),.int .u64 150] 169)) ((hbc.alloc hbc.size _).alloc (by have:=hbc.size;simp;omega) _) hc (by simp)
  (by rw [World.cell?_alloc_lt _ _ t (by simp;omega),World.cell?_alloc_lt _ _ t htl];exact ht)
  (by rw [World.frozen?_alloc_old _ _ t (by simp;omega),World.frozen?_alloc_old _ _ t (by omega)];exact hf) hn)
 have HB:Hid (Below w.heap.size w ((w.alloc (.cells #[.pointer (some t)] 144)).alloc (.cells #[.pointer (some ⟨28,144,none⟩),.pointer (some ⟨w.heap.size,0,none⟩),.int .u64 150] 169))):=((Below.refl _ _).alloc (Nat.le_refl _) _).alloc (by simp) _
 clear hc ht hf hs htl hn hbc
 go_enter Tryz.func83,Tryz.ntmps83
 go_wp2_with (go_at_call 116;refine HW.out.mono ?_;rintro e w' ⟨rfl,hb⟩)
 go_ret
 exact ⟨rfl,Below.step HB.out hb⟩
end Go.Proofs.YtacfglopionkfaaGreatDoor
