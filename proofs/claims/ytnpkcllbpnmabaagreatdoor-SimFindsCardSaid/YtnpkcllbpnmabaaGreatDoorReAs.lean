import Derived.Test.YtnpkcllbpnmabaaGreatDoorKFa
namespace Go.Proofs.YtnpkcllbpnmabaaGreatDoor
set_option maxRecDepth 100000
open Go.RowKit Go.Extern.Stop Go.Stop Go.Extern
theorem ety_keep {w w' : World} {v : Value} (h : w.cell? ⟨21, 0, none⟩ = some v) (hb : Below w.heap.size w w') : w'.cell? ⟨21, 0, none⟩ = some v := by
 rw [hb.cell (World.block_lt_of_cell? _ _ h)]
 exact h
theorem Tryz.typeOfR (v : Value) (w : World) : (ReflectliteType.typeOf #[.iface 86 v]).run Tryz.prog w = .ok (.iface 145 (.agg #[.pointer (some ⟨22, 86, none⟩)])) w := by kernel_rfl
theorem Tryz.assignablePR (w : World) : (ReflectliteType.relation "AssignableTo" ReflectliteType.assignableTo #[.agg #[.pointer (some ⟨22, 98, none⟩)], .iface 145 (.agg #[.pointer (some ⟨22, 86, none⟩)])]).run Tryz.prog w = .ok (.bool (98 == 86)) w := by kernel_rfl
theorem Tryz.assignableSR (w : World) : (ReflectliteType.relation "AssignableTo" ReflectliteType.assignableTo #[.agg #[.pointer (some ⟨22, 95, none⟩)], .iface 145 (.agg #[.pointer (some ⟨22, 86, none⟩)])]).run Tryz.prog w = .ok (.bool (95 == 86)) w := by kernel_rfl
theorem Tryz.assignableER (w : World) : (ReflectliteType.relation "AssignableTo" ReflectliteType.assignableTo #[.agg #[.pointer (some ⟨22, 202, none⟩)], .iface 145 (.agg #[.pointer (some ⟨22, 86, none⟩)])]).run Tryz.prog w = .ok (.bool (202 == 86)) w := by kernel_rfl
theorem Tryz.assignableRR (w : World) : (ReflectliteType.relation "AssignableTo" ReflectliteType.assignableTo #[.agg #[.pointer (some ⟨22, 86, none⟩)], .iface 145 (.agg #[.pointer (some ⟨22, 86, none⟩)])]).run Tryz.prog w = .ok (.bool (86 == 86)) w := by kernel_rfl
theorem Tryz.valueOf2R (t : Addr) (w : World) : (ReflectliteValue.unpack (.iface 88 (.pointer (some t)))).run Tryz.prog w
  = .ok (.agg #[.pointer (some ⟨22, 88, none⟩), .pointer (some ⟨w.heap.size, 0, none⟩), .int .u64 150]) (w.alloc (.cells #[.pointer (some t)] 88)) := by kernel_rfl
theorem Tryz.type2R (a : Addr) (w : World) : (ReflectliteValue.methodAny (ReflectliteValue.valueError "reflectlite.Value.Type" 0) (fun t _ _ _ => ReflectliteType.toType t) #[.agg #[.pointer (some ⟨22, 88, none⟩), .pointer (some a), .int .u64 150]]).run Tryz.prog w
  = .ok (.iface 145 (.agg #[.pointer (some ⟨22, 88, none⟩)])) w := by kernel_rfl
theorem Tryz.kind2R (w : World) : ((ReflectliteType.abiMethod fun t => (fun a : Nat => Value.int IntKind.u8 (a : Int)) <$> Rtype.kind t) #[.pointer (some ⟨22, 88, none⟩)]).run Tryz.prog w = .ok (.int .u8 22) w := by kernel_rfl
theorem Tryz.kind1R (w : World) : ((ReflectliteType.abiMethod fun t => (fun a : Nat => Value.int IntKind.u8 (a : Int)) <$> Rtype.kind t) #[.pointer (some ⟨22, 86, none⟩)]).run Tryz.prog w = .ok (.int .u8 22) w := by kernel_rfl
theorem Tryz.parts2R (a : Addr) (w : World) : (ReflectliteValue.parts (.agg #[.pointer (some ⟨22, 88, none⟩), .pointer (some a), .int .u64 150])).run Tryz.prog w = .ok (some (88, a, 150)) w := by kernel_rfl
theorem Tryz.isNil2R (a p : Addr) (W : World) (ha : W.cell? a = some (.pointer (some p))) :
  (ReflectliteValue.method (ReflectliteValue.valueError "reflectlite.Value.IsNil" 0) ReflectliteValue.isNil #[.agg #[.pointer (some ⟨22, 88, none⟩), .pointer (some a), .int .u64 150]]).run Tryz.prog W = .ok (.bool false) W := by
 delta ReflectliteValue.method ReflectliteValue.method.match_2
 simp only [List.size_toArray, List.length_cons, List.length_nil, Nat.zero_add, dite_true, Array.getLit, List.getElem_toArray, List.getElem_cons_zero]
 simp only [Sem.run_bind, Tryz.parts2R, Result.andThen]
 simp [ReflectliteValue.isNil, loadVar, isAgg, underlying, Tryz.underlying88, ha, Result.andThen]
theorem Tryz.elem2R (w : World) : (ReflectliteType.method ReflectliteType.elem #[.agg #[.pointer (some ⟨22, 88, none⟩)]]).run Tryz.prog w = .ok (.iface 145 (.agg #[.pointer (some ⟨22, 86, none⟩)])) w := by kernel_rfl
theorem Tryz.implements1R (w : World) : (ReflectliteType.relation "Implements" ReflectliteType.implements_ #[.agg #[.pointer (some ⟨22, 86, none⟩)], .iface 145 (.agg #[.pointer (some ⟨22, 37, none⟩)])]).run Tryz.prog w = .ok (.bool true) w := by kernel_rfl
theorem Tryz.valueOf1R (e : Addr) (w : World) : (ReflectliteValue.unpack (.iface 86 (.pointer (some e)))).run Tryz.prog w
  = .ok (.agg #[.pointer (some ⟨22, 86, none⟩), .pointer (some ⟨w.heap.size, 0, none⟩), .int .u64 150]) (w.alloc (.cells #[.pointer (some e)] 86)) := by kernel_rfl
theorem Tryz.elemOf2R (w : World) : (Rtype.elem? 88).run Tryz.prog w = .ok (some 86) w := by kernel_rfl
theorem Tryz.mk1R (p : Addr) (w : World) : (ReflectliteValue.mk 86 p ReflectliteValue.flagAddr).run Tryz.prog w = .ok (.agg #[.pointer (some ⟨22, 86, none⟩), .pointer (some p), .int .u64 406]) w := by kernel_rfl
theorem Tryz.elemV2R (a p : Addr) (W : World) (ha : W.cell? a = some (.pointer (some p))) :
  (ReflectliteValue.method (ReflectliteValue.valueError "reflectlite.Value.Elem" 0) ReflectliteValue.elem #[.agg #[.pointer (some ⟨22, 88, none⟩), .pointer (some a), .int .u64 150]]).run Tryz.prog W
   = .ok (.agg #[.pointer (some ⟨22, 86, none⟩), .pointer (some p), .int .u64 406]) W := by
 delta ReflectliteValue.method ReflectliteValue.method.match_2
 simp only [List.size_toArray, List.length_cons, List.length_nil, Nat.zero_add, dite_true, Array.getLit, List.getElem_toArray, List.getElem_cons_zero]
 simp only [Sem.run_bind, Tryz.parts2R, Result.andThen]
 simp [ReflectliteValue.elem, loadVar, isAgg, underlying, Tryz.underlying88, ha, Result.andThen, Tryz.elemOf2R, Tryz.mk1R]
theorem Tryz.parts1aR (a : Addr) (w : World) : (ReflectliteValue.parts (.agg #[.pointer (some ⟨22, 86, none⟩), .pointer (some a), .int .u64 406])).run Tryz.prog w = .ok (some (86, a, 406)) w := by kernel_rfl
theorem Tryz.parts1R (a : Addr) (w : World) : (ReflectliteValue.parts (.agg #[.pointer (some ⟨22, 86, none⟩), .pointer (some a), .int .u64 150])).run Tryz.prog w = .ok (some (86, a, 150)) w := by kernel_rfl
theorem Tryz.direct1R (w : World) : (Rtype.directlyAssignable 86 86).run Tryz.prog w = .ok true w := by kernel_rfl
theorem Tryz.set1R (ta b e : Addr) (old : Value) (W : World) (hb : W.cell? b = some (.pointer (some e))) (ht : W.cell? ta = some old) (hf : W.frozen? ta = false) :
  (ReflectliteValue.set #[.agg #[.pointer (some ⟨22, 86, none⟩), .pointer (some ta), .int .u64 406], .agg #[.pointer (some ⟨22, 86, none⟩), .pointer (some b), .int .u64 150]]).run Tryz.prog W
   = .ok (.tuple #[]) (W.setCell ta (.pointer (some e))) := by
 delta ReflectliteValue.set ReflectliteValue.set.match_3
 simp only [List.size_toArray, List.length_cons, List.length_nil, Nat.zero_add, Nat.reduceAdd, dite_true, Array.getLit, List.getElem_toArray, List.getElem_cons_zero, List.getElem_cons_succ]
 simp only [Sem.run_bind, Tryz.parts1aR, Tryz.parts1R, Result.andThen]
 simp [ReflectliteValue.flagAddr, loadVar, isAgg, underlying, Tryz.underlying86, hb, Result.andThen, Tryz.direct1R, storeVar, Value.cells, storeCells, Addr.add]
 rw [run_store Tryz.prog W ta _ _ (by rfl)]
 simp [ht, hf]
def RasRel (w W : World) (r : Value) (k : Nat) (v : Value) (wr : World) : Prop := wr = W ∧ ∃ l, l.length = k ∧ Chn w l v r
set_option maxHeartbeats 4000000 in
theorem as_missR (l : List (Bool × Int)) (v : Value) (a t vb : Addr) (old : Value) (wc w : World) (hbc : Below wc.heap.size wc w) (hc : Chn wc l v (bot a))
  (hvb : w.cell? vb = some (.pointer (some t))) (ht : w.cell? t = some old) (hf : w.frozen? t = false) :
  Calls Tryz.prog 48 #[v, .iface 88 (.pointer (some t)), .agg #[.pointer (some ⟨22, 88, none⟩), .pointer (some vb), .int .u64 150], .iface 145 (.agg #[.pointer (some ⟨22, 86, none⟩)])] w
   fun e w' => AsMiss w e w' := by
 have hx23 := @run_callFunc_extern Tryz.prog 68 _ ReflectliteType.typeOf Tryz.func68 (by kernel_rfl) (by kernel_rfl) (by kernel_rfl) (by kernel_rfl)
 have hxA := @run_callFunc_extern Tryz.prog 140 _ (ReflectliteType.relation "AssignableTo" ReflectliteType.assignableTo) Tryz.func140 (by kernel_rfl) (by kernel_rfl) (by kernel_rfl) (by kernel_rfl)
 have mA := Tryz.methodAssignableTo
 have tP := Tryz.typeOfP
 have tS := Tryz.typeOfS
 have tE := Tryz.typeOfE
 have aP := Tryz.assignablePR
 have aS := Tryz.assignableSR
 have aE := Tryz.assignableER
 have nP := Tryz.noAsP
 have nS := Tryz.noAsS
 have nE := Tryz.noAsE
 have uP := Tryz.hasUnwrapP
 have uS := Tryz.hasUnwrapS
 have uE := Tryz.noUnwrapE
 have vE := Tryz.noUnwrapsE
 have mP := Tryz.methodUnwrapP
 have mS := Tryz.methodUnwrapS
 have hvl := lt_of_cell hvb
 have htl := lt_of_cell ht
 have hvb0 : (w.alloc (.cells #[.pointer (some ⟨22, 88, none⟩), .pointer (some vb), .int .u64 150] 118)).cell? vb = some (.pointer (some t)) := by rw [World.cell?_alloc_lt _ _ _ hvl]; exact hvb
 have ht0 : (w.alloc (.cells #[.pointer (some ⟨22, 88, none⟩), .pointer (some vb), .int .u64 150] 118)).cell? t = some old := by rw [World.cell?_alloc_lt _ _ _ htl]; exact ht
 have hf0 : (w.alloc (.cells #[.pointer (some ⟨22, 88, none⟩), .pointer (some vb), .int .u64 150] 118)).frozen? t = false := by rw [World.frozen?_alloc_old _ _ _ (Nat.ne_of_lt htl)]; exact hf
 have HC := Lib.hid hc
 have HBC := Lib.hid hbc
 clear hvb0 ht0 hf0 hvb ht hf hc hvl htl hbc
 unfold bot at *
 go_enter Tryz.func48, Tryz.ntmps48
 go_wp2
 go_loopg [0] l.length (fun k v wr => RasRel wc (w.alloc (.cells #[.pointer (some ⟨22, 88, none⟩), .pointer (some vb), .int .u64 150] 118)) (.iface 202 (.pointer (some a))) k v wr)
 case atStart => exact ⟨rfl, l, rfl, HC.out⟩
 case round =>
  obtain ⟨rfl, l', hl, hc'⟩ := hrel
  cases l' with
  | nil =>
   cases hc'
   clear hl HC
   go_wp2
   go_ret
   exact ⟨rfl, (Below.refl _ _).alloc (Nat.le_refl _) _⟩
  | cons p l'' =>
   obtain ⟨pb, n⟩ := p
   obtain ⟨k, x, rfl, hk, hx⟩ := hc'
   obtain ⟨xt, xv, rfl⟩ := hx.held ⟨_, _, rfl⟩
   have hcell : (w.alloc (.cells #[.pointer (some ⟨22, 88, none⟩), .pointer (some vb), .int .u64 150] 118)).cell? ⟨k, 0, none⟩ = some (.iface xt xv) := by
    rw [World.cell?_alloc_lt _ _ _ (lt_of_block (below_blocks HBC.out _ _ hk))]; simp [World.cell?, below_blocks HBC.out _ _ hk]
   have HX := Lib.hid hx
   have HL := Lib.hid hl
   clear hx hl hk HC
   cases pb
   ·simp only [cond_false] at *
    go_wp2_with fail
    refine (unwrapP k _ _ hcell).mono ?_
    rintro e w' ⟨rfl, rfl⟩
    go_wp2
    go_roundg l''.length
    case measure => have := HL.out; simp only [List.length_cons] at this; omega
    case rel => exact ⟨rfl, l'', rfl, HX.out⟩
   ·simp only [cond_true] at *
    go_wp2_with fail
    refine (unwrapS k _ _ hcell).mono ?_
    rintro e w' ⟨rfl, rfl⟩
    go_wp2
    go_roundg l''.length
    case measure => have := HL.out; simp only [List.length_cons] at this; omega
    case rel => exact ⟨rfl, l'', rfl, HX.out⟩
def RasHit (k : Nat) (t : Addr) (w : World) (e : Ending) (w' : World) : Prop := e = .returned (.bool true) ∧ ∃ w1, Below w.heap.size w w1 ∧ w' = w1.setCell t (.pointer (some ⟨k, 0, none⟩))
set_option maxHeartbeats 4000000 in
theorem as_hitR (k : Nat) (t vb : Addr) (old : Value) (w : World)
  (hvb : w.cell? vb = some (.pointer (some t))) (ht : w.cell? t = some old) (hf : w.frozen? t = false) :
  Calls Tryz.prog 48 #[.iface 86 (.pointer (some ⟨k, 0, none⟩)), .iface 88 (.pointer (some t)), .agg #[.pointer (some ⟨22, 88, none⟩), .pointer (some vb), .int .u64 150], .iface 145 (.agg #[.pointer (some ⟨22, 86, none⟩)])] w
   fun e w' => RasHit k t w e w' := by
 have hx23 := @run_callFunc_extern Tryz.prog 68 _ ReflectliteType.typeOf Tryz.func68 (by kernel_rfl) (by kernel_rfl) (by kernel_rfl) (by kernel_rfl)
 have hxA := @run_callFunc_extern Tryz.prog 140 _ (ReflectliteType.relation "AssignableTo" ReflectliteType.assignableTo) Tryz.func140 (by kernel_rfl) (by kernel_rfl) (by kernel_rfl) (by kernel_rfl)
 have hxE := @run_callFunc_extern Tryz.prog 69 _ (ReflectliteValue.method (ReflectliteValue.valueError "reflectlite.Value.Elem" 0) ReflectliteValue.elem) Tryz.func69 (by kernel_rfl) (by kernel_rfl) (by kernel_rfl) (by kernel_rfl)
 have hxV := @run_callFunc_extern Tryz.prog 45 _ (fun args => ReflectliteValue.unpack (args.getD 0 (.tuple #[]))) Tryz.func45 (by kernel_rfl) (by kernel_rfl) (by kernel_rfl) (by kernel_rfl)
 have hxS := @run_callFunc_extern Tryz.prog 70 _ ReflectliteValue.set Tryz.func70 (by kernel_rfl) (by kernel_rfl) (by kernel_rfl) (by kernel_rfl)
 have mA := Tryz.methodAssignableTo
 have tR := Tryz.typeOfR
 have aR := Tryz.assignableRR
 have v1 := Tryz.valueOf1R
 have hvl := lt_of_cell hvb
 have htl := lt_of_cell ht
 have hvb0 : (w.alloc (.cells #[.pointer (some ⟨22, 88, none⟩), .pointer (some vb), .int .u64 150] 118)).cell? vb = some (.pointer (some t)) := by rw [World.cell?_alloc_lt _ _ _ hvl]; exact hvb
 have ht0 : (w.alloc (.cells #[.pointer (some ⟨22, 88, none⟩), .pointer (some vb), .int .u64 150] 118)).cell? t = some old := by rw [World.cell?_alloc_lt _ _ _ htl]; exact ht
 have hf0 : (w.alloc (.cells #[.pointer (some ⟨22, 88, none⟩), .pointer (some vb), .int .u64 150] 118)).frozen? t = false := by rw [World.frozen?_alloc_old _ _ _ (Nat.ne_of_lt htl)]; exact hf
 have el := Tryz.elemV2R vb t (w.alloc (.cells #[.pointer (some ⟨22, 88, none⟩), .pointer (some vb), .int .u64 150] 118)) hvb0
 have st := fun e => Tryz.set1R t ⟨w.heap.size + 1, 0, none⟩ e old ((w.alloc (.cells #[.pointer (some ⟨22, 88, none⟩), .pointer (some vb), .int .u64 150] 118)).alloc (.cells #[.pointer (some e)] 86))
  (by rw [World.cell?_alloc_at _ _ _ _ (by simp)]; rfl)
  (by rw [World.cell?_alloc_lt _ _ t (by simp; omega)]; exact ht0)
  (by rw [World.frozen?_alloc_old _ _ t (by simp; omega)]; exact hf0)
 clear hvb0 ht0 hf0 hvb ht hf hvl htl
 go_enter Tryz.func48, Tryz.ntmps48
 go_wp2
 refine wp_loop_rounds 1 ?_
 rw [rounds_succ]
 go_wp2
 go_ret
 exact ⟨rfl, _, ((Below.refl _ _).alloc (Nat.le_refl _) _).alloc (by simp) _, rfl⟩
set_option maxHeartbeats 4000000 in
theorem eas_missR (l : List (Bool × Int)) (v : Value) (a t : Addr) (old : Value) (wc w : World) (hbc : Below wc.heap.size wc w) (hs : w.cell? ⟨21, 0, none⟩ = some (.iface 145 (.agg #[.pointer (some ⟨22, 37, none⟩)]))) (hc : Chn wc l v (bot a))
  (ht : w.cell? t = some old) (hf : w.frozen? t = false)  :
  Calls Tryz.prog 32 #[v, .iface 88 (.pointer (some t))] w
   fun e w' => e = .returned (.bool false) ∧ Below w.heap.size w w' := by
 have hxV := @run_callFunc_extern Tryz.prog 45 _ (fun args => ReflectliteValue.unpack (args.getD 0 (.tuple #[]))) Tryz.func45 (by kernel_rfl) (by kernel_rfl) (by kernel_rfl) (by kernel_rfl)
 have hxT := @run_callFunc_extern Tryz.prog 46 _ (ReflectliteValue.methodAny (ReflectliteValue.valueError "reflectlite.Value.Type" 0) (fun t _ _ _ => ReflectliteType.toType t)) Tryz.func46 (by kernel_rfl) (by kernel_rfl) (by kernel_rfl) (by kernel_rfl)
 have hxN := @run_callFunc_extern Tryz.prog 47 _ (ReflectliteValue.method (ReflectliteValue.valueError "reflectlite.Value.IsNil" 0) ReflectliteValue.isNil) Tryz.func47 (by kernel_rfl) (by kernel_rfl) (by kernel_rfl) (by kernel_rfl)
 have hxK := @run_callFunc_extern Tryz.prog 125 _ (ReflectliteType.abiMethod fun t => do pure (.int .u8 (← Rtype.kind t))) Tryz.func125 (by kernel_rfl) (by kernel_rfl) (by kernel_rfl) (by kernel_rfl)
 have hxE := @run_callFunc_extern Tryz.prog 142 _ (ReflectliteType.method ReflectliteType.elem) Tryz.func142 (by kernel_rfl) (by kernel_rfl) (by kernel_rfl) (by kernel_rfl)
 have hxI := @run_callFunc_extern Tryz.prog 143 _ (ReflectliteType.relation "Implements" ReflectliteType.implements_) Tryz.func143 (by kernel_rfl) (by kernel_rfl) (by kernel_rfl) (by kernel_rfl)
 have f2 := Tryz.valueOf2R
 have ty2 := Tryz.type2R
 have mK := Tryz.methodKind
 have mE := Tryz.methodElem
 have mI := Tryz.methodImplements
 have k2 := Tryz.kind2R
 have k1 := Tryz.kind1R
 have e2 := Tryz.elem2R
 have i1 := Tryz.implements1R
 obtain ⟨vt, vv, rfl⟩ := hc.held ⟨_, _, rfl⟩
 have htl := lt_of_cell ht
 have hg : ((w.alloc (.cells #[.pointer (some t)] 88)).alloc (.cells #[.pointer (some ⟨22, 88, none⟩), .pointer (some ⟨w.heap.size, 0, none⟩), .int .u64 150] 118)).cell? ⟨21, 0, none⟩ = some (.iface 145 (.agg #[.pointer (some ⟨22, 37, none⟩)])) :=
  ety_keep hs (((Below.refl _ _).alloc (Nat.le_refl _) _).alloc (by simp) _)
 have n8 := Tryz.isNil2R ⟨w.heap.size, 0, none⟩ t ((w.alloc (.cells #[.pointer (some t)] 88)).alloc (.cells #[.pointer (some ⟨22, 88, none⟩), .pointer (some ⟨w.heap.size, 0, none⟩), .int .u64 150] 118)) (by simp)
 have HW := Lib.hid (as_missR l (.iface vt vv) a t ⟨w.heap.size, 0, none⟩ old wc ((w.alloc (.cells #[.pointer (some t)] 88)).alloc (.cells #[.pointer (some ⟨22, 88, none⟩), .pointer (some ⟨w.heap.size, 0, none⟩), .int .u64 150] 118)) ((hbc.alloc hbc.size _).alloc (by have := hbc.size; simp; omega) _) hc (by simp)
  (by rw [World.cell?_alloc_lt _ _ t (by simp; omega), World.cell?_alloc_lt _ _ t htl]; exact ht)
  (by rw [World.frozen?_alloc_old _ _ t (by simp; omega), World.frozen?_alloc_old _ _ t (by omega)]; exact hf))
 have HB : Hid (Below w.heap.size w ((w.alloc (.cells #[.pointer (some t)] 88)).alloc (.cells #[.pointer (some ⟨22, 88, none⟩), .pointer (some ⟨w.heap.size, 0, none⟩), .int .u64 150] 118))) := ((Below.refl _ _).alloc (Nat.le_refl _) _).alloc (by simp) _
 clear hc ht hf hs htl hbc
 go_enter Tryz.func32, Tryz.ntmps32
 go_wp2_with (go_at_call 48; refine HW.out.mono ?_; rintro e w' ⟨rfl, hb⟩)
 go_ret
 exact ⟨rfl, Below.step HB.out hb⟩
set_option maxHeartbeats 4000000 in
theorem eas_hitR (k : Nat) (t : Addr) (old : Value) (w : World) (hs : w.cell? ⟨21, 0, none⟩ = some (.iface 145 (.agg #[.pointer (some ⟨22, 37, none⟩)])))
  (ht : w.cell? t = some old) (hf : w.frozen? t = false)  :
  Calls Tryz.prog 32 #[.iface 86 (.pointer (some ⟨k, 0, none⟩)), .iface 88 (.pointer (some t))] w
   fun e w' => RasHit k t w e w' := by
 have hxV := @run_callFunc_extern Tryz.prog 45 _ (fun args => ReflectliteValue.unpack (args.getD 0 (.tuple #[]))) Tryz.func45 (by kernel_rfl) (by kernel_rfl) (by kernel_rfl) (by kernel_rfl)
 have hxT := @run_callFunc_extern Tryz.prog 46 _ (ReflectliteValue.methodAny (ReflectliteValue.valueError "reflectlite.Value.Type" 0) (fun t _ _ _ => ReflectliteType.toType t)) Tryz.func46 (by kernel_rfl) (by kernel_rfl) (by kernel_rfl) (by kernel_rfl)
 have hxN := @run_callFunc_extern Tryz.prog 47 _ (ReflectliteValue.method (ReflectliteValue.valueError "reflectlite.Value.IsNil" 0) ReflectliteValue.isNil) Tryz.func47 (by kernel_rfl) (by kernel_rfl) (by kernel_rfl) (by kernel_rfl)
 have hxK := @run_callFunc_extern Tryz.prog 125 _ (ReflectliteType.abiMethod fun t => do pure (.int .u8 (← Rtype.kind t))) Tryz.func125 (by kernel_rfl) (by kernel_rfl) (by kernel_rfl) (by kernel_rfl)
 have hxE := @run_callFunc_extern Tryz.prog 142 _ (ReflectliteType.method ReflectliteType.elem) Tryz.func142 (by kernel_rfl) (by kernel_rfl) (by kernel_rfl) (by kernel_rfl)
 have hxI := @run_callFunc_extern Tryz.prog 143 _ (ReflectliteType.relation "Implements" ReflectliteType.implements_) Tryz.func143 (by kernel_rfl) (by kernel_rfl) (by kernel_rfl) (by kernel_rfl)
 have f2 := Tryz.valueOf2R
 have ty2 := Tryz.type2R
 have mK := Tryz.methodKind
 have mE := Tryz.methodElem
 have mI := Tryz.methodImplements
 have k2 := Tryz.kind2R
 have k1 := Tryz.kind1R
 have e2 := Tryz.elem2R
 have i1 := Tryz.implements1R
 have htl := lt_of_cell ht
 have hg : ((w.alloc (.cells #[.pointer (some t)] 88)).alloc (.cells #[.pointer (some ⟨22, 88, none⟩), .pointer (some ⟨w.heap.size, 0, none⟩), .int .u64 150] 118)).cell? ⟨21, 0, none⟩ = some (.iface 145 (.agg #[.pointer (some ⟨22, 37, none⟩)])) :=
  ety_keep hs (((Below.refl _ _).alloc (Nat.le_refl _) _).alloc (by simp) _)
 have n8 := Tryz.isNil2R ⟨w.heap.size, 0, none⟩ t ((w.alloc (.cells #[.pointer (some t)] 88)).alloc (.cells #[.pointer (some ⟨22, 88, none⟩), .pointer (some ⟨w.heap.size, 0, none⟩), .int .u64 150] 118)) (by simp)
 have HW := Lib.hid (as_hitR k t ⟨w.heap.size, 0, none⟩ old ((w.alloc (.cells #[.pointer (some t)] 88)).alloc (.cells #[.pointer (some ⟨22, 88, none⟩), .pointer (some ⟨w.heap.size, 0, none⟩), .int .u64 150] 118)) (by simp)
  (by rw [World.cell?_alloc_lt _ _ t (by simp; omega), World.cell?_alloc_lt _ _ t htl]; exact ht)
  (by rw [World.frozen?_alloc_old _ _ t (by simp; omega), World.frozen?_alloc_old _ _ t (by omega)]; exact hf))
 have HB : Hid (Below w.heap.size w ((w.alloc (.cells #[.pointer (some t)] 88)).alloc (.cells #[.pointer (some ⟨22, 88, none⟩), .pointer (some ⟨w.heap.size, 0, none⟩), .int .u64 150] 118))) := ((Below.refl _ _).alloc (Nat.le_refl _) _).alloc (by simp) _
 clear ht hf hs htl
 go_enter Tryz.func32, Tryz.ntmps32
 go_wp2_with (go_at_call 48; refine HW.out.mono ?_; rintro e w' ⟨rfl, w1, hb, rfl⟩)
 go_ret
 exact ⟨rfl, w1, Below.step HB.out hb, rfl⟩
end Go.Proofs.YtnpkcllbpnmabaaGreatDoor
