/- Contracts of errors.Is, errors.As, errors.New, fault.At, fault.In, fault.Of. -/
import Derived.Test.YtndgomocehfmgaaDoorFaAsW
namespace Go.Proofs.YtndgomocehfmgaaDoor
open Go.RowKit Go.Extern.Stop Go.Stop Go.Extern

/-- The sentinels: the variable of code k holds a pointer to s k, no two the same. -/
structure Snt (w : World) (s : Nat → Addr) : Prop where
  var : ∀ k, 1 ≤ k → k ≤ 21 → w.cell? ⟨k - 1, 0, none⟩ = some (.iface 198 (.pointer (some (s k))))
  low : 22 < w.heap.size
  blk : ∀ k, 1 ≤ k → k ≤ 21 → ∃ cs t, w.heap[(s k).block]? = some (.cells cs t (0, 0))
  apart : ∀ j k, 1 ≤ j → j ≤ 21 → 1 ≤ k → k ≤ 21 → s j = s k → j = k
  ety : w.cell? ⟨22, 0, none⟩ = some (.iface 151 (.agg #[.pointer (some ⟨29, 30, none⟩)]))

theorem Snt.below {w w' : World} {s : Nat → Addr} (h : Snt w s) (hb : Below w.heap.size w w') : Snt w' s where
  var k h1 h2 := by rw [hb.cell (by have := h.low; simp; omega)]; exact h.var k h1 h2
  low := Nat.lt_of_lt_of_le h.low hb.size
  blk k h1 h2 := by obtain ⟨cs, t, e⟩ := h.blk k h1 h2; exact ⟨cs, t, below_blocks hb _ _ e⟩
  apart := h.apart
  ety := by rw [hb.cell (by have := h.low; simp; omega)]; exact h.ety

theorem Below.step {w w1 w2 : World} (h : Below w.heap.size w w1) (h' : Below w1.heap.size w1 w2) : Below w.heap.size w w2 := h.trans (h'.mono h.size)

theorem as_hitP (l : List (Bool × Int)) (v : Value) (a t vb : Addr) (old : Value) (wc w : World) (hbc : Below wc.heap.size wc w) (hc : Chn wc l v (bot a))
    (hvb : w.cell? vb = some (.pointer (some t))) (ht : w.cell? t = some old) (hf : w.frozen? t = false) (n : Int) (hn : firstOf false l = some n) :
    Calls Tryd.prog 88 #[v, .iface 117 (.pointer (some t)), .agg #[.pointer (some ⟨29, 117, none⟩), .pointer (some vb), .int .u64 150], .iface 151 (.agg #[.pointer (some ⟨29, 82, none⟩)])] w
      fun e w' => e = .returned (.bool true) ∧ ∃ k x w1, wc.heap[k]? = some (.cells #[x, .int .i64 n] 86) ∧ Below w.heap.size w w1 ∧ w' = w1.setCell t (.pointer (some ⟨k, 0, none⟩)) :=
  (as_walkP l v a t vb old wc w hbc hc hvb ht hf).mono fun _ _ h => h.1 n hn
theorem as_missP (l : List (Bool × Int)) (v : Value) (a t vb : Addr) (old : Value) (wc w : World) (hbc : Below wc.heap.size wc w) (hc : Chn wc l v (bot a))
    (hvb : w.cell? vb = some (.pointer (some t))) (ht : w.cell? t = some old) (hf : w.frozen? t = false) (hn : firstOf false l = none) :
    Calls Tryd.prog 88 #[v, .iface 117 (.pointer (some t)), .agg #[.pointer (some ⟨29, 117, none⟩), .pointer (some vb), .int .u64 150], .iface 151 (.agg #[.pointer (some ⟨29, 82, none⟩)])] w
      fun e w' => e = .returned (.bool false) ∧ Below w.heap.size w w' :=
  (as_walkP l v a t vb old wc w hbc hc hvb ht hf).mono fun _ _ h => h.2 hn
theorem as_hitS (l : List (Bool × Int)) (v : Value) (a t vb : Addr) (old : Value) (wc w : World) (hbc : Below wc.heap.size wc w) (hc : Chn wc l v (bot a))
    (hvb : w.cell? vb = some (.pointer (some t))) (ht : w.cell? t = some old) (hf : w.frozen? t = false) (n : Int) (hn : firstOf true l = some n) :
    Calls Tryd.prog 88 #[v, .iface 118 (.pointer (some t)), .agg #[.pointer (some ⟨29, 118, none⟩), .pointer (some vb), .int .u64 150], .iface 151 (.agg #[.pointer (some ⟨29, 87, none⟩)])] w
      fun e w' => e = .returned (.bool true) ∧ ∃ k x w1, wc.heap[k]? = some (.cells #[x, .int .i64 n] 91) ∧ Below w.heap.size w w1 ∧ w' = w1.setCell t (.pointer (some ⟨k, 0, none⟩)) :=
  (as_walkS l v a t vb old wc w hbc hc hvb ht hf).mono fun _ _ h => h.1 n hn
theorem as_missS (l : List (Bool × Int)) (v : Value) (a t vb : Addr) (old : Value) (wc w : World) (hbc : Below wc.heap.size wc w) (hc : Chn wc l v (bot a))
    (hvb : w.cell? vb = some (.pointer (some t))) (ht : w.cell? t = some old) (hf : w.frozen? t = false) (hn : firstOf true l = none) :
    Calls Tryd.prog 88 #[v, .iface 118 (.pointer (some t)), .agg #[.pointer (some ⟨29, 118, none⟩), .pointer (some vb), .int .u64 150], .iface 151 (.agg #[.pointer (some ⟨29, 87, none⟩)])] w
      fun e w' => e = .returned (.bool false) ∧ Below w.heap.size w w' :=
  (as_walkS l v a t vb old wc w hbc hc hvb ht hf).mono fun _ _ h => h.2 hn

set_option maxRecDepth 100000 in
set_option maxHeartbeats 1000000 in
theorem eis_any (l : List (Bool × Int)) (v : Value) (a b : Addr) (w : World) (hc : Chn w l v (bot a)) (q : Bool)
    (heq : (binOp .eql 30 (.iface 198 (.pointer (some a))) (.iface 198 (.pointer (some b)))).run Tryd.prog w = .ok (.bool q) w) :
    Calls Tryd.prog 84 #[v, bot b] w fun e w' => e = .returned (.bool q) ∧ w = w' := by
  have hx23 := @run_callFunc_extern Tryd.prog 100 _ ReflectliteType.typeOf Tryd.func100 (by kernel_rfl) (by kernel_rfl) (by kernel_rfl) (by kernel_rfl)
  have hxC := @run_callFunc_extern Tryd.prog 155 _ (Extern.ReflectliteType.method fun t => do Extern.Rtype.noPackHeld "Comparable" t; pure (.bool (← typeInfo t).comparable)) Tryd.func155 (by kernel_rfl) (by kernel_rfl) (by kernel_rfl) (by kernel_rfl)
  have tT := Tryd.isTypeOf
  have cT := Tryd.isComparable
  have mR := Tryd.isMethodComparable
  have HW := Lib.hid (is_walk l v a b q w hc heq)
  obtain ⟨vt, vv, rfl⟩ := hc.held ⟨_, _, rfl⟩
  clear hc heq
  unfold bot at *
  go_enter Tryd.func84, Tryd.ntmps84
  go_wp2_with (go_at_call 101; refine HW.out.mono ?_; rintro e w' ⟨rfl, rfl⟩)
  go_ret
  exact ⟨rfl, rfl⟩

theorem eis_nil (b : Addr) (w : World) : Calls Tryd.prog 84 #[.nilIface, bot b] w fun e w' => e = .returned (.bool false) ∧ w = w' := by
  have hn := run_eql_iface_nil_left (P := Tryd.prog) w 198 (.pointer (some b)) Tryd.underlying30
  unfold bot
  go_enter Tryd.func84, Tryd.ntmps84
  go_wp2
  go_ret
  exact ⟨rfl, rfl⟩

theorem eas_nil (t : Value) (w : World) : Calls Tryd.prog 71 #[.nilIface, t] w fun e w' => e = .returned (.bool false) ∧ w = w' := by
  go_enter Tryd.func71, Tryd.ntmps71
  go_wp2
  go_ret
  exact ⟨rfl, rfl⟩

set_option maxRecDepth 100000 in
set_option maxHeartbeats 4000000 in
theorem eas_hitP (l : List (Bool × Int)) (v : Value) (a t : Addr) (old : Value) (s : Nat → Addr) (wc w : World) (hbc : Below wc.heap.size wc w) (hs : Snt w s) (hc : Chn wc l v (bot a))
    (ht : w.cell? t = some old) (hf : w.frozen? t = false) (n : Int) (hn : firstOf false l = some n) :
    Calls Tryd.prog 71 #[v, .iface 117 (.pointer (some t))] w
      fun e w' => e = .returned (.bool true) ∧ ∃ k x w1, wc.heap[k]? = some (.cells #[x, .int .i64 n] 86) ∧ Below w.heap.size w w1 ∧ w' = w1.setCell t (.pointer (some ⟨k, 0, none⟩)) := by
  have hxV := @run_callFunc_extern Tryd.prog 85 _ (fun args => ReflectliteValue.unpack (args.getD 0 (.tuple #[]))) Tryd.func85 (by kernel_rfl) (by kernel_rfl) (by kernel_rfl) (by kernel_rfl)
  have hxT := @run_callFunc_extern Tryd.prog 86 _ (ReflectliteValue.methodAny (ReflectliteValue.valueError "reflectlite.Value.Type" 0) (fun t _ _ _ => ReflectliteType.toType t)) Tryd.func86 (by kernel_rfl) (by kernel_rfl) (by kernel_rfl) (by kernel_rfl)
  have hxN := @run_callFunc_extern Tryd.prog 87 _ (ReflectliteValue.method (ReflectliteValue.valueError "reflectlite.Value.IsNil" 0) ReflectliteValue.isNil) Tryd.func87 (by kernel_rfl) (by kernel_rfl) (by kernel_rfl) (by kernel_rfl)
  have hxK := @run_callFunc_extern Tryd.prog 141 _ (ReflectliteType.abiMethod fun t => do pure (.int .u8 (← Rtype.kind t))) Tryd.func141 (by kernel_rfl) (by kernel_rfl) (by kernel_rfl) (by kernel_rfl)
  have hxE := @run_callFunc_extern Tryd.prog 156 _ (ReflectliteType.method ReflectliteType.elem) Tryd.func156 (by kernel_rfl) (by kernel_rfl) (by kernel_rfl) (by kernel_rfl)
  have hxI := @run_callFunc_extern Tryd.prog 157 _ (ReflectliteType.relation "Implements" ReflectliteType.implements_) Tryd.func157 (by kernel_rfl) (by kernel_rfl) (by kernel_rfl) (by kernel_rfl)
  have f2 := Tryd.valueOf2P
  have ty2 := Tryd.type2P
  have mK := Tryd.methodKind
  have mE := Tryd.methodElem
  have mI := Tryd.methodImplements
  have k2 := Tryd.kind2P
  have k1 := Tryd.kind1P
  have e2 := Tryd.elem2P
  have i1 := Tryd.implements1P
  obtain ⟨vt, vv, rfl⟩ := hc.held ⟨_, _, rfl⟩
  have htl := lt_of_cell ht
  have hg : ((w.alloc (.cells #[.pointer (some t)] 117)).alloc (.cells #[.pointer (some ⟨29, 117, none⟩), .pointer (some ⟨w.heap.size, 0, none⟩), .int .u64 150] 132)).cell? ⟨22, 0, none⟩ = some (.iface 151 (.agg #[.pointer (some ⟨29, 30, none⟩)])) :=
    (hs.below (((Below.refl _ _).alloc (Nat.le_refl _) _).alloc (by simp) _)).ety
  have n8 := Tryd.isNil2P ⟨w.heap.size, 0, none⟩ t ((w.alloc (.cells #[.pointer (some t)] 117)).alloc (.cells #[.pointer (some ⟨29, 117, none⟩), .pointer (some ⟨w.heap.size, 0, none⟩), .int .u64 150] 132)) (by simp)
  have HW := Lib.hid (as_hitP l (.iface vt vv) a t ⟨w.heap.size, 0, none⟩ old wc ((w.alloc (.cells #[.pointer (some t)] 117)).alloc (.cells #[.pointer (some ⟨29, 117, none⟩), .pointer (some ⟨w.heap.size, 0, none⟩), .int .u64 150] 132)) ((hbc.alloc hbc.size _).alloc (by have := hbc.size; simp; omega) _) hc (by simp)
    (by rw [World.cell?_alloc_lt _ _ t (by simp; omega), World.cell?_alloc_lt _ _ t htl]; exact ht)
    (by rw [World.frozen?_alloc_old _ _ t (by simp; omega), World.frozen?_alloc_old _ _ t (by omega)]; exact hf) n hn)
  have HB : Hid (Below w.heap.size w ((w.alloc (.cells #[.pointer (some t)] 117)).alloc (.cells #[.pointer (some ⟨29, 117, none⟩), .pointer (some ⟨w.heap.size, 0, none⟩), .int .u64 150] 132))) := ((Below.refl _ _).alloc (Nat.le_refl _) _).alloc (by simp) _
  clear hc ht hf hs htl hn hbc
  go_enter Tryd.func71, Tryd.ntmps71
  go_wp2_with (go_at_call 88; refine HW.out.mono ?_; rintro e w' ⟨rfl, k, x, w1, hk, hb, rfl⟩)
  go_ret
  exact ⟨rfl, k, x, w1, hk, Below.step HB.out hb, rfl⟩
set_option maxRecDepth 100000 in
set_option maxHeartbeats 4000000 in
theorem eas_missP (l : List (Bool × Int)) (v : Value) (a t : Addr) (old : Value) (s : Nat → Addr) (wc w : World) (hbc : Below wc.heap.size wc w) (hs : Snt w s) (hc : Chn wc l v (bot a))
    (ht : w.cell? t = some old) (hf : w.frozen? t = false) (hn : firstOf false l = none) :
    Calls Tryd.prog 71 #[v, .iface 117 (.pointer (some t))] w
      fun e w' => e = .returned (.bool false) ∧ Below w.heap.size w w' := by
  have hxV := @run_callFunc_extern Tryd.prog 85 _ (fun args => ReflectliteValue.unpack (args.getD 0 (.tuple #[]))) Tryd.func85 (by kernel_rfl) (by kernel_rfl) (by kernel_rfl) (by kernel_rfl)
  have hxT := @run_callFunc_extern Tryd.prog 86 _ (ReflectliteValue.methodAny (ReflectliteValue.valueError "reflectlite.Value.Type" 0) (fun t _ _ _ => ReflectliteType.toType t)) Tryd.func86 (by kernel_rfl) (by kernel_rfl) (by kernel_rfl) (by kernel_rfl)
  have hxN := @run_callFunc_extern Tryd.prog 87 _ (ReflectliteValue.method (ReflectliteValue.valueError "reflectlite.Value.IsNil" 0) ReflectliteValue.isNil) Tryd.func87 (by kernel_rfl) (by kernel_rfl) (by kernel_rfl) (by kernel_rfl)
  have hxK := @run_callFunc_extern Tryd.prog 141 _ (ReflectliteType.abiMethod fun t => do pure (.int .u8 (← Rtype.kind t))) Tryd.func141 (by kernel_rfl) (by kernel_rfl) (by kernel_rfl) (by kernel_rfl)
  have hxE := @run_callFunc_extern Tryd.prog 156 _ (ReflectliteType.method ReflectliteType.elem) Tryd.func156 (by kernel_rfl) (by kernel_rfl) (by kernel_rfl) (by kernel_rfl)
  have hxI := @run_callFunc_extern Tryd.prog 157 _ (ReflectliteType.relation "Implements" ReflectliteType.implements_) Tryd.func157 (by kernel_rfl) (by kernel_rfl) (by kernel_rfl) (by kernel_rfl)
  have f2 := Tryd.valueOf2P
  have ty2 := Tryd.type2P
  have mK := Tryd.methodKind
  have mE := Tryd.methodElem
  have mI := Tryd.methodImplements
  have k2 := Tryd.kind2P
  have k1 := Tryd.kind1P
  have e2 := Tryd.elem2P
  have i1 := Tryd.implements1P
  obtain ⟨vt, vv, rfl⟩ := hc.held ⟨_, _, rfl⟩
  have htl := lt_of_cell ht
  have hg : ((w.alloc (.cells #[.pointer (some t)] 117)).alloc (.cells #[.pointer (some ⟨29, 117, none⟩), .pointer (some ⟨w.heap.size, 0, none⟩), .int .u64 150] 132)).cell? ⟨22, 0, none⟩ = some (.iface 151 (.agg #[.pointer (some ⟨29, 30, none⟩)])) :=
    (hs.below (((Below.refl _ _).alloc (Nat.le_refl _) _).alloc (by simp) _)).ety
  have n8 := Tryd.isNil2P ⟨w.heap.size, 0, none⟩ t ((w.alloc (.cells #[.pointer (some t)] 117)).alloc (.cells #[.pointer (some ⟨29, 117, none⟩), .pointer (some ⟨w.heap.size, 0, none⟩), .int .u64 150] 132)) (by simp)
  have HW := Lib.hid (as_missP l (.iface vt vv) a t ⟨w.heap.size, 0, none⟩ old wc ((w.alloc (.cells #[.pointer (some t)] 117)).alloc (.cells #[.pointer (some ⟨29, 117, none⟩), .pointer (some ⟨w.heap.size, 0, none⟩), .int .u64 150] 132)) ((hbc.alloc hbc.size _).alloc (by have := hbc.size; simp; omega) _) hc (by simp)
    (by rw [World.cell?_alloc_lt _ _ t (by simp; omega), World.cell?_alloc_lt _ _ t htl]; exact ht)
    (by rw [World.frozen?_alloc_old _ _ t (by simp; omega), World.frozen?_alloc_old _ _ t (by omega)]; exact hf) hn)
  have HB : Hid (Below w.heap.size w ((w.alloc (.cells #[.pointer (some t)] 117)).alloc (.cells #[.pointer (some ⟨29, 117, none⟩), .pointer (some ⟨w.heap.size, 0, none⟩), .int .u64 150] 132))) := ((Below.refl _ _).alloc (Nat.le_refl _) _).alloc (by simp) _
  clear hc ht hf hs htl hn hbc
  go_enter Tryd.func71, Tryd.ntmps71
  go_wp2_with (go_at_call 88; refine HW.out.mono ?_; rintro e w' ⟨rfl, hb⟩)
  go_ret
  exact ⟨rfl, Below.step HB.out hb⟩
set_option maxRecDepth 100000 in
set_option maxHeartbeats 4000000 in
theorem eas_hitS (l : List (Bool × Int)) (v : Value) (a t : Addr) (old : Value) (s : Nat → Addr) (wc w : World) (hbc : Below wc.heap.size wc w) (hs : Snt w s) (hc : Chn wc l v (bot a))
    (ht : w.cell? t = some old) (hf : w.frozen? t = false) (n : Int) (hn : firstOf true l = some n) :
    Calls Tryd.prog 71 #[v, .iface 118 (.pointer (some t))] w
      fun e w' => e = .returned (.bool true) ∧ ∃ k x w1, wc.heap[k]? = some (.cells #[x, .int .i64 n] 91) ∧ Below w.heap.size w w1 ∧ w' = w1.setCell t (.pointer (some ⟨k, 0, none⟩)) := by
  have hxV := @run_callFunc_extern Tryd.prog 85 _ (fun args => ReflectliteValue.unpack (args.getD 0 (.tuple #[]))) Tryd.func85 (by kernel_rfl) (by kernel_rfl) (by kernel_rfl) (by kernel_rfl)
  have hxT := @run_callFunc_extern Tryd.prog 86 _ (ReflectliteValue.methodAny (ReflectliteValue.valueError "reflectlite.Value.Type" 0) (fun t _ _ _ => ReflectliteType.toType t)) Tryd.func86 (by kernel_rfl) (by kernel_rfl) (by kernel_rfl) (by kernel_rfl)
  have hxN := @run_callFunc_extern Tryd.prog 87 _ (ReflectliteValue.method (ReflectliteValue.valueError "reflectlite.Value.IsNil" 0) ReflectliteValue.isNil) Tryd.func87 (by kernel_rfl) (by kernel_rfl) (by kernel_rfl) (by kernel_rfl)
  have hxK := @run_callFunc_extern Tryd.prog 141 _ (ReflectliteType.abiMethod fun t => do pure (.int .u8 (← Rtype.kind t))) Tryd.func141 (by kernel_rfl) (by kernel_rfl) (by kernel_rfl) (by kernel_rfl)
  have hxE := @run_callFunc_extern Tryd.prog 156 _ (ReflectliteType.method ReflectliteType.elem) Tryd.func156 (by kernel_rfl) (by kernel_rfl) (by kernel_rfl) (by kernel_rfl)
  have hxI := @run_callFunc_extern Tryd.prog 157 _ (ReflectliteType.relation "Implements" ReflectliteType.implements_) Tryd.func157 (by kernel_rfl) (by kernel_rfl) (by kernel_rfl) (by kernel_rfl)
  have f2 := Tryd.valueOf2S
  have ty2 := Tryd.type2S
  have mK := Tryd.methodKind
  have mE := Tryd.methodElem
  have mI := Tryd.methodImplements
  have k2 := Tryd.kind2S
  have k1 := Tryd.kind1S
  have e2 := Tryd.elem2S
  have i1 := Tryd.implements1S
  obtain ⟨vt, vv, rfl⟩ := hc.held ⟨_, _, rfl⟩
  have htl := lt_of_cell ht
  have hg : ((w.alloc (.cells #[.pointer (some t)] 118)).alloc (.cells #[.pointer (some ⟨29, 118, none⟩), .pointer (some ⟨w.heap.size, 0, none⟩), .int .u64 150] 132)).cell? ⟨22, 0, none⟩ = some (.iface 151 (.agg #[.pointer (some ⟨29, 30, none⟩)])) :=
    (hs.below (((Below.refl _ _).alloc (Nat.le_refl _) _).alloc (by simp) _)).ety
  have n8 := Tryd.isNil2S ⟨w.heap.size, 0, none⟩ t ((w.alloc (.cells #[.pointer (some t)] 118)).alloc (.cells #[.pointer (some ⟨29, 118, none⟩), .pointer (some ⟨w.heap.size, 0, none⟩), .int .u64 150] 132)) (by simp)
  have HW := Lib.hid (as_hitS l (.iface vt vv) a t ⟨w.heap.size, 0, none⟩ old wc ((w.alloc (.cells #[.pointer (some t)] 118)).alloc (.cells #[.pointer (some ⟨29, 118, none⟩), .pointer (some ⟨w.heap.size, 0, none⟩), .int .u64 150] 132)) ((hbc.alloc hbc.size _).alloc (by have := hbc.size; simp; omega) _) hc (by simp)
    (by rw [World.cell?_alloc_lt _ _ t (by simp; omega), World.cell?_alloc_lt _ _ t htl]; exact ht)
    (by rw [World.frozen?_alloc_old _ _ t (by simp; omega), World.frozen?_alloc_old _ _ t (by omega)]; exact hf) n hn)
  have HB : Hid (Below w.heap.size w ((w.alloc (.cells #[.pointer (some t)] 118)).alloc (.cells #[.pointer (some ⟨29, 118, none⟩), .pointer (some ⟨w.heap.size, 0, none⟩), .int .u64 150] 132))) := ((Below.refl _ _).alloc (Nat.le_refl _) _).alloc (by simp) _
  clear hc ht hf hs htl hn hbc
  go_enter Tryd.func71, Tryd.ntmps71
  go_wp2_with (go_at_call 88; refine HW.out.mono ?_; rintro e w' ⟨rfl, k, x, w1, hk, hb, rfl⟩)
  go_ret
  exact ⟨rfl, k, x, w1, hk, Below.step HB.out hb, rfl⟩
set_option maxRecDepth 100000 in
set_option maxHeartbeats 4000000 in
theorem eas_missS (l : List (Bool × Int)) (v : Value) (a t : Addr) (old : Value) (s : Nat → Addr) (wc w : World) (hbc : Below wc.heap.size wc w) (hs : Snt w s) (hc : Chn wc l v (bot a))
    (ht : w.cell? t = some old) (hf : w.frozen? t = false) (hn : firstOf true l = none) :
    Calls Tryd.prog 71 #[v, .iface 118 (.pointer (some t))] w
      fun e w' => e = .returned (.bool false) ∧ Below w.heap.size w w' := by
  have hxV := @run_callFunc_extern Tryd.prog 85 _ (fun args => ReflectliteValue.unpack (args.getD 0 (.tuple #[]))) Tryd.func85 (by kernel_rfl) (by kernel_rfl) (by kernel_rfl) (by kernel_rfl)
  have hxT := @run_callFunc_extern Tryd.prog 86 _ (ReflectliteValue.methodAny (ReflectliteValue.valueError "reflectlite.Value.Type" 0) (fun t _ _ _ => ReflectliteType.toType t)) Tryd.func86 (by kernel_rfl) (by kernel_rfl) (by kernel_rfl) (by kernel_rfl)
  have hxN := @run_callFunc_extern Tryd.prog 87 _ (ReflectliteValue.method (ReflectliteValue.valueError "reflectlite.Value.IsNil" 0) ReflectliteValue.isNil) Tryd.func87 (by kernel_rfl) (by kernel_rfl) (by kernel_rfl) (by kernel_rfl)
  have hxK := @run_callFunc_extern Tryd.prog 141 _ (ReflectliteType.abiMethod fun t => do pure (.int .u8 (← Rtype.kind t))) Tryd.func141 (by kernel_rfl) (by kernel_rfl) (by kernel_rfl) (by kernel_rfl)
  have hxE := @run_callFunc_extern Tryd.prog 156 _ (ReflectliteType.method ReflectliteType.elem) Tryd.func156 (by kernel_rfl) (by kernel_rfl) (by kernel_rfl) (by kernel_rfl)
  have hxI := @run_callFunc_extern Tryd.prog 157 _ (ReflectliteType.relation "Implements" ReflectliteType.implements_) Tryd.func157 (by kernel_rfl) (by kernel_rfl) (by kernel_rfl) (by kernel_rfl)
  have f2 := Tryd.valueOf2S
  have ty2 := Tryd.type2S
  have mK := Tryd.methodKind
  have mE := Tryd.methodElem
  have mI := Tryd.methodImplements
  have k2 := Tryd.kind2S
  have k1 := Tryd.kind1S
  have e2 := Tryd.elem2S
  have i1 := Tryd.implements1S
  obtain ⟨vt, vv, rfl⟩ := hc.held ⟨_, _, rfl⟩
  have htl := lt_of_cell ht
  have hg : ((w.alloc (.cells #[.pointer (some t)] 118)).alloc (.cells #[.pointer (some ⟨29, 118, none⟩), .pointer (some ⟨w.heap.size, 0, none⟩), .int .u64 150] 132)).cell? ⟨22, 0, none⟩ = some (.iface 151 (.agg #[.pointer (some ⟨29, 30, none⟩)])) :=
    (hs.below (((Below.refl _ _).alloc (Nat.le_refl _) _).alloc (by simp) _)).ety
  have n8 := Tryd.isNil2S ⟨w.heap.size, 0, none⟩ t ((w.alloc (.cells #[.pointer (some t)] 118)).alloc (.cells #[.pointer (some ⟨29, 118, none⟩), .pointer (some ⟨w.heap.size, 0, none⟩), .int .u64 150] 132)) (by simp)
  have HW := Lib.hid (as_missS l (.iface vt vv) a t ⟨w.heap.size, 0, none⟩ old wc ((w.alloc (.cells #[.pointer (some t)] 118)).alloc (.cells #[.pointer (some ⟨29, 118, none⟩), .pointer (some ⟨w.heap.size, 0, none⟩), .int .u64 150] 132)) ((hbc.alloc hbc.size _).alloc (by have := hbc.size; simp; omega) _) hc (by simp)
    (by rw [World.cell?_alloc_lt _ _ t (by simp; omega), World.cell?_alloc_lt _ _ t htl]; exact ht)
    (by rw [World.frozen?_alloc_old _ _ t (by simp; omega), World.frozen?_alloc_old _ _ t (by omega)]; exact hf) hn)
  have HB : Hid (Below w.heap.size w ((w.alloc (.cells #[.pointer (some t)] 118)).alloc (.cells #[.pointer (some ⟨29, 118, none⟩), .pointer (some ⟨w.heap.size, 0, none⟩), .int .u64 150] 132))) := ((Below.refl _ _).alloc (Nat.le_refl _) _).alloc (by simp) _
  clear hc ht hf hs htl hn hbc
  go_enter Tryd.func71, Tryd.ntmps71
  go_wp2_with (go_at_call 88; refine HW.out.mono ?_; rintro e w' ⟨rfl, hb⟩)
  go_ret
  exact ⟨rfl, Below.step HB.out hb⟩
end Go.Proofs.YtndgomocehfmgaaDoor
