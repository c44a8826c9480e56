import Derived.Test.YtnecadgoiolpgaaGreatDoorProg
import Derived.WalkKit
import Derived.LaidEql
import Derived.Stop.Asserts
import Derived.RowKitTokens
import Derived.Deep.LoopGhost
import Derived.Outline
import Derived.Lib.Hide
namespace Go.Proofs.YtnecadgoiolpgaaGreatDoor
open Go.RowKit Go.Extern.Stop Go.Stop Go.Extern
def Chn (w : World) : List (Bool × Int) → Value → Value → Prop
 | [], v, r => v = r
 | (b, n) :: l, v, r => ∃ (k : Nat) (x : Value), v = .iface (bif b then 104 else 107) (.pointer (some ⟨k, 0, none⟩)) ∧ w.heap[k]? = some (.cells #[x, .int .i64 n] (bif b then 106 else 109)) ∧ Chn w l x r
def bot (a : Addr) : Value := .iface 208 (.pointer (some a))
theorem Chn.held {w : World} {l : List (Bool × Int)} {v r : Value} (h : Chn w l v r) (hr : ∃ t x, r = .iface t x) : ∃ t x, v = .iface t x := by
 cases l with
 | nil => cases h; exact hr
 | cons p l => obtain ⟨b, n⟩ := p; obtain ⟨k, x, hv, _, _⟩ := h; exact ⟨_, _, hv⟩
theorem below_blocks {w w' : World} (hb : Below w.heap.size w w') : ∀ (k : Nat) (o : Obj), w.heap[k]? = some o → w'.heap[k]? = some o := by
 intro k o hk
 have hlt : k < w.heap.size := by
  rcases Nat.lt_or_ge k w.heap.size with h | h
  ·exact h
  ·rw [Array.getElem?_eq_none h] at hk; cases hk
 rw [hb.block k hlt]; exact hk
theorem Tryz.noUnwrapE (v : Value) (xT : TypeId) (w : World) : (Instr.typeAssert (.iface 208 v) xT 159 true).run Tryz.prog w = .ok (.tuple #[.nilIface, .bool false]) w := run_typeAssert_lacksB Tryz.underlying159 (by kernel_rfl) (by kernel_rfl) v xT w
theorem Tryz.noUnwrapsE (v : Value) (xT : TypeId) (w : World) : (Instr.typeAssert (.iface 208 v) xT 161 true).run Tryz.prog w = .ok (.tuple #[.nilIface, .bool false]) w := run_typeAssert_lacksB Tryz.underlying161 (by kernel_rfl) (by kernel_rfl) v xT w
theorem Tryz.hasUnwrapP (v : Value) (xT : TypeId) (w : World) : (Instr.typeAssert (.iface 107 v) xT 159 true).run Tryz.prog w = .ok (.tuple #[.iface 107 v, .bool true]) w := run_typeAssert_hasB Tryz.underlying159 (by kernel_rfl) v xT w
theorem Tryz.hasUnwrapS (v : Value) (xT : TypeId) (w : World) : (Instr.typeAssert (.iface 104 v) xT 159 true).run Tryz.prog w = .ok (.tuple #[.iface 104 v, .bool true]) w := run_typeAssert_hasB Tryz.underlying159 (by kernel_rfl) v xT w
theorem Tryz.methodUnwrapP (v : Value) (w : World) : (Go.method 341 107 v "Unwrap").run Tryz.prog w = .ok (143, v) w := by kernel_rfl
theorem Tryz.methodUnwrapS (v : Value) (w : World) : (Go.method 341 104 v "Unwrap").run Tryz.prog w = .ok (141, v) w := by kernel_rfl
theorem unwrapP (k : Nat) (x : Value) (w : World) (h : w.cell? ⟨k, 0, none⟩ = some x) : Calls Tryz.prog 143 #[.pointer (some ⟨k, 0, none⟩)] w fun e w' => e = .returned x ∧ w = w' := by
 go_enter Tryz.func143, Tryz.ntmps143
 go_wp2
 go_ret
 exact ⟨rfl, rfl⟩
theorem unwrapS (k : Nat) (x : Value) (w : World) (h : w.cell? ⟨k, 0, none⟩ = some x) : Calls Tryz.prog 141 #[.pointer (some ⟨k, 0, none⟩)] w fun e w' => e = .returned x ∧ w = w' := by
 go_enter Tryz.func141, Tryz.ntmps141
 go_wp2
 go_ret
 exact ⟨rfl, rfl⟩
end Go.Proofs.YtnecadgoiolpgaaGreatDoor
namespace Go.Proofs.YtnecadgoiolpgaaGreatDoor
open Go.RowKit Go.Extern.Stop Go.Stop Go.Extern
theorem Tryz.methodKind (h : Value) (w : World) : (Go.method 341 151 (.agg #[h]) "Kind").run Tryz.prog w = .ok (135, h) w := by kernel_rfl
theorem Tryz.methodElem (h : Value) (w : World) : (Go.method 341 151 (.agg #[h]) "Elem").run Tryz.prog w = .ok (151, .agg #[h]) w := by kernel_rfl
theorem Tryz.methodImplements (h : Value) (w : World) : (Go.method 341 151 (.agg #[h]) "Implements").run Tryz.prog w = .ok (152, .agg #[h]) w := by kernel_rfl
theorem Tryz.methodAssignableTo (h : Value) (w : World) : (Go.method 341 151 (.agg #[h]) "AssignableTo").run Tryz.prog w = .ok (149, .agg #[h]) w := by kernel_rfl
theorem Tryz.typeOfP (v : Value) (w : World) : (ReflectliteType.typeOf #[.iface 107 v]).run Tryz.prog w = .ok (.iface 151 (.agg #[.pointer (some ⟨22, 107, none⟩)])) w := by kernel_rfl
theorem Tryz.noAsP (v : Value) (xT : TypeId) (w : World) : (Instr.typeAssert (.iface 107 v) xT 156 true).run Tryz.prog w = .ok (.tuple #[.nilIface, .bool false]) w := run_typeAssert_lacksB Tryz.underlying156 (by kernel_rfl) (by kernel_rfl) v xT w
theorem Tryz.typeOfS (v : Value) (w : World) : (ReflectliteType.typeOf #[.iface 104 v]).run Tryz.prog w = .ok (.iface 151 (.agg #[.pointer (some ⟨22, 104, none⟩)])) w := by kernel_rfl
theorem Tryz.noAsS (v : Value) (xT : TypeId) (w : World) : (Instr.typeAssert (.iface 104 v) xT 156 true).run Tryz.prog w = .ok (.tuple #[.nilIface, .bool false]) w := run_typeAssert_lacksB Tryz.underlying156 (by kernel_rfl) (by kernel_rfl) v xT w
theorem Tryz.typeOfE (v : Value) (w : World) : (ReflectliteType.typeOf #[.iface 208 v]).run Tryz.prog w = .ok (.iface 151 (.agg #[.pointer (some ⟨22, 208, none⟩)])) w := by kernel_rfl
theorem Tryz.noAsE (v : Value) (xT : TypeId) (w : World) : (Instr.typeAssert (.iface 208 v) xT 156 true).run Tryz.prog w = .ok (.tuple #[.nilIface, .bool false]) w := run_typeAssert_lacksB Tryz.underlying156 (by kernel_rfl) (by kernel_rfl) v xT w
end Go.Proofs.YtnecadgoiolpgaaGreatDoor
namespace Go.Proofs.YtnecadgoiolpgaaGreatDoor
open Go.RowKit Go.Extern.Stop Go.Stop Go.Extern
def AsMiss (w : World) (e : Ending) (w' : World) : Prop := e = .returned (.bool false) ∧ Below w.heap.size w w'
theorem lt_of_cell {w : World} {p : Addr} {v : Value} (h : w.cell? p = some v) : p.block < w.heap.size := by
 rcases Nat.lt_or_ge p.block w.heap.size with h1 | h1
 ·exact h1
 ·simp [World.cell?, Array.getElem?_eq_none h1] at h
theorem lt_of_block {w : World} {k : Nat} {o : Obj} (h : w.heap[k]? = some o) : k < w.heap.size := by
 rcases Nat.lt_or_ge k w.heap.size with h1 | h1
 ·exact h1
 ·rw [Array.getElem?_eq_none h1] at h; cases h
end Go.Proofs.YtnecadgoiolpgaaGreatDoor
namespace Go.Proofs.YtnecadgoiolpgaaGreatDoor
open Go.RowKit Go.Extern.Stop Go.Stop Go.Extern
structure Snt (w : World) (s : Nat → Addr) : Prop where
 var : ∀ k, 1 ≤ k → k ≤ 21 → w.cell? ⟨k - 1, 0, none⟩ = some (.iface 208 (.pointer (some (s k))))
 low : 21 < w.heap.size
 blk : ∀ k, 1 ≤ k → k ≤ 21 → ∃ cs t, w.heap[(s k).block]? = some (.cells cs t (0, 0))
 apart : ∀ j k, 1 ≤ j → j ≤ 21 → 1 ≤ k → k ≤ 21 → s j = s k → j = k
 ety : w.cell? ⟨21, 0, none⟩ = some (.iface 151 (.agg #[.pointer (some ⟨22, 43, none⟩)]))
theorem Snt.below {w w' : World} {s : Nat → Addr} (h : Snt w s) (hb : Below w.heap.size w w') : Snt w' s where
 var k h1 h2 := by rw [hb.cell (by have := h.low; simp; omega)]; exact h.var k h1 h2
 low := Nat.lt_of_lt_of_le h.low hb.size
 blk k h1 h2 := by obtain ⟨cs, t, e⟩ := h.blk k h1 h2; exact ⟨cs, t, below_blocks hb _ _ e⟩
 apart := h.apart
 ety := by rw [hb.cell (by have := h.low; simp; omega)]; exact h.ety
theorem Below.step {w w1 w2 : World} (h : Below w.heap.size w w1) (h' : Below w1.heap.size w1 w2) : Below w.heap.size w w2 := h.trans (h'.mono h.size)
end Go.Proofs.YtnecadgoiolpgaaGreatDoor
