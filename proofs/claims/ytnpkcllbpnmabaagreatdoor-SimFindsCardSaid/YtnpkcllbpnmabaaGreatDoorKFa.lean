import Derived.Test.YtnpkcllbpnmabaaGreatDoorProg
import Derived.WalkKit
import Derived.LaidEql
import Derived.Stop.Asserts
import Derived.RowKitTokens
import Derived.Deep.LoopGhost
import Derived.Outline
import Derived.Lib.Hide
namespace Go.Proofs.YtnpkcllbpnmabaaGreatDoor
open Go.RowKit Go.Extern.Stop Go.Stop Go.Extern
def Chn (w : World) : List (Bool × Int) → Value → Value → Prop
 | [], v, r => v = r
 | (b, n) :: l, v, r => ∃ (k : Nat) (x : Value), v = .iface (bif b then 95 else 98) (.pointer (some ⟨k, 0, none⟩)) ∧ w.heap[k]? = some (.cells #[x, .int .i64 n] (bif b then 97 else 100)) ∧ Chn w l x r
def bot (a : Addr) : Value := .iface 202 (.pointer (some a))
theorem Chn.held {w : World} {l : List (Bool × Int)} {v r : Value} (h : Chn w l v r) (hr : ∃ t x, r = .iface t x) : ∃ t x, v = .iface t x := by
 cases l with
 | nil => cases h; exact hr
 | cons p l => obtain ⟨b, n⟩ := p; obtain ⟨k, x, hv, _, _⟩ := h; exact ⟨_, _, hv⟩
theorem below_blocks {w w' : World} (hb : Below w.heap.size w w') : ∀ (k : Nat) (o : Obj), w.heap[k]? = some o → w'.heap[k]? = some o := by
 intro k o hk
 have hlt : k < w.heap.size := by
  rcases Nat.lt_or_ge k w.heap.size with h | h
  ·exact h
  ·rw [Array.getElem?_eq_none h] at hk; cases hk
 rw [hb.block k hlt]; exact hk
theorem Tryz.noUnwrapE (v : Value) (xT : TypeId) (w : World) : (Instr.typeAssert (.iface 202 v) xT 153 true).run Tryz.prog w = .ok (.tuple #[.nilIface, .bool false]) w := run_typeAssert_lacksB Tryz.underlying153 (by kernel_rfl) (by kernel_rfl) v xT w
theorem Tryz.noUnwrapsE (v : Value) (xT : TypeId) (w : World) : (Instr.typeAssert (.iface 202 v) xT 155 true).run Tryz.prog w = .ok (.tuple #[.nilIface, .bool false]) w := run_typeAssert_lacksB Tryz.underlying155 (by kernel_rfl) (by kernel_rfl) v xT w
theorem Tryz.hasUnwrapP (v : Value) (xT : TypeId) (w : World) : (Instr.typeAssert (.iface 98 v) xT 153 true).run Tryz.prog w = .ok (.tuple #[.iface 98 v, .bool true]) w := run_typeAssert_hasB Tryz.underlying153 (by kernel_rfl) v xT w
theorem Tryz.hasUnwrapS (v : Value) (xT : TypeId) (w : World) : (Instr.typeAssert (.iface 95 v) xT 153 true).run Tryz.prog w = .ok (.tuple #[.iface 95 v, .bool true]) w := run_typeAssert_hasB Tryz.underlying153 (by kernel_rfl) v xT w
theorem Tryz.methodUnwrapP (v : Value) (w : World) : (Go.method 335 98 v "Unwrap").run Tryz.prog w = .ok (134, v) w := by kernel_rfl
theorem Tryz.methodUnwrapS (v : Value) (w : World) : (Go.method 335 95 v "Unwrap").run Tryz.prog w = .ok (132, v) w := by kernel_rfl
theorem unwrapP (k : Nat) (x : Value) (w : World) (h : w.cell? ⟨k, 0, none⟩ = some x) : Calls Tryz.prog 134 #[.pointer (some ⟨k, 0, none⟩)] w fun e w' => e = .returned x ∧ w = w' := by
 go_enter Tryz.func134, Tryz.ntmps134
 go_wp2
 go_ret
 exact ⟨rfl, rfl⟩
theorem unwrapS (k : Nat) (x : Value) (w : World) (h : w.cell? ⟨k, 0, none⟩ = some x) : Calls Tryz.prog 132 #[.pointer (some ⟨k, 0, none⟩)] w fun e w' => e = .returned x ∧ w = w' := by
 go_enter Tryz.func132, Tryz.ntmps132
 go_wp2
 go_ret
 exact ⟨rfl, rfl⟩
end Go.Proofs.YtnpkcllbpnmabaaGreatDoor
namespace Go.Proofs.YtnpkcllbpnmabaaGreatDoor
open Go.RowKit Go.Extern.Stop Go.Stop Go.Extern
theorem Tryz.methodKind (h : Value) (w : World) : (Go.method 335 145 (.agg #[h]) "Kind").run Tryz.prog w = .ok (125, h) w := by kernel_rfl
theorem Tryz.methodElem (h : Value) (w : World) : (Go.method 335 145 (.agg #[h]) "Elem").run Tryz.prog w = .ok (142, .agg #[h]) w := by kernel_rfl
theorem Tryz.methodImplements (h : Value) (w : World) : (Go.method 335 145 (.agg #[h]) "Implements").run Tryz.prog w = .ok (143, .agg #[h]) w := by kernel_rfl
theorem Tryz.methodAssignableTo (h : Value) (w : World) : (Go.method 335 145 (.agg #[h]) "AssignableTo").run Tryz.prog w = .ok (140, .agg #[h]) w := by kernel_rfl
theorem Tryz.typeOfP (v : Value) (w : World) : (ReflectliteType.typeOf #[.iface 98 v]).run Tryz.prog w = .ok (.iface 145 (.agg #[.pointer (some ⟨22, 98, none⟩)])) w := by kernel_rfl
theorem Tryz.noAsP (v : Value) (xT : TypeId) (w : World) : (Instr.typeAssert (.iface 98 v) xT 150 true).run Tryz.prog w = .ok (.tuple #[.nilIface, .bool false]) w := run_typeAssert_lacksB Tryz.underlying150 (by kernel_rfl) (by kernel_rfl) v xT w
theorem Tryz.typeOfS (v : Value) (w : World) : (ReflectliteType.typeOf #[.iface 95 v]).run Tryz.prog w = .ok (.iface 145 (.agg #[.pointer (some ⟨22, 95, none⟩)])) w := by kernel_rfl
theorem Tryz.noAsS (v : Value) (xT : TypeId) (w : World) : (Instr.typeAssert (.iface 95 v) xT 150 true).run Tryz.prog w = .ok (.tuple #[.nilIface, .bool false]) w := run_typeAssert_lacksB Tryz.underlying150 (by kernel_rfl) (by kernel_rfl) v xT w
theorem Tryz.typeOfE (v : Value) (w : World) : (ReflectliteType.typeOf #[.iface 202 v]).run Tryz.prog w = .ok (.iface 145 (.agg #[.pointer (some ⟨22, 202, none⟩)])) w := by kernel_rfl
theorem Tryz.noAsE (v : Value) (xT : TypeId) (w : World) : (Instr.typeAssert (.iface 202 v) xT 150 true).run Tryz.prog w = .ok (.tuple #[.nilIface, .bool false]) w := run_typeAssert_lacksB Tryz.underlying150 (by kernel_rfl) (by kernel_rfl) v xT w
end Go.Proofs.YtnpkcllbpnmabaaGreatDoor
namespace Go.Proofs.YtnpkcllbpnmabaaGreatDoor
open Go.RowKit Go.Extern.Stop Go.Stop Go.Extern
def AsMiss (w : World) (e : Ending) (w' : World) : Prop := e = .returned (.bool false) ∧ Below w.heap.size w w'
theorem lt_of_cell {w : World} {p : Addr} {v : Value} (h : w.cell? p = some v) : p.block < w.heap.size := by
 rcases Nat.lt_or_ge p.block w.heap.size with h1 | h1
 ·exact h1
 ·simp [World.cell?, Array.getElem?_eq_none h1] at h
theorem lt_of_block {w : World} {k : Nat} {o : Obj} (h : w.heap[k]? = some o) : k < w.heap.size := by
 rcases Nat.lt_or_ge k w.heap.size with h1 | h1
 ·exact h1
 ·rw [Array.getElem?_eq_none h1] at h; cases h
end Go.Proofs.YtnpkcllbpnmabaaGreatDoor
namespace Go.Proofs.YtnpkcllbpnmabaaGreatDoor
open Go.RowKit Go.Extern.Stop Go.Stop Go.Extern
structure Snt (w : World) (s : Nat → Addr) : Prop where
 var : ∀ k, 1 ≤ k → k ≤ 21 → w.cell? ⟨k - 1, 0, none⟩ = some (.iface 202 (.pointer (some (s k))))
 low : 21 < w.heap.size
 blk : ∀ k, 1 ≤ k → k ≤ 21 → ∃ cs t, w.heap[(s k).block]? = some (.cells cs t (0, 0))
 apart : ∀ j k, 1 ≤ j → j ≤ 21 → 1 ≤ k → k ≤ 21 → s j = s k → j = k
 ety : w.cell? ⟨21, 0, none⟩ = some (.iface 145 (.agg #[.pointer (some ⟨22, 37, none⟩)]))
theorem Snt.below {w w' : World} {s : Nat → Addr} (h : Snt w s) (hb : Below w.heap.size w w') : Snt w' s where
 var k h1 h2 := by rw [hb.cell (by have := h.low; simp; omega)]; exact h.var k h1 h2
 low := Nat.lt_of_lt_of_le h.low hb.size
 blk k h1 h2 := by obtain ⟨cs, t, e⟩ := h.blk k h1 h2; exact ⟨cs, t, below_blocks hb _ _ e⟩
 apart := h.apart
 ety := by rw [hb.cell (by have := h.low; simp; omega)]; exact h.ety
theorem Below.step {w w1 w2 : World} (h : Below w.heap.size w w1) (h' : Below w1.heap.size w1 w2) : Below w.heap.size w w2 := h.trans (h'.mono h.size)
end Go.Proofs.YtnpkcllbpnmabaaGreatDoor
