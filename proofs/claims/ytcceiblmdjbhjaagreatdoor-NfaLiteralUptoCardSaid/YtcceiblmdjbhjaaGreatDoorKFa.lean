/- KFa: several texts in one (kmerge.py). -/
import Derived.Test.YtcceiblmdjbhjaaGreatDoorProg
import Derived.WalkKit
import Derived.LaidEql
import Derived.Stop.Asserts
import Derived.RowKitTokens
import Derived.Deep.LoopGhost
import Derived.Outline
import Derived.Lib.Hide
/- Contracts of errors.Is over chains of fault.At and fault.In: a chain is a list of wraps around an error of errors.New's make; errors.Is tells whether the pointer at its bottom is the sentinel's. -/
namespace Go.Proofs.YtcceiblmdjbhjaaGreatDoor
open Go.RowKit Go.Extern.Stop Go.Stop Go.Extern

/-- A chain of wraps (true: a language, false: a place), the outermost first, around the error r. -/
def Chn (w : World) : List (Bool × Int) → Value → Value → Prop
  | [], v, r => v = r
  | (b, n) :: l, v, r => ∃ (k : Nat) (x : Value), v = .iface (bif b then 76 else 71) (.pointer (some ⟨k, 0, none⟩)) ∧ w.heap[k]? = some (.cells #[x, .int .i64 n] (bif b then 80 else 75)) ∧ Chn w l x r

/-- The error at a chain's bottom: a pointer of errors.New's make. -/
def bot (a : Addr) : Value := .iface 247 (.pointer (some a))

theorem Chn.held {w : World} {l : List (Bool × Int)} {v r : Value} (h : Chn w l v r) (hr : ∃ t x, r = .iface t x) : ∃ t x, v = .iface t x := by
  cases l with
  | nil => cases h; exact hr
  | cons p l => obtain ⟨b, n⟩ := p; obtain ⟨k, x, hv, _, _⟩ := h; exact ⟨_, _, hv⟩

theorem below_blocks {w w' : World} (hb : Below w.heap.size w w') : ∀ (k : Nat) (o : Obj), w.heap[k]? = some o → w'.heap[k]? = some o := by
  intro k o hk
  have hlt : k < w.heap.size := by
    rcases Nat.lt_or_ge k w.heap.size with h | h
    · exact h
    · rw [Array.getElem?_eq_none h] at hk; cases hk
  rw [hb.block k hlt]; exact hk

/-! closed facts -/
theorem Tryz.noUnwrapE (v : Value) (xT : TypeId) (w : World) : (Instr.typeAssert (.iface 247 v) xT 195 true).run Tryz.prog w = .ok (.tuple #[.nilIface, .bool false]) w := run_typeAssert_lacksB Tryz.underlying195 (by kernel_rfl) (by kernel_rfl) v xT w
theorem Tryz.noUnwrapsE (v : Value) (xT : TypeId) (w : World) : (Instr.typeAssert (.iface 247 v) xT 197 true).run Tryz.prog w = .ok (.tuple #[.nilIface, .bool false]) w := run_typeAssert_lacksB Tryz.underlying197 (by kernel_rfl) (by kernel_rfl) v xT w
theorem Tryz.hasUnwrapP (v : Value) (xT : TypeId) (w : World) : (Instr.typeAssert (.iface 71 v) xT 195 true).run Tryz.prog w = .ok (.tuple #[.iface 71 v, .bool true]) w := run_typeAssert_hasB Tryz.underlying195 (by kernel_rfl) v xT w
theorem Tryz.hasUnwrapS (v : Value) (xT : TypeId) (w : World) : (Instr.typeAssert (.iface 76 v) xT 195 true).run Tryz.prog w = .ok (.tuple #[.iface 76 v, .bool true]) w := run_typeAssert_hasB Tryz.underlying195 (by kernel_rfl) v xT w
theorem Tryz.methodUnwrapP (v : Value) (w : World) : (Go.method 380 71 v "Unwrap").run Tryz.prog w = .ok (191, v) w := by kernel_rfl
theorem Tryz.methodUnwrapS (v : Value) (w : World) : (Go.method 380 76 v "Unwrap").run Tryz.prog w = .ok (193, v) w := by kernel_rfl

theorem unwrapP (k : Nat) (x : Value) (w : World) (h : w.cell? ⟨k, 0, none⟩ = some x) : Calls Tryz.prog 191 #[.pointer (some ⟨k, 0, none⟩)] w fun e w' => e = .returned x ∧ w = w' := by
  go_enter Tryz.func191, Tryz.ntmps191
  go_wp2
  go_ret
  exact ⟨rfl, rfl⟩
theorem unwrapS (k : Nat) (x : Value) (w : World) (h : w.cell? ⟨k, 0, none⟩ = some x) : Calls Tryz.prog 193 #[.pointer (some ⟨k, 0, none⟩)] w fun e w' => e = .returned x ∧ w = w' := by
  go_enter Tryz.func193, Tryz.ntmps193
  go_wp2
  go_ret
  exact ⟨rfl, rfl⟩

end Go.Proofs.YtcceiblmdjbhjaaGreatDoor
/- Contracts of errors.As over chains of fault.At and fault.In, at a target of type **placed or **spoken: it finds the outermost wrap of its kind. -/
namespace Go.Proofs.YtcceiblmdjbhjaaGreatDoor
open Go.RowKit Go.Extern.Stop Go.Stop Go.Extern

theorem Tryz.methodKind (h : Value) (w : World) : (Go.method 380 188 (.agg #[h]) "Kind").run Tryz.prog w = .ok (187, h) w := by kernel_rfl
theorem Tryz.methodElem (h : Value) (w : World) : (Go.method 380 188 (.agg #[h]) "Elem").run Tryz.prog w = .ok (203, .agg #[h]) w := by kernel_rfl
theorem Tryz.methodImplements (h : Value) (w : World) : (Go.method 380 188 (.agg #[h]) "Implements").run Tryz.prog w = .ok (204, .agg #[h]) w := by kernel_rfl
theorem Tryz.methodAssignableTo (h : Value) (w : World) : (Go.method 380 188 (.agg #[h]) "AssignableTo").run Tryz.prog w = .ok (201, .agg #[h]) w := by kernel_rfl
theorem Tryz.typeOfP (v : Value) (w : World) : (ReflectliteType.typeOf #[.iface 71 v]).run Tryz.prog w = .ok (.iface 188 (.agg #[.pointer (some ⟨22, 71, none⟩)])) w := by kernel_rfl
theorem Tryz.noAsP (v : Value) (xT : TypeId) (w : World) : (Instr.typeAssert (.iface 71 v) xT 192 true).run Tryz.prog w = .ok (.tuple #[.nilIface, .bool false]) w := run_typeAssert_lacksB Tryz.underlying192 (by kernel_rfl) (by kernel_rfl) v xT w
theorem Tryz.typeOfS (v : Value) (w : World) : (ReflectliteType.typeOf #[.iface 76 v]).run Tryz.prog w = .ok (.iface 188 (.agg #[.pointer (some ⟨22, 76, none⟩)])) w := by kernel_rfl
theorem Tryz.noAsS (v : Value) (xT : TypeId) (w : World) : (Instr.typeAssert (.iface 76 v) xT 192 true).run Tryz.prog w = .ok (.tuple #[.nilIface, .bool false]) w := run_typeAssert_lacksB Tryz.underlying192 (by kernel_rfl) (by kernel_rfl) v xT w
theorem Tryz.typeOfE (v : Value) (w : World) : (ReflectliteType.typeOf #[.iface 247 v]).run Tryz.prog w = .ok (.iface 188 (.agg #[.pointer (some ⟨22, 247, none⟩)])) w := by kernel_rfl
theorem Tryz.noAsE (v : Value) (xT : TypeId) (w : World) : (Instr.typeAssert (.iface 247 v) xT 192 true).run Tryz.prog w = .ok (.tuple #[.nilIface, .bool false]) w := run_typeAssert_lacksB Tryz.underlying192 (by kernel_rfl) (by kernel_rfl) v xT w
end Go.Proofs.YtcceiblmdjbhjaaGreatDoor
/- errors.as and errors.As, walked over chains of fault.At and fault.In, at a target of type **placed or **spoken. -/
namespace Go.Proofs.YtcceiblmdjbhjaaGreatDoor
open Go.RowKit Go.Extern.Stop Go.Stop Go.Extern

def AsMiss (w : World) (e : Ending) (w' : World) : Prop := e = .returned (.bool false) ∧ Below w.heap.size w w'

theorem lt_of_cell {w : World} {p : Addr} {v : Value} (h : w.cell? p = some v) : p.block < w.heap.size := by
  rcases Nat.lt_or_ge p.block w.heap.size with h1 | h1
  · exact h1
  · simp [World.cell?, Array.getElem?_eq_none h1] at h
theorem lt_of_block {w : World} {k : Nat} {o : Obj} (h : w.heap[k]? = some o) : k < w.heap.size := by
  rcases Nat.lt_or_ge k w.heap.size with h1 | h1
  · exact h1
  · rw [Array.getElem?_eq_none h1] at h; cases h
end Go.Proofs.YtcceiblmdjbhjaaGreatDoor
/- Contracts of errors.Is, errors.As, errors.New, fault.At, fault.In, fault.Of. -/
namespace Go.Proofs.YtcceiblmdjbhjaaGreatDoor
open Go.RowKit Go.Extern.Stop Go.Stop Go.Extern

/-- The sentinels: the variable of code k holds a pointer to s k, no two the same. -/
structure Snt (w : World) (s : Nat → Addr) : Prop where
  var : ∀ k, 1 ≤ k → k ≤ 21 → w.cell? ⟨k - 1, 0, none⟩ = some (.iface 247 (.pointer (some (s k))))
  low : 21 < w.heap.size
  blk : ∀ k, 1 ≤ k → k ≤ 21 → ∃ cs t, w.heap[(s k).block]? = some (.cells cs t (0, 0))
  apart : ∀ j k, 1 ≤ j → j ≤ 21 → 1 ≤ k → k ≤ 21 → s j = s k → j = k
  ety : w.cell? ⟨21, 0, none⟩ = some (.iface 188 (.agg #[.pointer (some ⟨22, 35, none⟩)]))

theorem Below.step {w w1 w2 : World} (h : Below w.heap.size w w1) (h' : Below w1.heap.size w1 w2) : Below w.heap.size w w2 := h.trans (h'.mono h.size)

end Go.Proofs.YtcceiblmdjbhjaaGreatDoor
