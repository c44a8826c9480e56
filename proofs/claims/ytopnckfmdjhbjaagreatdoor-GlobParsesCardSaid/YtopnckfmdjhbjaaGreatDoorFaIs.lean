/- Contracts of errors.Is over chains of fault.At and fault.In: a chain is a list of wraps around an error of errors.New's make; errors.Is tells whether the pointer at its bottom is the sentinel's. -/
import Derived.Test.YtopnckfmdjhbjaaGreatDoorProg
import Derived.WalkKit
import Derived.LaidEql
import Derived.Stop.Asserts
import Derived.RowKitTokens
import Derived.Deep.LoopGhost
import Derived.Outline
import Derived.Lib.Hide
namespace Go.Proofs.YtopnckfmdjhbjaaGreatDoor
open Go.RowKit Go.Extern.Stop Go.Stop Go.Extern

/-- A chain of wraps (true: a language, false: a place), the outermost first, around the error r. -/
def Chn (w : World) : List (Bool × Int) → Value → Value → Prop
  | [], v, r => v = r
  | (b, n) :: l, v, r => ∃ (k : Nat) (x : Value), v = .iface (bif b then 65 else 60) (.pointer (some ⟨k, 0, none⟩)) ∧ w.heap[k]? = some (.cells #[x, .int .i64 n] (bif b then 69 else 64)) ∧ Chn w l x r

/-- The error at a chain's bottom: a pointer of errors.New's make. -/
def bot (a : Addr) : Value := .iface 198 (.pointer (some a))

theorem Chn.held {w : World} {l : List (Bool × Int)} {v r : Value} (h : Chn w l v r) (hr : ∃ t x, r = .iface t x) : ∃ t x, v = .iface t x := by
  cases l with
  | nil => cases h; exact hr
  | cons p l => obtain ⟨b, n⟩ := p; obtain ⟨k, x, hv, _, _⟩ := h; exact ⟨_, _, hv⟩

/-- A chain stands in every later world. -/
theorem Chn.kept {w w' : World} (hb : ∀ (k : Nat) (o : Obj), w.heap[k]? = some o → w'.heap[k]? = some o) : ∀ {l : List (Bool × Int)} {v r : Value}, Chn w l v r → Chn w' l v r
  | [], _, _, h => h
  | (_, _) :: _, _, _, ⟨k, x, hv, hk, hl⟩ => ⟨k, x, hv, hb k _ hk, Chn.kept hb hl⟩

theorem below_blocks {w w' : World} (hb : Below w.heap.size w w') : ∀ (k : Nat) (o : Obj), w.heap[k]? = some o → w'.heap[k]? = some o := by
  intro k o hk
  have hlt : k < w.heap.size := by
    rcases Nat.lt_or_ge k w.heap.size with h | h
    · exact h
    · rw [Array.getElem?_eq_none h] at hk; cases hk
  rw [hb.block k hlt]; exact hk

theorem Chn.below {w w' : World} (hb : Below w.heap.size w w') {l : List (Bool × Int)} {v r : Value} (h : Chn w l v r) : Chn w' l v r := h.kept (below_blocks hb)

/-! closed facts -/
theorem Tryz.isTypeOf (v : Value) (w : World) : (Extern.ReflectliteType.typeOf #[.iface 198 v]).run Tryz.prog w = .ok (.iface 135 (.agg #[.pointer (some ⟨29, 198, none⟩)])) w := by kernel_rfl
theorem Tryz.isComparable (w : World) : ((Extern.ReflectliteType.method fun t => do Extern.Rtype.noPackHeld "Comparable" t; (fun a => Value.bool a.comparable) <$> typeInfo t) #[.agg #[.pointer (some ⟨29, 198, none⟩)]]).run Tryz.prog w = .ok (.bool true) w := by kernel_rfl
theorem Tryz.isMethodComparable (v : Value) (w : World) : (Go.method 328 135 v "Comparable").run Tryz.prog w = .ok (153, v) w := by kernel_rfl
theorem Tryz.isComp : (Tryz.prog.info? 198).map (·.comparable) = some true := by kernel_rfl
theorem Tryz.isSize : (Tryz.prog.info? 216).map (·.size) = some 1 := by kernel_rfl
theorem Tryz.noIsE (v : Value) (xT : TypeId) (w : World) : (Instr.typeAssert (.iface 198 v) xT 157 true).run Tryz.prog w = .ok (.tuple #[.nilIface, .bool false]) w := run_typeAssert_lacksB Tryz.underlying157 (by kernel_rfl) (by kernel_rfl) v xT w
theorem Tryz.noUnwrapE (v : Value) (xT : TypeId) (w : World) : (Instr.typeAssert (.iface 198 v) xT 142 true).run Tryz.prog w = .ok (.tuple #[.nilIface, .bool false]) w := run_typeAssert_lacksB Tryz.underlying142 (by kernel_rfl) (by kernel_rfl) v xT w
theorem Tryz.noUnwrapsE (v : Value) (xT : TypeId) (w : World) : (Instr.typeAssert (.iface 198 v) xT 144 true).run Tryz.prog w = .ok (.tuple #[.nilIface, .bool false]) w := run_typeAssert_lacksB Tryz.underlying144 (by kernel_rfl) (by kernel_rfl) v xT w
theorem Tryz.noIsP (v : Value) (xT : TypeId) (w : World) : (Instr.typeAssert (.iface 60 v) xT 157 true).run Tryz.prog w = .ok (.tuple #[.nilIface, .bool false]) w := run_typeAssert_lacksB Tryz.underlying157 (by kernel_rfl) (by kernel_rfl) v xT w
theorem Tryz.noIsS (v : Value) (xT : TypeId) (w : World) : (Instr.typeAssert (.iface 65 v) xT 157 true).run Tryz.prog w = .ok (.tuple #[.nilIface, .bool false]) w := run_typeAssert_lacksB Tryz.underlying157 (by kernel_rfl) (by kernel_rfl) v xT w
theorem Tryz.hasUnwrapP (v : Value) (xT : TypeId) (w : World) : (Instr.typeAssert (.iface 60 v) xT 142 true).run Tryz.prog w = .ok (.tuple #[.iface 60 v, .bool true]) w := run_typeAssert_hasB Tryz.underlying142 (by kernel_rfl) v xT w
theorem Tryz.hasUnwrapS (v : Value) (xT : TypeId) (w : World) : (Instr.typeAssert (.iface 65 v) xT 142 true).run Tryz.prog w = .ok (.tuple #[.iface 65 v, .bool true]) w := run_typeAssert_hasB Tryz.underlying142 (by kernel_rfl) v xT w
theorem Tryz.methodUnwrapP (v : Value) (w : World) : (Go.method 328 60 v "Unwrap").run Tryz.prog w = .ok (143, v) w := by kernel_rfl
theorem Tryz.methodUnwrapS (v : Value) (w : World) : (Go.method 328 65 v "Unwrap").run Tryz.prog w = .ok (145, v) w := by kernel_rfl

theorem unwrapP (k : Nat) (x : Value) (w : World) (h : w.cell? ⟨k, 0, none⟩ = some x) : Calls Tryz.prog 143 #[.pointer (some ⟨k, 0, none⟩)] w fun e w' => e = .returned x ∧ w = w' := by
  go_enter Tryz.func143, Tryz.ntmps143
  go_wp2
  go_ret
  exact ⟨rfl, rfl⟩
theorem unwrapS (k : Nat) (x : Value) (w : World) (h : w.cell? ⟨k, 0, none⟩ = some x) : Calls Tryz.prog 145 #[.pointer (some ⟨k, 0, none⟩)] w fun e w' => e = .returned x ∧ w = w' := by
  go_enter Tryz.func145, Tryz.ntmps145
  go_wp2
  go_ret
  exact ⟨rfl, rfl⟩

/-- The loop's relation. -/
def IsRel (w : World) (r : Value) (k : Nat) (v : Value) (wr : World) : Prop := wr = w ∧ ∃ l, l.length = k ∧ Chn w l v r

set_option maxRecDepth 100000 in
set_option maxHeartbeats 1000000 in
theorem is_walk (l : List (Bool × Int)) (v : Value) (a b : Addr) (q : Bool) (w : World) (hc : Chn w l v (bot a))
    (heq : (binOp .eql 25 (.iface 198 (.pointer (some a))) (.iface 198 (.pointer (some b)))).run Tryz.prog w = .ok (.bool q) w) :
    Calls Tryz.prog 79 #[v, bot b, .bool true] w fun e w' => e = .returned (.bool q) ∧ w = w' := by
  have nE := Tryz.noIsE
  have uE := Tryz.noUnwrapE
  have vE := Tryz.noUnwrapsE
  have nP := Tryz.noIsP
  have nS := Tryz.noIsS
  have hP := Tryz.hasUnwrapP
  have hS := Tryz.hasUnwrapS
  have mP := Tryz.methodUnwrapP
  have mS := Tryz.methodUnwrapS
  have tP := fun (x : Value) => run_eql_iface_types (P := Tryz.prog) 60 198 x (.pointer (some b)) Tryz.underlying25 (by decide) w
  have tS := fun (x : Value) => run_eql_iface_types (P := Tryz.prog) 65 198 x (.pointer (some b)) Tryz.underlying25 (by decide) w
  unfold bot at *
  go_enter Tryz.func79, Tryz.ntmps79
  go_wp2
  go_loopg [0] l.length (fun k v wr => IsRel w (.iface 198 (.pointer (some a))) k v wr)
  case atStart => exact ⟨rfl, l, rfl, hc⟩
  case round =>
    obtain ⟨rfl, l', hl, hc'⟩ := hrel
    cases l' with
    | nil =>
      cases hc'
      cases q
      · go_wp2
        go_ret
        exact ⟨rfl, rfl⟩
      · go_wp2
        go_ret
        exact ⟨rfl, rfl⟩
    | cons p l'' =>
      obtain ⟨pb, n⟩ := p
      obtain ⟨k, x, rfl, hk, hx⟩ := hc'
      obtain ⟨xt, xv, rfl⟩ := hx.held ⟨_, _, rfl⟩
      have hcell : wr.cell? ⟨k, 0, none⟩ = some (.iface xt xv) := by simp [World.cell?, hk]
      have HX := Lib.hid hx
      have HL := Lib.hid hl
      have HK := Lib.hid hk
      clear hx hl hk hc heq
      cases pb
      · simp only [cond_false] at *
        go_wp2_with fail
        refine (unwrapP k _ _ hcell).mono ?_
        rintro e w' ⟨rfl, rfl⟩
        go_wp2
        go_roundg l''.length
        case measure => have := HL.out; simp only [List.length_cons] at this; omega
        case rel => exact ⟨rfl, l'', rfl, HX.out⟩
      · simp only [cond_true] at *
        go_wp2_with fail
        refine (unwrapS k _ _ hcell).mono ?_
        rintro e w' ⟨rfl, rfl⟩
        go_wp2
        go_roundg l''.length
        case measure => have := HL.out; simp only [List.length_cons] at this; omega
        case rel => exact ⟨rfl, l'', rfl, HX.out⟩
end Go.Proofs.YtopnckfmdjhbjaaGreatDoor
