/- The contracts of write at any tree, of Text, of isNone. -/
import Derived.Test.YthpmkpnndbjflaaGreatDoorKWr
import Derived.Shelf.Strings.Builder1
import Derived.Shelf.Strings.Trim
import Derived.Shelf.Small.Utf8
import Derived.Shelf.Small.Bits
import Derived.Shelf.Small.Strs
import Derived.Shelf.Small.Wraps
import Derived.Shelf.Strconv.Itoa0
import Derived.Shelf.Strconv.Itoa1
import Derived.Shelf.LaysM
import Derived.Shelf.Strconv.Itoa2
import Derived.Shelf.Strconv.Itoa3
import Derived.Shelf.Strconv.Itoa4
import Derived.Shelf.Strings.Search1
import Derived.Shelf.Strings.Prefix
import Derived.Shelf.Strings.Runes
import Derived.Shelf.Strings.AsciiSet
import Derived.Shelf.Unicode.DecodeSlow
import Derived.Shelf.Slices.Turned
import Derived.Test.YthpmkpnndbjflaaGreatDoorProg
namespace Go.Proofs.YthpmkpnndbjflaaGreatDoor
open Go.RowKit

theorem Tr.Wf.op {t : Tr} (h : t.Wf) : t.op ≠ sEmpty := by
  cases t with
  | num n p => show sNum ≠ sEmpty; decide
  | name s p => show sName ≠ sEmpty; decide
  | un op p a => exact h.1.2.2
  | bin op p a b => exact h.1.2.2
  | cond op p a b c => exact h.1.2.2
  | asg op s p q a => exact h.1.2.2

/-- An expression in memory. -/
def ExAt (w : World) (E : Nat) (t : Tr) : Prop := ∃ o m, w.heap[E]? = some (.cells #[.string t.op, .int .i64 t.val, .string t.nm, .int .i64 t.pos, .int .i64 t.apos, .slice o m m] 102) ∧ t.In w 0 (.slice o m m)
theorem ExAt.below {w w' : World} {E : Nat} {t : Tr} (h : ExAt w E t) (hb : Below w.heap.size w w') : ExAt w' E t := by
  obtain ⟨o, m, hE, hI⟩ := h
  exact ⟨o, m, (hb.block E (lt_of_heap hE)).trans hE, hI.kept (fun k _ hk => hb.block k hk) t _⟩

set_option maxHeartbeats 1000000 in
theorem isNone_no (E : Nat) (t : Tr) (w : World) (h : ExAt w E t) (hw : t.Wf) : Calls Tryz.prog 53 #[.pointer (some ⟨E, 0, none⟩)] w fun e w' => e = .returned (.bool false) ∧ w = w' := by
  obtain ⟨o, m, hE, _⟩ := h
  obtain ⟨⟨c0, c1, c2, c3, c4, c5⟩, _⟩ := six_facts hE
  have e1 : t.op.toList.isEmpty = false := by have := tl_no (l := []) hw.op; simpa using this
  clear hE hw
  go_enter Tryz.func53, Tryz.ntmps53
  go_wp2
  go_ret
  exact ⟨rfl, rfl⟩

end Go.Proofs.YthpmkpnndbjflaaGreatDoor
