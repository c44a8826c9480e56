/- The reader's refusals: an error of a code at a place, in a language. -/
import Derived.Test.YtcceiblmdjbhjaaGreatDoorKFa
import Derived.Test.YtcceiblmdjbhjaaGreatDoorKRdr
import Derived.Test.YtcceiblmdjbhjaaGreatDoorKLi
namespace Go.Proofs.YtcceiblmdjbhjaaGreatDoor
open Go.RowKit

/-- The sentinels' variables: that of code k holds a pointer to e k; they lie below block B. -/
structure Es (w : World) (B : Nat) (e : Nat → Addr) : Prop where
  var : ∀ k, 1 ≤ k → k ≤ 21 → w.cell? ⟨k - 1, 0, none⟩ = some (.iface 247 (.pointer (some (e k))))
  low : 21 < B
  big : B ≤ w.heap.size
theorem Es.below {w w' : World} {B : Nat} {e : Nat → Addr} (h : Es w B e) (hb : Below B w w') : Es w' B e where
  var k h1 h2 := by rw [hb.cell (by have := h.low; simp; omega)]; exact h.var k h1 h2
  low := h.low
  big := Nat.le_trans h.big hb.size
theorem esWrap_At (vt : TypeId) (vv : Value) (n : Int) (w : World) :
    Calls Tryz.prog 32 #[.iface vt vv, .int .i64 n] w fun e w' => e = .returned (.iface 71 (.pointer (some ⟨w.heap.size, 0, none⟩))) ∧ w' = w.alloc (.cells #[.iface vt vv, .int .i64 n] 75) := by
  go_enter Tryz.func32, Tryz.ntmps32
  go_wp2
  go_ret
  exact ⟨rfl, rfl⟩
theorem esWrap_In (vt : TypeId) (vv : Value) (n : Int) (w : World) :
    Calls Tryz.prog 31 #[.iface vt vv, .int .i64 n] w fun e w' => e = .returned (.iface 76 (.pointer (some ⟨w.heap.size, 0, none⟩))) ∧ w' = w.alloc (.cells #[.iface vt vv, .int .i64 n] 80) := by
  go_enter Tryz.func31, Tryz.ntmps31
  go_wp2
  go_ret
  exact ⟨rfl, rfl⟩

/-- An error of code c at place p, in the language lg, as it lies in memory: its own two blocks from B on. -/
def ErrS (w : World) (B : Nat) (e : Nat → Addr) (lg : Int) (c : Nat) (p : Int) (v : Value) : Prop :=
  ∃ k j, v = .iface 76 (.pointer (some ⟨k, 0, none⟩)) ∧ B ≤ k ∧ k < w.heap.size ∧ B ≤ j ∧ j < w.heap.size ∧
    w.heap[k]? = some (.cells #[.iface 71 (.pointer (some ⟨j, 0, none⟩)), .int .i64 lg] 80) ∧
    w.heap[j]? = some (.cells #[bot (e c), .int .i64 p] 75)
theorem ErrS.chn {w : World} {B : Nat} {e : Nat → Addr} {lg : Int} {c : Nat} {p : Int} {v : Value} (h : ErrS w B e lg c p v) : Chn w [(true, lg), (false, p)] v (bot (e c)) := by
  obtain ⟨k, j, rfl, _, _, _, _, h1, h2⟩ := h
  exact ⟨k, _, rfl, h1, j, _, rfl, h2, rfl⟩
theorem ErrS.kept {w w' : World} {B : Nat} {e : Nat → Addr} {lg : Int} {c : Nat} {p : Int} {v : Value} (h : ErrS w B e lg c p v) (hz : w.heap.size ≤ w'.heap.size) (hb : ∀ i, B ≤ i → i < w.heap.size → w'.heap[i]? = w.heap[i]?) : ErrS w' B e lg c p v := by
  obtain ⟨k, j, rfl, k1, k2, j1, j2, h1, h2⟩ := h
  exact ⟨k, j, rfl, k1, Nat.lt_of_lt_of_le k2 hz, j1, Nat.lt_of_lt_of_le j2 hz, (hb k k1 k2).trans h1, (hb j j1 j2).trans h2⟩
theorem ErrS.below {w w' : World} {B : Nat} {e : Nat → Addr} {lg : Int} {c : Nat} {p : Int} {v : Value} (h : ErrS w B e lg c p v) (hb : Below w.heap.size w w') : ErrS w' B e lg c p v :=
  h.kept hb.size fun i _ hi => hb.block i hi
theorem ErrS.lower {w : World} {B B' : Nat} {e : Nat → Addr} {lg : Int} {c : Nat} {p : Int} {v : Value} (h : ErrS w B e lg c p v) (hb : B' ≤ B) : ErrS w B' e lg c p v := by
  obtain ⟨k, j, rfl, k1, k2, j1, j2, h1, h2⟩ := h
  exact ⟨k, j, rfl, Nat.le_trans hb k1, k2, Nat.le_trans hb j1, j2, h1, h2⟩

end Go.Proofs.YtcceiblmdjbhjaaGreatDoor
