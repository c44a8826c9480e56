/- The contracts of strconv.FormatUint and scan.Base at the base 16. -/
import Derived.Test.YthmgcebonplcgaaGreatDoorScPow
import Derived.Test.YthmgcebonplcgaaGreatDoorKCu
namespace Go.Proofs.YthmgcebonplcgaaGreatDoor
open Go.RowKit

set_option maxRecDepth 100000 in
set_option maxHeartbeats 4000000 in
theorem uint16_in (n : Nat) (w : World) (hn : n < 18446744073709551616) (h : DB w) :
    Calls Tryz.prog 110 #[.int .u64 n, .int .i64 16] w fun e w' => ∃ t, e = .returned (.string t) ∧ bys t = digs 16 n ∧ Below w.heap.size w w' := by
  have HS := Lib.hid (formatBits_16 n w h hn)
  clear h
  go_enter Tryz.func110, Tryz.ntmps110
  go_wp2_with fail
  refine HS.out.mono ?_
  rintro e w' ⟨t, rfl, ht, hbel⟩
  have HT := Lib.hid ht
  have HB := Lib.hid hbel
  clear ht hbel
  go_wp2
  go_ret
  exact ⟨_, rfl, HT.out, HB.out⟩
set_option maxRecDepth 100000 in
set_option maxHeartbeats 4000000 in
theorem uint16_any (n : Nat) (w : World) (hn : n < 18446744073709551616) (h : DB w) :
    Calls Tryz.prog 96 #[.int .u64 n, .int .i64 16] w fun e w' => ∃ t, e = .returned (.string t) ∧ bys t = digs 16 n ∧ Below w.heap.size w w' := by
  have HS := Lib.hid (uint16_in n w hn h)
  clear h
  go_enter Tryz.func96, Tryz.ntmps96
  go_wp2_with fail
  refine HS.out.mono ?_
  rintro e w' ⟨t, rfl, ht, hbel⟩
  have HT := Lib.hid ht
  have HB := Lib.hid hbel
  clear ht hbel
  go_wp2
  go_ret
  exact ⟨_, rfl, HT.out, HB.out⟩

set_option maxRecDepth 100000 in
set_option maxHeartbeats 4000000 in
theorem base16 (n : Nat) (w : World) (hn : n < 18446744073709551616) (h : DB w) :
    Calls Tryz.prog 80 #[.int .u64 n, .int .i64 16, .bool false] w fun e w' => ∃ t, e = .returned (.string t) ∧ bys t = digs 16 n ∧ Below w.heap.size w w' := by
  have HS := Lib.hid (uint16_any n w hn h)
  have HI : Hid (∀ w, Calls Tryz.prog 95 #[.int .i64 16] w fun e w' => e = .returned (.bool true) ∧ w = w') := fun w => isBase_any 16 w
  clear h
  go_enter Tryz.func80, Tryz.ntmps80
  go_wp2_with fail
  refine (HI.out _).mono ?_
  rintro e w' ⟨rfl, rfl⟩
  go_wp2_with fail
  refine HS.out.mono ?_
  rintro e w' ⟨t, rfl, ht, hbel⟩
  have HT := Lib.hid ht
  have HB := Lib.hid hbel
  clear ht hbel
  go_wp2
  go_ret
  exact ⟨_, rfl, HT.out, HB.out⟩
end Go.Proofs.YthmgcebonplcgaaGreatDoor
