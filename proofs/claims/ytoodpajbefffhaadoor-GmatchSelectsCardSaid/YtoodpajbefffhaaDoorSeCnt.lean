/- How many are in a set is how many bytes it has; both of two, and one of two. -/
import Derived.Test.YtoodpajbefffhaaDoorSeCtz
import Derived.Test.YtoodpajbefffhaaDoorKSet
namespace Go.Proofs.YtoodpajbefffhaaDoor
open Go.RowKit

theorem cntW_count (q : Nat → Bool) : cntW q = (List.range 64).countP q := by
  unfold cntW cntB
  rw [List.countP_map]
  congr 1
  funext j
  simp
theorem count_add (p : Nat → Bool) (k n : Nat) : (List.range (k + n)).countP p = (List.range k).countP p + (List.range n).countP (fun j => p (k + j)) := by
  rw [List.range_add, List.countP_append, List.countP_map]
  rfl
theorem cntS_count (p : Nat → Bool) : cntS p = (List.range 256).countP p := by
  have h1 := count_add p 192 64
  have h2 := count_add p 128 64
  have h3 := count_add p 64 64
  unfold cntS
  rw [cntW_count, cntW_count, cntW_count, cntW_count]
  rw [show 192 + 64 = 256 from rfl] at h1
  rw [show 128 + 64 = 192 from rfl] at h2
  rw [show 64 + 64 = 128 from rfl] at h3
  rw [h1, h2, h3]
theorem cntS_len (p : Nat → Bool) : cntS p = (byL p 256).length := by
  rw [cntS_count]
  unfold byL
  rw [List.length_map, List.countP_eq_length_filter]
end Go.Proofs.YtoodpajbefffhaaDoor
