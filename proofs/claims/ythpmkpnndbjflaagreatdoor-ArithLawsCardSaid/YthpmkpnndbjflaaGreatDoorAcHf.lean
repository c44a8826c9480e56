/- What && || and ? pass by: the law's parts. -/
import Derived.Test.YthpmkpnndbjflaaGreatDoorKHm
import Derived.Test.YthpmkpnndbjflaaGreatDoorKNu
import Derived.RangeFuncFrom
import Derived.RangeFuncNested
import Derived.RangeFuncBound
import Derived.RangeFuncCalls
import Derived.RangeFuncLeaves
import Derived.Laws.IdiomRangeMap
import Derived.Shelf.Abstract
import Derived.Shelf.RegionOpen
import Derived.WalkKit
import Derived.OwnWalkIn
import Derived.TacticsInMore
import Derived.LoopNIn
import Derived.LoopIn
import Derived.Test.YthpmkpnndbjflaaGreatDoorAcRn
namespace Go.Proofs.YthpmkpnndbjflaaGreatDoor
open Go.RowKit

def nmB (s : ByteArray) : Bool := decide (¬ s = sEmpty) && decide (nmN (bys s) = s.size)
set_option maxRecDepth 100000 in
set_option maxHeartbeats 4000000 in
theorem isName_any (s : ByteArray) (w : World) (hl : s.size ≤ 9223372036854775807) : Calls Tryz.prog 14 #[.string s] w fun e w' => e = .returned (.bool (nmB s)) ∧ Below w.heap.size w w' := by
  by_cases hE : s = sEmpty
  · obtain rfl : s = ⟨#[]⟩ := hE
    have HF : nmB ⟨#[]⟩ = false := rfl
    rw [HF]
    go_enter Tryz.func14, Tryz.ntmps14
    go_wp2_with fail
    go_ret
    exact ⟨rfl, Below.refl _ _⟩
  · obtain ⟨cap, W1, hconv, hrow, hbel⟩ := conv_sl w s hl
    have HN := Lib.hid (refName_any _ (bys s) W1 hrow)
    have tn := tl_no (l := []) hE
    have HE : nmB s = decide (nmN (bys s) = s.size) := by unfold nmB; rw [decide_eq_true hE, Bool.true_and]
    rw [HE]
    have HB := Lib.hid hbel
    clear hrow hbel
    go_enter Tryz.func14, Tryz.ntmps14
    go_wp2_with fail
    refine HN.out.mono ?_
    rintro e w2 ⟨rfl, rfl⟩
    go_wp2_with fail
    go_ret
    exact ⟨ret_bool (by rw [Bool.eq_iff_iff, beq_iff_eq, decide_eq_true_iff]; omega), HB.out⟩
set_option maxRecDepth 100000 in
set_option maxHeartbeats 4000000 in
theorem in4_any (v : Value) (l : List Int) (w : World) (hs : Sl w v l) (hl : l.length ≤ 1000) : Calls Tryz.prog 33 #[v] w fun e w' => e = .returned (.string (⟨#[40]⟩ ++ ofBys l ++ ⟨#[41]⟩)) ∧ w = w' := by
  have hconv := conv_string hs
  have hsz := ofBys_size l
  have hs2 : (⟨#[40]⟩ ++ ofBys l : ByteArray).size = 1 + l.length := by rw [ByteArray.size_append, hsz]; rfl
  clear hs
  generalize ofBys l = x at *
  go_enter Tryz.func33, Tryz.ntmps33
  go_wp2_with fail
  all_goals first
    | (exfalso; omega)
    | (go_ret; exact ⟨rfl, rfl⟩)
end Go.Proofs.YthpmkpnndbjflaaGreatDoor
