/- What && || and ? pass by: the law's parts. -/
import Derived.Test.YthpmkpnndbjflaaGreatDoorKPa
import Derived.Test.YthpmkpnndbjflaaGreatDoorKOs
import Derived.Lib.ItoaNum
import Derived.Test.YthpmkpnndbjflaaGreatDoorKTx
import Derived.Test.YthpmkpnndbjflaaGreatDoorAcLi
import Derived.Test.YthpmkpnndbjflaaGreatDoorAcRn
namespace Go.Proofs.YthpmkpnndbjflaaGreatDoor
open Go.RowKit

def nmB (s : ByteArray) : Bool := decide (¬ s = sEmpty) && decide (nmN (bys s) = s.size)
set_option maxRecDepth 100000 in
set_option maxHeartbeats 4000000 in
theorem isName_any (s : ByteArray) (w : World) (hl : s.size ≤ 9223372036854775807) : Calls Tryz.prog 14 #[.string s] w fun e w' => e = .returned (.bool (nmB s)) ∧ Below w.heap.size w w' := by
  by_cases hE : s = sEmpty
  · obtain rfl : s = ⟨#[]⟩ := hE
    have HF : nmB ⟨#[]⟩ = false := rfl
    rw [HF]
    go_enter Tryz.func14, Tryz.ntmps14
    go_wp2_with fail
    go_ret
    exact ⟨rfl, Below.refl _ _⟩
  · obtain ⟨cap, W1, hconv, hrow, hbel⟩ := conv_sl w s hl
    have HN := Lib.hid (refName_any _ (bys s) W1 hrow)
    have tn := tl_no (l := []) hE
    have HE : nmB s = decide (nmN (bys s) = s.size) := by unfold nmB; rw [decide_eq_true hE, Bool.true_and]
    rw [HE]
    have HB := Lib.hid hbel
    clear hrow hbel
    go_enter Tryz.func14, Tryz.ntmps14
    go_wp2_with fail
    refine HN.out.mono ?_
    rintro e w2 ⟨rfl, rfl⟩
    go_wp2_with fail
    go_ret
    exact ⟨ret_bool (by rw [Bool.eq_iff_iff, beq_iff_eq, decide_eq_true_iff]; omega), HB.out⟩
end Go.Proofs.YthpmkpnndbjflaaGreatDoor
