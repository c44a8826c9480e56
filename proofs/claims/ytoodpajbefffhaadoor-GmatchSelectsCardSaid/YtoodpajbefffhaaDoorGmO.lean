/- From the row's condition to what stage 7's walks want. -/
import Derived.Test.YtoodpajbefffhaaDoorGlPar
import Derived.Test.YtoodpajbefffhaaDoorSeOpn
import Derived.Test.YtoodpajbefffhaaDoorFaSents
import Derived.Test.YtoodpajbefffhaaDoorRows
import Derived.LaidSub
import Derived.MakeChecks
namespace Go.Proofs.YtoodpajbefffhaaDoor
open Go.RowKit

def sentKeep (x : String × DataW Unit) : Bool := (sentNames.map (·.1)).contains x.1
def tabKeep (x : String × DataW Unit) : Bool := x.1 == "math/bits.deBruijn64tab"
theorem gm_of_laid {W : World} {L : List (String × DataW Unit)} (h1 : L.filter tabKeep = [("math/bits.deBruijn64tab", Lib.tabData .u8 bruijnZ)]) (h2 : L.filter sentKeep = sentNames.map sd) (h : laidMetH Tryd.prog L W) :
    ∃ e, Es W W.heap.size e ∧ TZ W := by
  have h' := laidMetH.filter sentKeep h
  rw [h2, MakeChecks.laidMetH_plain _ _ _ (by kernel_rfl)] at h'
  obtain ⟨sl, _, hv⟩ := sents_vars h'
  have h3 := laidMetH.filter tabKeep h
  rw [h1, MakeChecks.laidMetH_plain _ _ _ (by kernel_rfl)] at h3
  have hT := tz_of_head h3
  refine ⟨fun k => sl.getD (k - 1) ⟨0, 0, none⟩, ⟨hv, ?_, Nat.le_refl _⟩, hT⟩
  have a := World.block_lt_of_cell? _ _ (hv 21 (by omega) (by omega))
  have b := World.block_lt_of_cell? _ _ (hT 0 (by decide))
  simp at a b
  omega
end Go.Proofs.YtoodpajbefffhaaDoor
