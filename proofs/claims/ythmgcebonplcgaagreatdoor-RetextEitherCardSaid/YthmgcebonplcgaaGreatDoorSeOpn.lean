/- A set that comes in, opened; from the row's condition on the table of trailing noughts to TZ. -/
import Derived.Test.YthmgcebonplcgaaGreatDoorKSy
import Derived.Test.YthmgcebonplcgaaGreatDoorScOpen
import Derived.Lib.LaidTab
import Derived.LaidMore
import Derived.Stop.LaidErr
import Derived.ChangeMaps5
namespace Go.Proofs.YthmgcebonplcgaaGreatDoor
open Go.RowKit

def bruijnZ : List Int := [0, 1, 56, 2, 57, 49, 28, 3, 61, 58, 42, 50, 38, 29, 17, 4, 62, 47, 59, 36, 45, 43, 51, 22, 53, 39, 33, 30, 24, 18, 12, 5, 63, 55, 48, 27, 60, 41, 37, 16, 46, 35, 44, 21, 52, 32, 23, 11, 54, 26, 40, 15, 34, 20, 31, 10, 25, 14, 19, 9, 13, 8, 7, 6]
theorem tz_of_tab {W : World} (t1 : Lib.TabIs Tryz.prog W "math/bits.deBruijn64tab" .u8 bruijnZ) : TZ W := by
  have hg : Tryz.prog.globalNamed "math/bits.deBruijn64tab" = some 22 := by kernel_rfl
  intro j hj
  have hall : ((List.range 64).all fun j => decide (bruijnZ[j]? = some ((Lib.deBruijn64tab.getD j 0 : Nat) : Int))) = true := by kernel_rfl
  have hj' : j < 64 := hj
  have h1 := List.all_eq_true.1 hall j (by simpa using hj')
  simp only [decide_eq_true_eq] at h1
  have hl : j < bruijnZ.length := hj'
  have h2 := t1.cell hg j hl
  rw [h2, List.getD_eq_getElem?_getD, h1]
  rfl
theorem tz_of_head {W : World} {r : List (String × DataW Unit)} (h : laidMet Tryz.prog (("math/bits.deBruijn64tab", Lib.tabData .u8 bruijnZ) :: r) W) : TZ W :=
  tz_of_tab (Lib.tabIs_of_head (g := 22) (t := 169) (e := 5) (n := 64) (by kernel_rfl) (by kernel_rfl) (by kernel_rfl) (by kernel_rfl) (by kernel_rfl) (by kernel_rfl) h)
end Go.Proofs.YthmgcebonplcgaaGreatDoor
