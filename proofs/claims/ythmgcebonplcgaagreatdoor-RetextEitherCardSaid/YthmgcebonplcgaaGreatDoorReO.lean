/- From the row's condition to what stage 8's walks want. -/
import Derived.Test.YthmgcebonplcgaaGreatDoorKTb
import Derived.Test.YthmgcebonplcgaaGreatDoorKFs
import Derived.Test.YthmgcebonplcgaaGreatDoorSeOpn
import Derived.Test.YthmgcebonplcgaaGreatDoorRows
import Derived.LaidSub
import Derived.MakeChecks
namespace Go.Proofs.YthmgcebonplcgaaGreatDoor
open Go.RowKit

theorem db_of_tz {W : World} (h : TZ W) : DB W := ⟨(h 1 (by decide)).trans rfl, (h 3 (by decide)).trans rfl, (h 7 (by decide)).trans rfl, (h 15 (by decide)).trans rfl⟩
def sentKeepR (x : String × DataW Unit) : Bool := (sentNames.map (·.1)).contains x.1 || x.2.handleName?.isSome
def tabKeep (x : String × DataW Unit) : Bool := x.1 == "math/bits.deBruijn64tab"
def powKeep (x : String × DataW Unit) : Bool := x.1 == "internal/strconv.uint64pow10"
theorem re_of_laid {W : World} {L : List (String × DataW Unit)} (h1 : L.filter tabKeep = [("math/bits.deBruijn64tab", Lib.tabData .u8 bruijnZ)]) (h2 : (L.filter sentKeepR).filter (fun x => x.2.handleName?.isNone) = sentNames.map sd)
    (h3 : (L.filter sentKeepR).filter (fun x => x.2.handleName?.isSome) = [("errors.errorType", .iface "internal/reflectlite.rtype" (.agg [.ptr (.lit (.string [101, 114, 114, 111, 114]))]))])
    (h4 : L.filter powKeep = [("internal/strconv.uint64pow10", Lib.tabData .u64 Lib.pow10Tab)]) (h : laidMetH Tryz.prog L W) :
    ∃ e, Es W W.heap.size e ∧ (∃ s, Snt W s) ∧ Ety W ∧ TZ W ∧ DB W ∧ TPr W := by
  obtain ⟨s, hs⟩ := snt_of_laid2 h2 h3 (laidMetH.filter sentKeepR h)
  have h5 := laidMetH.filter tabKeep h
  rw [h1, MakeChecks.laidMetH_plain _ _ _ (by kernel_rfl)] at h5
  have hT := tz_of_head h5
  have h6 := laidMetH.filter powKeep h
  rw [h4, MakeChecks.laidMetH_plain _ _ _ (by kernel_rfl)] at h6
  have hP : TPr W := Lib.tabIs_of_head (g := 23) (t := 189) (e := 34) (n := 20) (by kernel_rfl) (by kernel_rfl) (by kernel_rfl) (by kernel_rfl) (by kernel_rfl) (by kernel_rfl) h6
  refine ⟨s, ⟨hs.var, ?_, Nat.le_refl _⟩, ⟨s, hs⟩, hs.ety, hT, db_of_tz hT, hP⟩
  have a := World.block_lt_of_cell? _ _ (hs.var 21 (by omega) (by omega))
  have b := World.block_lt_of_cell? _ _ (hT 0 (by decide))
  simp at a b
  omega
end Go.Proofs.YthmgcebonplcgaaGreatDoor
