import Derived.Test.YtkakhfkkeoceiaaGreatDoorKWr
import Derived.Test.YtkakhfkkeoceiaaGreatDoorFaSents
import Derived.Stop.LaidErr
import Derived.Lib.LaidTab
namespace Go.Proofs.YtkakhfkkeoceiaaGreatDoor
open Go.RowKit Go.Extern.Stop Go.Stop Go.Extern
theorem ar_of_laid {W : World} {L : List (String × DataW Unit)} (hH : L.filter (fun x => x.2.handleName?.isSome) = [])
  (hL : ∃ x y, L = x :: y :: ("internal/strconv.uint64pow10", Lib.tabData .u64 Lib.pow10Tab) :: sentNames.map sd)
  (h : laidMetH Tryz.prog L W) : ∃ s, Er W s ∧ TP W := by
 unfold laidMetH at h
 rw [hH] at h
 obtain ⟨x, y, rfl⟩ := hL
 have h2 := laidMet.tail (laidMet.tail h)
 have t2 := Lib.tabIs_of_head (g := 23) (t := 261) (e := 133) (n := 20) (by kernel_rfl) (by kernel_rfl) (by kernel_rfl) (by kernel_rfl) (by kernel_rfl) (by kernel_rfl) h2
 obtain ⟨sl, _, hv⟩ := sents_vars (laidMet.tail h2)
 refine ⟨fun k => sl.getD (k - 1) ⟨0, 0, none⟩, ⟨hv, ?_⟩, t2⟩
 have := hv 21 (by omega) (by omega)
 rcases Nat.lt_or_ge 22 W.heap.size with h' | h'
 ·exact h'
 ·simp [World.cell?, Array.getElem?_eq_none h'] at this
end Go.Proofs.YtkakhfkkeoceiaaGreatDoor
