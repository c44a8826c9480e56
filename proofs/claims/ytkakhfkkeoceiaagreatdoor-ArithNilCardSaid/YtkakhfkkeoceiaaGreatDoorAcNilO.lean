import Derived.Test.YtkakhfkkeoceiaaGreatDoorAcNil
import Derived.Test.YtkakhfkkeoceiaaGreatDoorAcLd
namespace Go.Proofs.YtkakhfkkeoceiaaGreatDoor
open Go.RowKit Go.Extern.Stop Go.Stop Go.Extern
theorem arithNil_open (W : World) (_base : Nat) {q : Prop} (_ : q) (hL : laidMetH Tryz.prog Rows.arithNilRow.laid W) :
  Calls Tryz.prog 7 #[] W fun e W' => e = .returned (.bool true) ∧ Below W.heap.size W W' := by
 obtain ⟨s, hs, hT⟩ := ac_snt ⟨("math/bits.deBruijn32tab", Rows.laid_math_bits_deBruijn32tab), ("math/bits.deBruijn64tab", Rows.laid_math_bits_deBruijn64tab), by kernel_rfl⟩ (by kernel_rfl) hL
 exact arithNil_any s W hs hT
end Go.Proofs.YtkakhfkkeoceiaaGreatDoor
