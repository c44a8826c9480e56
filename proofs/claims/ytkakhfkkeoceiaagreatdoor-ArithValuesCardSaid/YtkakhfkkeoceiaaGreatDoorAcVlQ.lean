import Derived.Test.YtkakhfkkeoceiaaGreatDoorAcVl
import Derived.Test.YtkakhfkkeoceiaaGreatDoorAcLd
import Derived.Test.YtkakhfkkeoceiaaGreatDoorRows
namespace Go.Proofs.YtkakhfkkeoceiaaGreatDoor
open Go.RowKit
set_option maxRecDepth 100000 in
theorem arithValues_open {H : Type} {enc : TypeId × Value → H} {d0 : DataW H} {p0 : List MemPlace} {q : Prop} (W : World) (base : Nat) (v0 : Value)
  (h0 : DataW.Trod enc Tryz.prog W 0 (fun _ => true) true 9 v0 d0 p0)
  (k0 : Value.okWide Tryz.prog W .any base 9 v0) (_ : q)
  (hL : laidMetH Tryz.prog Rows.arithValuesRow.laid W) :
  Calls Tryz.prog 5 #[v0] W fun e W' => e = .returned (.bool true) ∧ Below W.heap.size W W' := by
 obtain ⟨s, rfl, rfl, _, hz⟩ := Go.ChangeMaps.open_string Tryz.underlying9 k0 h0
 obtain ⟨sn, hs, hT⟩ := ac_snt ⟨("math/bits.deBruijn32tab", Rows.laid_math_bits_deBruijn32tab), ("math/bits.deBruijn64tab", Rows.laid_math_bits_deBruijn64tab), by kernel_rfl⟩ (by kernel_rfl) hL
 exact arithValues_any s sn W (by unfold maxLen at hz; omega) hs hT
end Go.Proofs.YtkakhfkkeoceiaaGreatDoor
