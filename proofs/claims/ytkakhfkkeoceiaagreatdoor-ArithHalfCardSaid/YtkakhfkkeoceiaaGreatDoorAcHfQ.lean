import Derived.Test.YtkakhfkkeoceiaaGreatDoorKHf
import Derived.Test.YtkakhfkkeoceiaaGreatDoorAcLd
import Derived.Test.YtkakhfkkeoceiaaGreatDoorScOpen
import Derived.Test.YtkakhfkkeoceiaaGreatDoorRows
namespace Go.Proofs.YtkakhfkkeoceiaaGreatDoor
open Go.RowKit
set_option maxRecDepth 100000 in
theorem arithHalf_open {H : Type} {enc : TypeId × Value → H} {d0 d1 : DataW H} {p0 p1 : List MemPlace} {q : Prop} (W : World) (base : Nat) (v0 v1 : Value)
  (h0 : DataW.Trod enc Tryz.prog W 0 (fun _ => true) true 39 v0 d0 p0) (h1 : DataW.Trod enc Tryz.prog W 0 (fun _ => true) true 9 v1 d1 p1)
  (k0 : Value.okWide Tryz.prog W .any base 39 v0) (k1 : Value.okWide Tryz.prog W .any base 9 v1) (_ : q)
  (hL : laidMetH Tryz.prog Rows.arithHalfRow.laid W) :
  Calls Tryz.prog 10 #[v0, v1] W fun e W' => e = .returned (.bool true) ∧ Below W.heap.size W W' := by
 obtain ⟨s, rfl, rfl, _, hz⟩ := Go.ChangeMaps.open_string Tryz.underlying9 k1 h1
 obtain ⟨l, hl⟩ := sl_of k0 h0
 obtain ⟨sn, hs, hT⟩ := ac_er (by kernel_rfl) ⟨("math/bits.deBruijn32tab", Rows.laid_math_bits_deBruijn32tab), ("math/bits.deBruijn64tab", Rows.laid_math_bits_deBruijn64tab), by kernel_rfl⟩ hL
 exact arithHalf_any v0 l s sn W hl (by unfold maxLen at hz; omega) hs hT
end Go.Proofs.YtkakhfkkeoceiaaGreatDoor
