/- SetRanges' call, opened. -/
import Derived.Test.YtllhpahbpeemaaaDoorSeRgs
import Derived.Test.YtllhpahbpeemaaaDoorRows
namespace Go.Proofs.YtllhpahbpeemaaaDoor
open Go.RowKit

set_option maxRecDepth 100000 in
theorem setRanges_open {H : Type} {enc : TypeId × Value → H} {d0 d1 : DataW H} {p0 p1 : List MemPlace} {q : Prop} (W : World) (base : Nat) (v0 v1 : Value)
    (h0 : DataW.Trod enc Tryd.prog W 0 (fun _ => true) true 5 v0 d0 p0) (h1 : DataW.Trod enc Tryd.prog W 0 (fun _ => true) true 5 v1 d1 p1)
    (k0 : Value.okWide Tryd.prog W .any base 5 v0) (k1 : Value.okWide Tryd.prog W .any base 5 v1) (_ : q) (hL : laidMetH Tryd.prog Rows.setRangesRow.laid W) :
    Calls Tryd.prog 10 #[v0, v1] W fun e W' => e = .returned (.bool true) ∧ Below W.heap.size W W' := by
  obtain ⟨n, rfl, rfl, rfl, wx⟩ := ChangeShapes.open_int Tryd.underlying5 k0 h0
  obtain ⟨m, rfl, rfl, rfl, wy⟩ := ChangeShapes.open_int Tryd.underlying5 k1 h1
  have bx := byte_wf wx
  have byy := byte_wf wy
  obtain ⟨a, rfl⟩ := Int.eq_ofNat_of_zero_le bx.1
  obtain ⟨b, rfl⟩ := Int.eq_ofNat_of_zero_le byy.1
  exact ranges_any a b (by omega) (by omega) W (tz_of_laid1 (by kernel_rfl) (x := ("math/bits.deBruijn32tab", Rows.laid_math_bits_deBruijn32tab)) (by kernel_rfl) hL)
end Go.Proofs.YtllhpahbpeemaaaDoor
