/- SetMorgan's call, opened. -/
import Derived.Test.YtllhpahbpeemaaaDoorSeMrg
import Derived.Test.YtllhpahbpeemaaaDoorSeOpn
import Derived.Test.YtllhpahbpeemaaaDoorRows
namespace Go.Proofs.YtllhpahbpeemaaaDoor
open Go.RowKit

set_option maxRecDepth 100000 in
theorem setMorgan_open {H : Type} {enc : TypeId × Value → H} {d0 d1 : DataW H} {p0 p1 : List MemPlace} {q : Prop} (W : World) (base : Nat) (v0 v1 : Value)
    (h0 : DataW.Trod enc Tryd.prog W 0 (fun _ => true) true 24 v0 d0 p0) (h1 : DataW.Trod enc Tryd.prog W 0 (fun _ => true) true 24 v1 d1 p1)
    (k0 : Value.okWide Tryd.prog W .any base 24 v0) (k1 : Value.okWide Tryd.prog W .any base 24 v1) (_ : q) (hL : laidMetH Tryd.prog Rows.setMorganRow.laid W) :
    Calls Tryd.prog 7 #[v0, v1] W fun e W' => e = .returned (.bool true) ∧ Below W.heap.size W W' := by
  obtain ⟨p, rfl⟩ := set_of k0 h0
  obtain ⟨q, rfl⟩ := set_of k1 h1
  exact morgan_any p q W (tz_of_laid0 (by kernel_rfl) (by kernel_rfl) hL)
end Go.Proofs.YtllhpahbpeemaaaDoor
