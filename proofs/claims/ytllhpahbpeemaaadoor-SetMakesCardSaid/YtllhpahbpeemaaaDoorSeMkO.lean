/- SetMakes' call, opened. -/
import Derived.Test.YtllhpahbpeemaaaDoorSeMks
import Derived.Test.YtllhpahbpeemaaaDoorRows
namespace Go.Proofs.YtllhpahbpeemaaaDoor
open Go.RowKit

set_option maxRecDepth 100000 in
theorem setMakes_open {H : Type} {enc : TypeId × Value → H} {d0 d1 d2 d3 d4 : DataW H} {p0 p1 p2 p3 p4 : List MemPlace} {q : Prop} (W : World) (base : Nat) (v0 v1 v2 v3 v4 : Value)
    (h0 : DataW.Trod enc Tryd.prog W 0 (fun _ => true) true 9 v0 d0 p0) (h1 : DataW.Trod enc Tryd.prog W 0 (fun _ => true) true 5 v1 d1 p1) (h2 : DataW.Trod enc Tryd.prog W 0 (fun _ => true) true 5 v2 d2 p2)
    (h3 : DataW.Trod enc Tryd.prog W 0 (fun _ => true) true 24 v3 d3 p3) (h4 : DataW.Trod enc Tryd.prog W 0 (fun _ => true) true 24 v4 d4 p4)
    (k0 : Value.okWide Tryd.prog W .any base 9 v0) (k1 : Value.okWide Tryd.prog W .any base 5 v1) (k2 : Value.okWide Tryd.prog W .any base 5 v2)
    (k3 : Value.okWide Tryd.prog W .any base 24 v3) (k4 : Value.okWide Tryd.prog W .any base 24 v4) (_ : q) (hL : laidMetH Tryd.prog Rows.setMakesRow.laid W) :
    Calls Tryd.prog 3 #[v0, v1, v2, v3, v4] W fun e W' => e = .returned (.bool true) ∧ Below W.heap.size W W' := by
  obtain ⟨s, rfl, hs, _, _⟩ := Go.ChangeMaps.open_string Tryd.underlying9 k0 h0
  obtain ⟨n, rfl, rfl, rfl, wx⟩ := ChangeShapes.open_int Tryd.underlying5 k1 h1
  obtain ⟨m, rfl, rfl, rfl, wy⟩ := ChangeShapes.open_int Tryd.underlying5 k2 h2
  obtain ⟨p, rfl⟩ := set_of k3 h3
  obtain ⟨q, rfl⟩ := set_of k4 h4
  have bx := byte_wf wx
  have byy := byte_wf wy
  obtain ⟨a, rfl⟩ := Int.eq_ofNat_of_zero_le bx.1
  obtain ⟨b, rfl⟩ := Int.eq_ofNat_of_zero_le byy.1
  exact makes_any s a b p q (by unfold maxLen at *; omega) (by omega) (by omega) W (tz_of_laid0 (by kernel_rfl) (by kernel_rfl) hL)
end Go.Proofs.YtllhpahbpeemaaaDoor
