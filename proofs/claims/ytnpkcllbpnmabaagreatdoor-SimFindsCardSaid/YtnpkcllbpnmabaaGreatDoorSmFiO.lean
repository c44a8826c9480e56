import Derived.Test.YtnpkcllbpnmabaaGreatDoorSmFi
import Derived.Test.YtnpkcllbpnmabaaGreatDoorSmO0
import Derived.Test.YtnpkcllbpnmabaaGreatDoorSeCxB
namespace Go.Proofs.YtnpkcllbpnmabaaGreatDoor
open Go.RowKit
set_option maxRecDepth 100000 in
theorem simFinds_open {H : Type} {enc : TypeId × Value → H} {d0 d1 d2 : DataW H} {p0 p1 p2 : List MemPlace} {q : Prop} (W : World) (base : Nat) (v0 v1 v2 : Value)
  (h0 : DataW.Trod enc Tryz.prog W 0 (fun _ => true) true 9 v0 d0 p0) (h1 : DataW.Trod enc Tryz.prog W 0 (fun _ => true) true 9 v1 d1 p1) (h2 : DataW.Trod enc Tryz.prog W 0 (fun _ => true) true 4 v2 d2 p2)
  (k0 : Value.okWide Tryz.prog W .any base 9 v0) (k1 : Value.okWide Tryz.prog W .any base 9 v1) (k2 : Value.okWide Tryz.prog W .any base 4 v2) (_ : q)
  (hL : laidMetH Tryz.prog Rows.simFindsRow.laid W) :
  Calls Tryz.prog 3 #[v0, v1, v2] W fun e W' => e = .returned (.bool true) ∧ Below W.heap.size W W' := by
 obtain ⟨s0, rfl, rfl, _, _⟩ := Go.ChangeMaps.open_string Tryz.underlying9 k0 h0
 obtain ⟨s1, rfl, rfl, _, _⟩ := Go.ChangeMaps.open_string Tryz.underlying9 k1 h1
 obtain ⟨g2, rfl, rfl, _⟩ := RowKit.open_bool Tryz.underlying4 k2 h2
 obtain ⟨e, hsn⟩ := snt_of_laid2 (by kernel_rfl) (by kernel_rfl) hL
 have hes := snt_esW hsn
 obtain ⟨cf, hcf⟩ := classes_ok
 exact sfinds_any cf hcf e s0 s1 g2 W hsn hes hsn.ety
end Go.Proofs.YtnpkcllbpnmabaaGreatDoor
