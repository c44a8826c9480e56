import Derived.Test.YtnecadgoiolpgaaGreatDoorSmLa
import Derived.Test.YtnecadgoiolpgaaGreatDoorSmO0
import Derived.Test.YtnecadgoiolpgaaGreatDoorSeCxB
namespace Go.Proofs.YtnecadgoiolpgaaGreatDoor
open Go.RowKit
set_option maxRecDepth 100000 in
theorem simLater_open {H : Type} {enc : TypeId × Value → H} {d0 d1 d2 d3 d4 : DataW H} {p0 p1 p2 p3 p4 : List MemPlace} {q : Prop} (W : World) (base : Nat) (v0 v1 v2 v3 v4 : Value)
  (h0 : DataW.Trod enc Tryz.prog W 0 (fun _ => true) true 22 v0 d0 p0) (h1 : DataW.Trod enc Tryz.prog W 0 (fun _ => true) true 4 v1 d1 p1) (h2 : DataW.Trod enc Tryz.prog W 0 (fun _ => true) true 22 v2 d2 p2) (h3 : DataW.Trod enc Tryz.prog W 0 (fun _ => true) true 3 v3 d3 p3) (h4 : DataW.Trod enc Tryz.prog W 0 (fun _ => true) true 3 v4 d4 p4)
  (k0 : Value.okWide Tryz.prog W .any base 22 v0) (k1 : Value.okWide Tryz.prog W .any base 4 v1) (k2 : Value.okWide Tryz.prog W .any base 22 v2) (k3 : Value.okWide Tryz.prog W .any base 3 v3) (k4 : Value.okWide Tryz.prog W .any base 3 v4) (_ : q)
  (hL : laidMetH Tryz.prog Rows.simLaterRow.laid W) :
  Calls Tryz.prog 9 #[v0, v1, v2, v3, v4] W fun e W' => e = .returned (.bool true) ∧ Below W.heap.size W W' := by
 obtain ⟨l0, hs0, _⟩ := sl_of_w k0 h0
 obtain ⟨g1, rfl, rfl, _⟩ := RowKit.open_bool Tryz.underlying4 k1 h1
 obtain ⟨l2, hs2, _⟩ := sl_of_w k2 h2
 obtain ⟨i3, rfl, rfl, rfl, w3⟩ := ChangeShapes.open_int Tryz.underlying3 k3 h3
 obtain ⟨i4, rfl, rfl, rfl, w4⟩ := ChangeShapes.open_int Tryz.underlying3 k4 h4
 obtain ⟨e, hsn⟩ := snt_of_laid2 (by kernel_rfl) (by kernel_rfl) hL
 have hes := snt_esW hsn
 obtain ⟨cf, hcf⟩ := classes_ok
 exact slater_any cf hcf e v0 v2 l0 l2 g1 i3 i4 W hsn hes hsn.ety hs0 (okw_blk k0) hs2
end Go.Proofs.YtnecadgoiolpgaaGreatDoor
