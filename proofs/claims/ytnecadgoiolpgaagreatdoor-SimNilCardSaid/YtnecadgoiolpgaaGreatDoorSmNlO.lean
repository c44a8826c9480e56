import Derived.Test.YtnecadgoiolpgaaGreatDoorSmNl
import Derived.Test.YtnecadgoiolpgaaGreatDoorSmO0
namespace Go.Proofs.YtnecadgoiolpgaaGreatDoor
open Go.RowKit
set_option maxRecDepth 100000 in
theorem simNil_open {H : Type} {enc : TypeId × Value → H} {d0 d1 : DataW H} {p0 p1 : List MemPlace} {q : Prop} (W : World) (base : Nat) (v0 v1 : Value)
  (h0 : DataW.Trod enc Tryz.prog W 0 (fun _ => true) true 22 v0 d0 p0) (h1 : DataW.Trod enc Tryz.prog W 0 (fun _ => true) true 3 v1 d1 p1)
  (k0 : Value.okWide Tryz.prog W .any base 22 v0) (k1 : Value.okWide Tryz.prog W .any base 3 v1) (_ : q)
  (hL : laidMetH Tryz.prog Rows.simNilRow.laid W) :
  Calls Tryz.prog 4 #[v0, v1] W fun e W' => e = .returned (.bool true) ∧ Below W.heap.size W W' := by
 obtain ⟨l0, hs0, _⟩ := sl_of_w k0 h0
 obtain ⟨i1, rfl, rfl, rfl, w1⟩ := ChangeShapes.open_int Tryz.underlying3 k1 h1
 obtain ⟨e, hsn⟩ := snt_of_laid2 (by kernel_rfl) (by kernel_rfl) hL
 have hes := snt_esW hsn
 exact snil_any e v0 l0 i1 W hsn hes hsn.ety hs0
end Go.Proofs.YtnecadgoiolpgaaGreatDoor
