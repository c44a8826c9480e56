import Derived.Test.YtnecadgoiolpgaaGreatDoorSmAp
import Derived.Test.YtnecadgoiolpgaaGreatDoorSmO0
import Derived.Test.YtnecadgoiolpgaaGreatDoorSeCxB
namespace Go.Proofs.YtnecadgoiolpgaaGreatDoor
open Go.RowKit
set_option maxRecDepth 100000 in
theorem simApart_open {H : Type} {enc : TypeId × Value → H} {d0 d1 d2 : DataW H} {p0 p1 p2 : List MemPlace} {q : Prop} (W : World) (base : Nat) (v0 v1 v2 : Value)
  (h0 : DataW.Trod enc Tryz.prog W 0 (fun _ => true) true 22 v0 d0 p0) (h1 : DataW.Trod enc Tryz.prog W 0 (fun _ => true) true 4 v1 d1 p1) (h2 : DataW.Trod enc Tryz.prog W 0 (fun _ => true) true 22 v2 d2 p2)
  (k0 : Value.okWide Tryz.prog W .any base 22 v0) (k1 : Value.okWide Tryz.prog W .any base 4 v1) (k2 : Value.okWide Tryz.prog W .any base 22 v2) (_ : q)
  (hL : laidMetH Tryz.prog Rows.simApartRow.laid W) :
  Calls Tryz.prog 6 #[v0, v1, v2] W fun e W' => e = .returned (.bool true) ∧ Below W.heap.size W W' := by
 obtain ⟨l0, hs0, _⟩ := sl_of_w k0 h0
 obtain ⟨g1, rfl, rfl, _⟩ := RowKit.open_bool Tryz.underlying4 k1 h1
 obtain ⟨l2, hs2, _⟩ := sl_of_w k2 h2
 obtain ⟨e, hsn⟩ := snt_of_laid2 (by kernel_rfl) (by kernel_rfl) hL
 have hes := snt_esW hsn
 obtain ⟨cf, hcf⟩ := classes_ok
 exact sapart_any cf hcf e v0 v2 l0 l2 g1 W hsn hes hsn.ety hs0 (okw_blk k0) hs2
end Go.Proofs.YtnecadgoiolpgaaGreatDoor
